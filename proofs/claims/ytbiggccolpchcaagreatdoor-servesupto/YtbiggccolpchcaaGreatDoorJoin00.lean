/- Joined. -/
import Derived.Lib.Bytealg
import Derived.Lib.Strings
import Derived.Lib.SlTrimSet
import Derived.Shelf.Strings.SlTrimAscii
import Derived.Shelf.Strings.Builder1
import Derived.Shelf.Strings.Builder2
import Derived.Shelf.Strings.OnBuilder
import Derived.Shelf.Strings.Trim
import Derived.Shelf.Small.Utf8
import Derived.Shelf.Small.Bits
import Derived.Shelf.Small.Strs
import Derived.Shelf.Small.Wraps
import Derived.Shelf.Strings.BuilderF
import Derived.Shelf.Strings.BuilderK
import Derived.Shelf.Strconv.Itoa0
import Derived.Shelf.Strconv.Itoa1
import Derived.Shelf.LaysM
import Derived.Shelf.Strconv.Itoa2
import Derived.Shelf.Strconv.Itoa3
import Derived.Shelf.Strconv.Itoa4
import Derived.Shelf.Strconv.Clone
import Derived.Shelf.Strings.Search1
import Derived.Shelf.Strings.Search2
import Derived.Shelf.Strings.Search3
import Derived.Shelf.Strings.Cut
import Derived.Shelf.Strings.Count
import Derived.Shelf.Strings.Shaped
import Derived.Shelf.Sort.Plain
import Derived.Shelf.Strings.Prefix
import Derived.Shelf.Strings.Split
import Derived.Shelf.Strings.Runes
import Derived.Shelf.Strings.IndexAny
import Derived.Shelf.Strings.AsciiSet
import Derived.Shelf.Strings.IndexAnyAll
import Derived.Shelf.Unicode.DecodeSlow
import Derived.Shelf.Slices.Turned
import Derived.Ground.Names2Prog
import Derived.Shelf.Slices.Clone
import Derived.Shelf.Slices.In.SortNone
import Derived.Ground.SlgfProg
import Derived.Shelf.SlicesE.IndexFunc
import Derived.Test.YtbiggccolpchcaaGreatDoorProg
import Derived.Test.YtbiggccolpchcaaGreatDoorRows
import Derived.WalkKit
import Derived.WalkSpells
import Derived.WalkLawsBesides
import Derived.Conc.MuLone
import Derived.KernelRfl
import Derived.Lib.Split
import Derived.Lib.SplitLaws
import Derived.Laws.RangeAny
import Derived.BigQuiet
import Derived.Deep.QuietTactic
import Derived.WalkMore
import Derived.Deep.LoopGhost
set_option maxRecDepth 100000
set_option maxHeartbeats 4000000
namespace Go.Proofs.YtbiggccolpchcaaGreatDoor
section
open Go.RowKit _root_.Go.Proofs.Tryz
abbrev L8:=List UInt8
abbrev By:=ByteArray
abbrev Oa:=Option Addr
abbrev Bw(w v:World):=Below w.heap.size w v
abbrev A0z:=@List.length_append
abbrev A1z:=@ByteArray.toList_eq
abbrev A2z:=@List.setIfInBounds_toArray
abbrev A3z:=@Bool.and_eq_true
abbrev A4z:=@List.take_succ_eq_append_getElem
abbrev A5z:=@List.set_cons_succ
abbrev A6z:=@List.length_drop
abbrev A7z:=@List.set_cons_zero
abbrev A8z:=@List.length_map
abbrev A9z:=@List.length_cons
abbrev B0z:=@List.length_take
abbrev B1z:=@List.map_cons
abbrev B2z:=@List.map_append
abbrev B3z:=@List.cons_append
abbrev B4z:=@List.getElem_append_left
abbrev B5z:=@Option.mem_toList
abbrev B6z:=@List.getElem?_cons_succ
abbrev B7z:=@List.getElem_cons_zero
abbrev B8z:=@Nat.lt_or_ge
abbrev B9z:=@Bool.eq_iff_iff
abbrev C0z:=@List.length_nil
abbrev C1z:=@Nat.zero_add
abbrev C2z:=@List.getElem_append_right
abbrev C3z:=@List.mem_cons
abbrev C4z:=@List.mem_singleton
abbrev C5z:=@List.append_assoc
abbrev C6z:=@Bool.false_eq_true
abbrev C7z:=@Bool.and_false
abbrev C8z:=@ByteArray.data_append
abbrev C9z:=@Bool.false_and
abbrev D0z:=@List.getElem?_take
abbrev D1z:=@Nat.mul_le_mul_right
abbrev D2z:=@List.getD_eq_getElem?_getD
abbrev D3z:=@List.mem_append
abbrev D4z:=@Bool.true_and
abbrev D5z:=@Bool.true_or
abbrev D6z:=@List.drop_zero
abbrev D7z:=@Array.toList_append
abbrev D8z:=@Bool.false_or
abbrev D9z:=@List.append_nil
abbrev E0z:=@List.map_nil
abbrev E1z:=@Nat.lt_succ_self
abbrev E2z:=@List.drop_drop
abbrev E3z:=@List.getElem?_map
abbrev E4z:=@List.take_append_drop
abbrev E5z:=@List.mem_map
abbrev E6z:=@List.map_map
abbrev E7z:=@ByteArray.size_append
abbrev E8z:=@List.take_length
abbrev E9z:=@List.dropWhile_cons_of_pos
abbrev F0z:=@Nat.succ_mul
abbrev F1z:=@List.getElem?_append_right
abbrev F2z:=@List.flatMap_cons
abbrev F3z:=@List.drop_eq_getElem_cons
abbrev F4z:=@List.nil_append
abbrev F5z:=@List.getElem?_append_left
abbrev F6z:=@Nat.le_of_lt
abbrev F7z:=@Nat.lt_of_le_of_lt
abbrev F8z:=@List.ext_getElem
abbrev F9z:=@Bool.not_true
theorem bA (w:World) (o:Obj):Bw w (w.alloc o):=(Below.refl w.heap.size w).alloc (Nat.le_refl _) o
abbrev Aa:=@cell_later
abbrev Ab:=@Lib.cell_of_heap
abbrev Ac:=@Nat.le_refl
abbrev Ad:=@Below.refl
abbrev Ae:=@bodyPost_ret
abbrev Af:=@Nat.lt_of_lt_of_le
abbrev Ag:=@heap_alloc_new
abbrev Ah:=@Nat.zero_le
abbrev Ai:=@Lib.frozen_of_heap
abbrev Aj:=@Nat.le_trans
abbrev Ak:=@decide_eq_true
abbrev Al:=@Nat.le_succ
abbrev Am:=@World.ownsRow_nil
abbrev Ao:=@decide_eq_false
abbrev Ap:=@block_lt_of_cell
abbrev Aq:=@List.take_of_length_le
abbrev Ar:=@beq_eq_false_iff_ne
abbrev As:=@List.getElem_mem
abbrev Au:=@World.cell?_of_block
abbrev Av:=@List.getElem?_eq_getElem
abbrev Aw:=@Below.heap_setCell
abbrev Ax:=@List.getElem_cons_drop
abbrev Ay:=@List.eq_nil_of_length_eq_zero
abbrev Az:=@List.drop_eq_nil_of_le
abbrev Ba:=@Below.heap_alloc
end
end Go.Proofs.YtbiggccolpchcaaGreatDoor
namespace Go.Proofs.YtbiggccolpchcaaGreatDoor.Pm
open _root_.Go.Proofs.Tryz
def a2u:L8:=[33,35,36,37,38,39,42,43,45,46,94,95,124,126,96]
def a0u(c:UInt8):Bool:=decide (48<=(c.toNat:Int))&&decide ((c.toNat:Int)<=57)
def a2f(c:UInt8):Bool:=(decide (65<=(c.toNat:Int))&&decide ((c.toNat:Int)<=90))||(decide (97<=(c.toNat:Int))&&decide ((c.toNat:Int)<=122))
def a4r(c:UInt8):Bool:=a2f c||a0u c||decide (0<=Lib.indexByte a2u c)
def a0k(l:L8):Bool:=l.all a4r
def a2c(l:L8):Bool:=!l.isEmpty&&a0k l
theorem a0l(l:L8)(c:UInt8):a0k (l++[c])=(a0k l&&a4r c):=by simp[a0k]
theorem a0m{l:L8}{k:Nat}(h:a0k (l.take k)=false):a0k l=false:=by
 cases hc:a0k l
 ·rfl
 ·have h2:a0k (l.take k)=true:=List.all_eq_true.2 λx hx=>List.all_eq_true.1 hc x (List.mem_of_mem_take hx);rw[h]at h2;exact h2.symm
def dval(c:UInt8):Int:=
 if 48<=c.toNat/\c.toNat<=57 then(c.toNat:Int)-48
 else if 97<=c.toNat/\c.toNat<=102 then(c.toNat:Int)-97+10
 else if 65<=c.toNat/\c.toNat<=70 then(c.toNat:Int)-65+10 else 16
def digsB(base:Int)(l:L8):Bool:=l.all λc=>decide (dval c<base)
def a3o(base:Int)(l:L8):Int:=l.foldl (λn c=>n*base+dval c) 0
theorem a1c(c:UInt8):0<=dval c/\dval c<=16:=by
 unfold dval;split
 ·omega
 ·split
  ·omega
  ·split<;>omega
theorem a3q(base:Int)(l:L8)(c:UInt8):a3o base (l++[c])=a3o base l*base+dval c:=by
 simp[a3o]
theorem a0y(base:Int)(l:L8)(c:UInt8):digsB base (l++[c])=(digsB base l&&decide (dval c<base)):=by
 simp[digsB]
theorem b3S(base:Int)(r:L8)(hb:0<=base)(hb2:base<=16)(h:digsB base r.reverse=true):
  0<=a3o base r.reverse/\a3o base r.reverse<16 ^ r.length:=by
 induction r with
 |nil=>simp[a3o]
 |cons c r ih=>
  rw[List.reverse_cons]at h ⊢;rw[a0y,A3z]at h;have i:=ih h.1;have hd:dval c<base:=by simpa using h.2
  have d0:=(a1c c).1;rw[a3q,A9z,Int.pow_succ];refine⟨by have:=Int.mul_nonneg i.1 hb;omega,?_⟩;have h1:a3o base r.reverse*base<=(16 ^ r.length-1)*16:=
   Int.le_trans (Int.mul_le_mul_of_nonneg_left hb2 i.1) (Int.mul_le_mul_of_nonneg_right (by omega) (by omega))
  have h2:((16:Int) ^ r.length-1)*16=16 ^ r.length*16-16:=by rw[Int.sub_mul];omega
  omega
theorem a3p(base:Int)(l:L8)(hb:0<=base)(hb2:base<=16)(h:digsB base l=true)(hl:l.length<=9):
  0<=a3o base l/\a3o base l<68719476736:=by
 have:=b3S base l.reverse hb hb2 (by simpa using h);simp only[List.reverse_reverse,List.length_reverse]at this;refine⟨this.1,Int.lt_of_lt_of_le this.2 ?_⟩;have hp:(16:Int) ^ l.length<=16 ^ 9:=by have:=Nat.pow_le_pow_right (n:=16) (by omega) hl;exact_mod_cast this
 exact Int.le_trans hp (by decide)
def a3i(base most:Int)(l:L8):Bool:=decide (1<=l.length)&&decide ((l.length:Int)<=most)&&digsB base l
def a3h(base most:Int)(l:L8):Int:=if a3i base most l=true then a3o base l else 0
def a3e(base most:Int)(l:L8):Int:=if a3i base most l=true then 0 else 1
def a3f(base most:Int)(l:L8):Int:=if a3i base most l=true then a3o base l else -1
theorem a0z{base:Int}{l:L8}{k:Nat}(h:digsB base (l.take k)=false):digsB base l=false:=by
 cases hc:digsB base l
 ·rfl
 ·have h2:digsB base (l.take k)=true:=List.all_eq_true.2 λx hx=>List.all_eq_true.1 hc x (List.mem_of_mem_take hx);rw[h]at h2;exact h2.symm
theorem a3j{base most:Int}{l:L8}(h:(l.length:Int)<1\/most<l.length):a3i base most l=false:=by
 cases hc:a3i base most l
 ·rfl
 ·simp only[a3i,A3z,decide_eq_true_eq]at hc;omega
theorem a3k{base most:Int}{l:L8}(h:digsB base l=false):a3i base most l=false:=by simp[a3i,h]
theorem a3m{base most:Int}{l:L8}(h1:1<=(l.length:Int))(h2:(l.length:Int)<=most)(h:digsB base l=true):a3i base most l=true:=by
 simp only[a3i,A3z,decide_eq_true_eq];exact⟨⟨by omega,h2⟩,h⟩
theorem a3g{base most:Int}{l:L8}(hb:0<=base)(hb2:base<=16)(hm:most<=9):-1<=a3f base most l/\a3f base most l<68719476736:=by
 unfold a3f;split
 ·rename_i h
  simp only[a3i,A3z,decide_eq_true_eq]at h;have:=a3p base l hb hb2 h.2 (by omega);omega
 ·omega
def a0n:L8:=[48,49,50,51,52,53,54,55,56,57,97,98,99,100,101,102,103,104,105,106,107,108,109,110,111,112,113,114,115,116,117,118,119,120,121,122,65,66,67,68,69,70,71,72,73,74,75,76,77,78,79,80,81,82,83,84,85,86,87,88,89,90,33,35,36,37,38,39,42,43,45,46,94,95,124,126,96]
def a1m:L8:=[65,66,67,68,69,70,71,72,73,74,75,76,77,78,79,80,81,82,83,84,85,86,87,88,89,90]
def a0x:L8:=[48,49,50,51,52,53,54,55,56,57,97,98,99,100,101,102]
def a4k:L8:=[97,98,99,100,101,102,103,104,105,106,107,108,109,110,111,112,113,114,115,116,117,118,119,120,121,122]
def a1k(c:UInt8):Int:=Lib.indexByte a1m c
def small(c:UInt8):UInt8:=if 0<=a1k c then c+32 else c
theorem a0g{p:UInt8->Bool}(h:(List.range 256).all (λn=>p n.toUInt8)=true)(c:UInt8):p c=true:=by
 have:=List.all_eq_true.1 h c.toNat (by simpa using c.toNat_lt);simpa using this
theorem a1l(c:UInt8):-1<=a1k c/\a1k c<=25:=by
 have:=a0g (p:=λc=>decide (-1<=a1k c/\a1k c<=25)) (by decide +kernel) c;simpa using this
theorem a4i(c:UInt8)(h:a1k c<0):small c=c:=by unfold small;rw[if_neg (by omega)]
theorem a4j(c:UInt8)(j:Nat)(h:a1k c=j):((a4k.drop j).take 1)=[small c]:=by
 have:=a0g (p:=λc=>decide (a1k c<0)||(((a4k.drop (a1k c).toNat).take 1)==[small c])) (by decide +kernel) c;have h2:decide (a1k c<0)=false:=Ao (by omega);rw[h2,h]at this;simpa using this
theorem a4s(c:UInt8):decide (0<=Lib.indexByte a0n c)=a4r c:=by
 have:=a0g (p:=λc=>decide (0<=Lib.indexByte a0n c)==a4r c) (by decide +kernel) c;simpa using this
theorem a0v(c:UInt8):Lib.indexByte (a0x.take 10) (small c)=if dval c<10 then dval c else -1:=by
 have:=a0g (p:=λc=>Lib.indexByte (a0x.take 10) (small c)==if dval c<10 then dval c else -1) (by decide +kernel) c;simpa using this
theorem a0w(c:UInt8):Lib.indexByte a0x (small c)=if dval c<16 then dval c else -1:=by
 have:=a0g (p:=λc=>Lib.indexByte a0x (small c)==if dval c<16 then dval c else -1) (by decide +kernel) c;simpa using this
def unesc:L8->Option (List UInt8)
 |[]=>some []
 |c::a::b::r=>if c=37 then(if digsB 16 [a,b]=true then(unesc r).map (λl=>(a3o 16 [a,b]).toNat.toUInt8::l)else none)else(unesc (a::b::r)).map (λl=>c::l)
 |[c]=>if c=37 then none else some [c]
 |[c,a]=>if c=37 then none else if a=37 then none else some [c,a]
theorem unesc_plain(c:UInt8)(r:L8)(h:c≠37):unesc (c::r)=(unesc r).map (λl=>c::l):=by
 match r with
 |[]=>simp[unesc,h]
 |[a]=>by_cases ha:a=37<;>simp[unesc,h,ha]
 |a::b::r=>rw[unesc,if_neg h]
theorem a5c(r:L8)(h:r.length<2):unesc (37::r)=none:=by
 match r,h with
 |[],_=>rfl
 |[a],_=>rfl
theorem a5b(a b:UInt8)(r:L8):unesc (37::a::b::r)=if digsB 16 [a,b]=true then(unesc r).map (λl=>(a3o 16 [a,b]).toNat.toUInt8::l)else none:=by
 rw[unesc,if_pos rfl]
def ahead(c:UInt8)(l:L8):L8:=l.takeWhile (· != c)
def behind(c:UInt8)(l:L8):L8:=l.dropWhile (· != c)
theorem Zn(l:L8):unesc l=(unesc (behind 37 l)).map (λr=>ahead 37 l++r):=by
 induction l with
 |nil=>simp[unesc,ahead,behind]
 |cons c l ih=>
  by_cases h:c=37
  ·subst h;simp[ahead,behind]
  ·rw[unesc_plain c l h,ih];have hc:(c != 37)=true:=by simpa using h
   simp[ahead,behind,hc,Function.comp_def]
theorem take_snoc(s:By)(k:Nat)(h:k<s.size):s.data.toList.take (k+1)=s.data.toList.take k++[s[k]]:=by
 rw[A4z (by simpa using h)];rfl
theorem a3z(s:By)(k:Nat)(h:k<s.size):(s.data.toList.drop k).take (k+1-k)=[s[k]]:=by
 have h2:k<s.data.toList.length:=by simpa using h
 rw[F3z h2,show k+1-k=1 from by omega];rfl
def a3b(c:UInt8)(k:Nat)(l:L8):Prop:=∀x∈l.take k,x≠c
theorem a3d(c:UInt8)(l:L8):a3b c 0 l:=by intro x hx;simp at hx
theorem a3c(s:By)(c:UInt8)(k:Nat)(h:k<s.size)(hn:a3b c k s.data.toList)(he:¬s[k]=c):a3b c (k+1) s.data.toList:=by
 intro x hx;rw[take_snoc s k h,D3z]at hx;rcases hx with hx|hx
 ·exact hn x hx
 ·simp at hx;subst hx;exact he
theorem Ru(l:L8)(c:UInt8)(h:∀x∈l,x≠c):Lib.indexByte l c=-1:=by
 induction l with
 |nil=>rfl
 |cons b l ih=>
  have hb:(b==c)=false:=by simpa using h b (by simp)
  have hi:=ih λx hx=>h x (by simp[hx]);simp[Lib.indexByte,hb,hi]
theorem Zo(l r:L8)(c:UInt8)(h:∀x∈l,x≠c):Lib.indexByte (l++c::r) c=l.length:=by
 induction l with
 |nil=>simp[Lib.indexByte]
 |cons b l ih=>
  have hb:(b==c)=false:=by simpa using h b (by simp)
  have hi:=ih λx hx=>h x (by simp[hx]);have hn:((l.length:Int)==-1)=false:=by rw[Ar];omega
  simp[Lib.indexByte,hb,hi,hn]
theorem a1r(s:By)(c:UInt8)(k:Nat)(h:k<s.size)(hn:a3b c k s.data.toList)(he:s[k]=c):(k:Int)=Lib.indexByte s.data.toList c:=by
 have h1:s.data.toList=s.data.toList.take k++c::s.data.toList.drop (k+1):=by
  have h2:=(E4z (k+1) s.data.toList).symm;rw[take_snoc s k h,he]at h2;simpa using h2
 rw[h1,Zo _ _ _ hn];simp;omega
theorem a1t(s:By)(c:UInt8)(h:a3b c s.size s.data.toList):Lib.indexByte s.data.toList c=-1:=by
 refine Ru _ _ ?_;unfold a3b at h
 rwa [Aq (by simp)]at h
theorem a0c(c:UInt8)(l:L8):ahead c l++behind c l=l:=List.takeWhile_append_dropWhile
theorem Rv(c:UInt8)(l:L8):∀x∈ahead c l,x≠c:=by
 induction l with
 |nil=>intro x hx;simp[ahead]at hx
 |cons b l ih=>
  intro x hx;by_cases hb:b=c
  ·simp[ahead,hb]at hx
  ·have hb':(b != c)=true:=by simpa using hb
   simp only[ahead,List.takeWhile_cons,hb',if_true,C3z]at hx;rcases hx with rfl|hx
   ·exact hb
   ·exact ih x hx
theorem a0r(c:UInt8)(l:L8):behind c l=[]\/∃r,behind c l=c::r:=by
 induction l with
 |nil=>left;rfl
 |cons b l ih=>
  by_cases hb:b=c
  ·right;exact⟨l,by simp[behind,hb]⟩
  ·have hb':(b != c)=true:=by simpa using hb
   have h1:behind c (b::l)=behind c l:=by simp only[behind,List.dropWhile_cons,hb',if_true]
   rw[h1];exact ih
theorem a1u{c:UInt8}{l r:L8}(h:behind c l=c::r):Lib.indexByte l c=(ahead c l).length:=by
 have h1:=a0c c l;rw[h]at h1;have h2:=Zo (ahead c l) r c (Rv c l);rw[h1]at h2;exact h2
theorem a1s{c:UInt8}{l:L8}(h:behind c l=[]):Lib.indexByte l c=-1/\ahead c l=l:=by
 have h1:=a0c c l;rw[h,D9z]at h1;refine⟨?_,h1⟩;have h2:=Ru (ahead c l) c (Rv c l)
 rwa [h1]at h2
theorem a4o(c:UInt8)(l:L8):l.take (ahead c l).length=ahead c l:=by
 have h:=congrArg (List.take (ahead c l).length) (a0c c l);rw[List.take_left]at h;exact h.symm
theorem a1a(c:UInt8)(l:L8):l.drop (ahead c l).length=behind c l:=by
 have h:=congrArg (List.drop (ahead c l).length) (a0c c l);rw[List.drop_left]at h;exact h.symm
theorem a3r(a b:UInt8)(h:digsB 16 [a,b]=true):0<=a3o 16 [a,b]/\a3o 16 [a,b]<=255:=by
 simp only[digsB,List.all_cons,List.all_nil,Bool.and_true,A3z,decide_eq_true_eq]at h;have h1:=a1c a;have h2:=a1c b;simp only[a3o,List.foldl_cons,List.foldl_nil];omega
theorem a3l(most:Int)(a b:UInt8)(h:2<=most):a3i 16 most [a,b]=digsB 16 [a,b]:=by
 have h1:decide ((([a,b]:L8).length:Int)<=most)=true:=Ak (by simpa using h);unfold a3i;rw[h1];rfl
def a0b(all out rest:L8):Prop:=unesc all=(unesc rest).map (λr=>out++r)
theorem a0b.start(l:L8):a0b l [] l:=by simp[a0b]
theorem a0b.plain{all out:L8}{c:UInt8}{r:L8}(h:a0b all out (c::r))(hc:c≠37):a0b all (out++[c]) r:=by
 unfold a0b at *;rw[h,unesc_plain c r hc];simp[Function.comp_def]
theorem a0b.esc{all out:L8}{a b:UInt8}{r:L8}(h:a0b all out (37::a::b::r))(hd:digsB 16 [a,b]=true):a0b all (out++[(a3o 16 [a,b]).toNat.toUInt8]) r:=by
 unfold a0b at *;rw[h,a5b,if_pos hd];simp[Function.comp_def]
theorem a0b.bad{all out:L8}{a b:UInt8}{r:L8}(h:a0b all out (37::a::b::r))(hd:digsB 16 [a,b]=false):unesc all=none:=by
 unfold a0b at h;rw[h,a5b,if_neg (by simp[hd])];rfl
theorem a0b.short{all out r:L8}(h:a0b all out (37::r))(hr:r.length<2):unesc all=none:=by
 unfold a0b at h;rw[h,a5c r hr];rfl
theorem a0b.done{all out:L8}(h:a0b all out []):unesc all=some out:=by
 unfold a0b at h;rw[h];simp[unesc]
theorem a0b.ahead{all out r:L8}(h:a0b all out r):a0b all (out++Pm.ahead 37 r) (behind 37 r):=by
 unfold a0b at *;rw[h,Zn r];simp[Function.comp_def]
def unT(l:L8):By:=⟨((unesc l).getD []).toArray⟩
def unE(l:L8):Int:=if(unesc l).isSome then 0 else 3
theorem a5a{l o:L8}(h:unesc l=some o):unT l=⟨o.toArray⟩:=by simp[unT,h]
theorem a4z{l:L8}(h:unesc l=none):unT l=⟨#[]⟩:=by simp[unT,h]
theorem a4y{l o:L8}(h:unesc l=some o):unE l=0:=by simp[unE,h]
theorem a4x{l:L8}(h:unesc l=none):unE l=3:=by simp[unE,h]
theorem a1b(s:By)(k:Nat)(h:k<s.size):s.data.toList.drop k=s[k]::s.data.toList.drop (k+1):=by
 rw[F3z (by simpa using h)];rfl
theorem a4v(s:By)(k:Nat)(h:k+2<s.size):(s.extract (k+1) (k+3)).data.toList=[s[k+1],s[k+2]]:=by
 obtain⟨⟨l⟩⟩:=s;have h':k+2<l.length:=h;rw[ByteArray.extract_mk];show(l.drop (k+1)).take (k+3-(k+1))=_;rw[F3z (by omega),F3z (by omega),show k+3-(k+1)=2 from by omega];rfl
def a2q:List (Int×L8)->Int->L8
 |[],_=>[83,116,97,116,117,115]
 |(c,t)::r,n=>if c=n then t else a2q r n
def a0t:List (Int×L8):=[(200,[79,75]),
 (301,[77,111,118,101,100,32,80,101,114,109,97,110,101,110,116,108,121]),
 (308,[80,101,114,109,97,110,101,110,116,32,82,101,100,105,114,101,99,116]),
 (400,[66,97,100,32,82,101,113,117,101,115,116]),
 (403,[70,111,114,98,105,100,100,101,110]),
 (404,[78,111,116,32,70,111,117,110,100]),
 (405,[77,101,116,104,111,100,32,78,111,116,32,65,108,108,111,119,101,100]),
 (413,[67,111,110,116,101,110,116,32,84,111,111,32,76,97,114,103,101]),
 (431,[82,101,113,117,101,115,116,32,72,101,97,100,101,114,32,70,105,101,108,100,115,32,84,111,111,32,76,97,114,103,101]),
 (500,[73,110,116,101,114,110,97,108,32,83,101,114,118,101,114,32,69,114,114,111,114]),
 (501,[78,111,116,32,73,109,112,108,101,109,101,110,116,101,100]),
 (505,[72,84,84,80,32,86,101,114,115,105,111,110,32,78,111,116,32,83,117,112,112,111,114,116,101,100])]
def a4h(n:Int):By:=⟨(a2q a0t n).toArray⟩
def a0h(p:UInt8->Bool)(l:L8):Bool:=l.all p
theorem a0i(p:UInt8->Bool)(l:L8)(c:UInt8):a0h p (l++[c])=(a0h p l&&p c):=by simp[a0h]
theorem a0j{p:UInt8->Bool}{l:L8}{k:Nat}(h:a0h p (l.take k)=false):a0h p l=false:=by
 cases hc:a0h p l
 ·rfl
 ·have h2:a0h p (l.take k)=true:=List.all_eq_true.2 λx hx=>List.all_eq_true.1 hc x (List.mem_of_mem_take hx);rw[h]at h2;exact h2.symm
def a4q(c:UInt8):Bool:=decide (33<=(c.toNat:Int))&&decide ((c.toNat:Int)<=126)&&decide ((c.toNat:Int)≠35)
def a5d(c:UInt8):Bool:=decide ((c.toNat:Int)=9)||(decide (32<=(c.toNat:Int))&&decide ((c.toNat:Int)≠127))
def low(c:UInt8):UInt8:=if 65<=c.toNat/\c.toNat<=90 then c+32 else c
theorem a2r(c:UInt8):(low c).toNat=if 65<=c.toNat/\c.toNat<=90 then c.toNat+32 else c.toNat:=by
 have:=a0g (p:=λc=>(low c).toNat==if 65<=c.toNat/\c.toNat<=90 then c.toNat+32 else c.toNat) (by decide +kernel) c;simpa using this
def a0d(a b:L8):Bool:=a.map low==b.map low
def a1x(l:L8):Bool:=decide (l.length<=16)&&a2c l
def a2a(l:L8):Bool:=Lib.hasPrefix l [47]&&(a0h a4q l&&(unesc (ahead 63 l)).isSome)
def a1p:L8:=[72,84,84,80,47]
def a5e(l:L8):Bool:=match l with
 |[a,b,c]=>a0u a&&(b==46&&a0u c)
 |_=>false
def a2e(l:L8):Bool:=Lib.hasPrefix l a1p&&a5e (Lib.trimPrefix l a1p)
def a0s:L8:=[32,9]
def a2d(v:L8):Bool:=a0h a5d v&&(Lib.trimS v a0s==v)
def a1w(n v:L8):Bool:=a2c n&&a2d v
def a1d(l:L8):Option (List UInt8×L8):=
 if(!(behind 58 l).isEmpty&&a1w (ahead 58 l) (Lib.trimS ((behind 58 l).drop 1) a0s))=true then some (ahead 58 l,Lib.trimS ((behind 58 l).drop 1) a0s)else none
def a1z(l:L8):Bool:=(unesc l).isSome&&Lib.hasPrefix l [47]
theorem a2b(l:L8):a2a l=(a1z (ahead 63 l)&&a0h a4q l):=by
 have h:Lib.hasPrefix (ahead 63 l) [47]=Lib.hasPrefix l [47]:=by
  cases l with
  |nil=>rfl
  |cons c l=>
   unfold ahead Lib.hasPrefix;by_cases hc:c=63
   ·subst hc;simp[List.isPrefixOf]
   ·rw[List.takeWhile_cons_of_pos (by simpa using hc)];simp[List.isPrefixOf]
 unfold a2a a1z;rw[h]
 cases Lib.hasPrefix l [47]<;>cases a0h a4q l<;>cases(unesc (ahead 63 l)).isSome<;>rfl
theorem a4w(l:L8):decide (unE l=0)=(unesc l).isSome:=by
 unfold unE;cases(unesc l).isSome<;>simp
theorem a4p{a b:L8}{k:Nat}(hl:a.length=b.length)(h:a.length<=k)(he:(a.take k).map low=(b.take k).map low):a0d a b=true:=by
 rw[Aq h,Aq (by omega)]at he;simp[a0d,he]
theorem a0f{a b:L8}(h:a.length≠b.length):a0d a b=false:=by
 rw[a0d,Ar];intro he;have:=congrArg List.length he;simp at this;exact h this
theorem a0e{a b:By}{k:Nat}(ha:k<a.size)(hb:k<b.size)(h:low a[k]≠low b[k]):a0d a.data.toList b.data.toList=false:=by
 rw[a0d,Ar];intro he;have h1:(a.data.toList.map low)[k]?=(b.data.toList.map low)[k]?:=by rw[he]
 rw[E3z,E3z,Av (by simpa using ha),Av (by simpa using hb)]at h1;simp only[Option.map_some,Option.some.injEq]at h1;exact h h1
theorem a2s{a b:By}{k:Nat}(ha:k<a.size)(hb:k<b.size)(h:low a[k]=low b[k])(he:(a.data.toList.take k).map low=(b.data.toList.take k).map low):
  (a.data.toList.take (k+1)).map low=(b.data.toList.take (k+1)).map low:=by
 rw[take_snoc a k ha,take_snoc b k hb,B2z,B2z,he];simp[h]
end Go.Proofs.YtbiggccolpchcaaGreatDoor.Pm
namespace Go.Proofs
open Go.Shelf
def Tryz.lays170_ren:Go.Shelf.Ren:=⟨fun|170=>300|n=>n,fun|70=>263|3=>3|0=>0|72=>265|37=>211|5=>5|n=>n,fun|n=>n⟩
theorem Tryz.lays170:Go.Proofs.Lays.n170 Tryz.prog Tryz.lays170_ren:=by constructor<;>first|kernel_rfl|(intros;kernel_rfl)|simp[go_sem]
open Go.RowKit in
theorem Tryz.Builder_Len(B b:Nat)(bs:List Value)(w:World)(h:Lib.IsBuilder 265 5 B b bs w):
  Calls Tryz.prog 300 #[.pointer (some ⟨b,0,none⟩)] w fun e w'=>e=.returned (.int .i64 bs.length)/\w'=w:=Any.Builder_Len Tryz.lays170 B b bs w h
def Tryz.lays169_ren:Go.Shelf.Ren:=⟨fun|169=>182|n=>n,fun|70=>263|9=>9|0=>0|72=>265|37=>211|127=>319|3=>3|5=>5|n=>n,fun|n=>n⟩
theorem Tryz.lays169:Go.Proofs.Lays.n169 Tryz.prog Tryz.lays169_ren:=by constructor<;>first|kernel_rfl|(intros;kernel_rfl)|simp[go_sem]
theorem Tryz.Builder_Extra_169:Builder.Extra Tryz.prog Tryz.lays169_ren:={
 sizeBuilder:=by kernel_rfl
 liesBuilder:=by kernel_rfl
 t5:=Tryz.underlying5
 a5:=Tryz.isAgg5
 z5:=Tryz.sizeOf5
 v5:=Tryz.zeroValue5
 infoByte:=by kernel_rfl
 cellsByte:=by kernel_rfl
 sizeByte:=by kernel_rfl
 neB5:=by decide}
open Go.RowKit in
theorem Tryz.Builder_String_any(B b:Nat)(l:List UInt8)(w:World)(h:Lib.IsBuilder 265 5 B b (Lib.byteCells l) w)(hBw:B<=w.heap.size):
  Calls Tryz.prog 182 #[.pointer (some ⟨b,0,none⟩)] w fun e w'=>e=.returned (.string ⟨l.toArray⟩)/\Below B w w':=Any.Builder_String_any Tryz.lays169 Tryz.Builder_Extra_169 B b l w h hBw
def Tryz.lays156_ren:Go.Shelf.Ren:=⟨fun|156=>207|165=>255|166=>193|169=>182|240=>239|241=>307|276=>293|277=>349|n=>n,fun|31=>99|9=>9|3=>3|4=>4|0=>0|20=>20|72=>265|76=>281|70=>263|37=>211|75=>267|127=>319|164=>356|5=>5|80=>269|n=>n,fun|n=>n⟩
theorem Tryz.lays156:Go.Proofs.Lays.n156 Tryz.prog Tryz.lays156_ren:=by constructor<;>first|kernel_rfl|(intros;kernel_rfl)|simp[go_sem]
theorem Tryz.Builder_Extra_156:Builder.Extra Tryz.prog Tryz.lays156_ren:={
 sizeBuilder:=by kernel_rfl
 liesBuilder:=by kernel_rfl
 t5:=Tryz.underlying5
 a5:=Tryz.isAgg5
 z5:=Tryz.sizeOf5
 v5:=Tryz.zeroValue5
 infoByte:=by kernel_rfl
 cellsByte:=by kernel_rfl
 sizeByte:=by kernel_rfl
 neB5:=by decide}
open Go.RowKit in
theorem Tryz.strings_Join_none(a:Option Addr)(c:Nat)(sep:ByteArray)(w:World):
  Calls Tryz.prog 207 #[.slice a 0 c,.string sep] w fun e w'=>e=.returned (.string ⟨#[]⟩)/\w'=w:=Any.strings_Join_none Tryz.lays156 Tryz.Builder_Extra_156 a c sep w
open Go.RowKit in
theorem Tryz.strings_Join(bk o c:Nat)(xs:List ByteArray)(sep:ByteArray)(w:World)(hcells:∀(j:Nat) x,xs[j]?=some x->w.cell? ⟨bk,o+j,none⟩=some (.string x))(hbk:bk<w.heap.size)(hN:xs.length<=140737488355328)(hcap:xs.length<=c)(hlen:(Lib.join (xs.map (·.data.toList)) sep.data.toList).length<=140737488355328):
  Calls Tryz.prog 207 #[.slice (some ⟨bk,o,none⟩) xs.length c,.string sep] w fun e w'=>e=.returned (.string ⟨(Lib.join (xs.map (·.data.toList)) sep.data.toList).toArray⟩)/\Below w.heap.size w w':=Any.strings_Join Tryz.lays156 Tryz.Builder_Extra_156 bk o c xs sep w hcells hbk hN hcap hlen
def Tryz.lays160_ren:Go.Shelf.Ren:=⟨fun|160=>302|232=>338|231=>337|227=>339|234=>341|233=>340|236=>343|235=>342|228=>355|271=>364|151=>363|197=>357|120=>373|152=>353|260=>371|137=>237|119=>370|224=>360|225=>359|217=>292|266=>335|n=>n,fun|9=>9|4=>4|3=>3|5=>5|117=>387|116=>386|0=>0|124=>390|21=>21|105=>400|46=>315|119=>411|139=>414|138=>413|n=>n,fun|3=>2|4=>3|n=>n⟩
theorem Tryz.lays160:Go.Proofs.Lays.n160 Tryz.prog Tryz.lays160_ren:=by constructor<;>first|kernel_rfl|(intros;kernel_rfl)|simp[go_sem]
def Tryz.lays137_ren:Go.Shelf.Ren:=⟨fun|137=>237|217=>292|266=>335|n=>n,fun|9=>9|5=>5|3=>3|n=>n,fun|n=>n⟩
theorem Tryz.lays137:Go.Proofs.Lays.n137 Tryz.prog Tryz.lays137_ren:=by constructor<;>first|kernel_rfl|(intros;kernel_rfl)|simp[go_sem]
open Go.RowKit in
theorem Tryz.strings_IndexByte(s:ByteArray)(c:Int)(w:World):
  Calls Tryz.prog 237 #[.string s,.int .u8 c] w fun e w'=>e=.returned (.int .i64 (Lib.indexByte s.data.toList c.toNat.toUInt8))/\w'=w:=Any.strings_IndexByte Tryz.lays137 s c w
def Tryz.lays210_ren:Go.Shelf.Ren:=⟨fun|210=>318|206=>267|n=>n,fun|9=>9|4=>4|3=>3|n=>n,fun|n=>n⟩
def Tryz.lays103_ren:Go.Shelf.Ren:=⟨fun|103=>269|210=>318|206=>267|n=>n,fun|9=>9|4=>4|24=>293|3=>3|n=>n,fun|n=>n⟩
theorem Tryz.lays103:Go.Proofs.Lays.n103 Tryz.prog Tryz.lays103_ren:=by constructor<;>first|kernel_rfl|(intros;kernel_rfl)|simp[go_sem]
open Go.RowKit in
theorem Tryz.strings_CutPrefix(s p:ByteArray)(w:World):
  Calls Tryz.prog 269 #[.string s,.string p] w fun e w'=>e=.returned (.tuple #[.string ⟨(Lib.trimPrefix s.data.toList p.data.toList).toArray⟩,.bool (Lib.hasPrefix s.data.toList p.data.toList)])/\w'=w:=Any.strings_CutPrefix Tryz.lays103 s p w
def Tryz.lays104_ren:Go.Shelf.Ren:=⟨fun|104=>253|211=>305|207=>348|n=>n,fun|9=>9|4=>4|24=>293|3=>3|n=>n,fun|n=>n⟩
theorem Tryz.lays104:Go.Proofs.Lays.n104 Tryz.prog Tryz.lays104_ren:=by constructor<;>first|kernel_rfl|(intros;kernel_rfl)|simp[go_sem]
open Go.RowKit in
theorem Tryz.strings_CutSuffix(s p:ByteArray)(w:World)(hs:s.size<=9223372036854775807):
  Calls Tryz.prog 253 #[.string s,.string p] w fun e w'=>e=.returned (.tuple #[.string ⟨(Lib.trimSuffix s.data.toList p.data.toList).toArray⟩,.bool (Lib.hasSuffix s.data.toList p.data.toList)])/\w'=w:=Any.strings_CutSuffix Tryz.lays104 s p w hs
def Tryz.lays318_ren:Go.Shelf.Ren:=⟨fun|318=>366|n=>n,fun|3=>3|4=>4|n=>n,fun|n=>n⟩
def Tryz.laysM246_ren:Go.Shelf.Ren:=⟨fun|246=>304|283=>344|284=>345|285=>346|286=>347|129=>283|317=>365|318=>366|319=>367|320=>368|337=>374|338=>375|n=>n,fun|2=>2|3=>3|9=>9|4=>4|171=>391|0=>0|53=>351|37=>211|5=>5|173=>393|212=>406|51=>245|20=>20|213=>407|46=>315|232=>415|233=>416|n=>n,fun|17=>1|18=>4|19=>5|n=>n⟩
def Tryz.laysM243_ren:Go.Shelf.Ren:=⟨fun|243=>247|246=>304|283=>344|284=>345|285=>346|286=>347|129=>283|317=>365|318=>366|319=>367|320=>368|337=>374|338=>375|n=>n,fun|3=>3|9=>9|2=>2|4=>4|171=>391|0=>0|53=>351|37=>211|5=>5|173=>393|212=>406|51=>245|20=>20|213=>407|46=>315|232=>415|233=>416|n=>n,fun|17=>1|18=>4|19=>5|n=>n⟩
def Tryz.laysM171_ren:Go.Shelf.Ren:=⟨fun|171=>195|243=>247|246=>304|283=>344|284=>345|285=>346|286=>347|129=>283|317=>365|318=>366|319=>367|320=>368|337=>374|338=>375|n=>n,fun|3=>3|9=>9|2=>2|4=>4|171=>391|0=>0|53=>351|37=>211|5=>5|173=>393|212=>406|51=>245|20=>20|213=>407|46=>315|232=>415|233=>416|n=>n,fun|17=>1|18=>4|19=>5|n=>n⟩
theorem Tryz.laysM171:Go.Proofs.LaysM.n171 Tryz.prog Tryz.laysM171_ren:={
 mixed:=by kernel_rfl
 f129:=Tryz.func283.trans (congrArg some (by kernel_rfl))
 f171:=Tryz.func195.trans (congrArg some (by kernel_rfl))
 f243:=Tryz.func247.trans (congrArg some (by kernel_rfl))
 f246:=Tryz.func304.trans (congrArg some (by kernel_rfl))
 f283:=Tryz.func344.trans (congrArg some (by kernel_rfl))
 f284:=Tryz.func345.trans (congrArg some (by kernel_rfl))
 f285:=Tryz.func346.trans (congrArg some (by kernel_rfl))
 f286:=Tryz.func347.trans (congrArg some (by kernel_rfl))
 f317:=Tryz.func365.trans (congrArg some (by kernel_rfl))
 f318:=Tryz.func366.trans (congrArg some (by kernel_rfl))
 f319:=Tryz.func367.trans (congrArg some (by kernel_rfl))
 f320:=Tryz.func368.trans (congrArg some (by kernel_rfl))
 f337:=Tryz.func374.trans (congrArg some (by kernel_rfl))
 f338:=Tryz.func375.trans (congrArg some (by kernel_rfl))
 t0:=Tryz.underlying0
 a0:=Tryz.isAgg0
 z0:=Tryz.sizeOf0
 v0:=Tryz.zeroValue0
 t2:=Tryz.underlying2
 a2:=Tryz.isAgg2
 z2:=Tryz.sizeOf2
 v2:=Tryz.zeroValue2
 t3:=Tryz.underlying3
 a3:=Tryz.isAgg3
 z3:=Tryz.sizeOf3
 v3:=Tryz.zeroValue3
 t4:=Tryz.underlying4
 a4:=Tryz.isAgg4
 z4:=Tryz.sizeOf4
 v4:=Tryz.zeroValue4
 t5:=Tryz.underlying5
 a5:=Tryz.isAgg5
 z5:=Tryz.sizeOf5
 v5:=Tryz.zeroValue5
 t9:=Tryz.underlying9
 a9:=Tryz.isAgg9
 z9:=Tryz.sizeOf9
 v9:=Tryz.zeroValue9
 t20:=Tryz.underlying20
 a20:=Tryz.isAgg20
 z20:=Tryz.sizeOf20
 v20:=Tryz.zeroValue20
 t37:=Tryz.underlying211
 a37:=Tryz.isAgg211
 z37:=Tryz.sizeOf211
 v37:=Tryz.zeroValue211
 t46:=Tryz.underlying315
 a46:=Tryz.isAgg315
 z46:=Tryz.sizeOf315
 v46:=Tryz.zeroValue315
 t51:=Tryz.underlying245
 a51:=Tryz.isAgg245
 z51:=Tryz.sizeOf245
 v51:=Tryz.zeroValue245
 t53:=Tryz.underlying351
 a53:=Tryz.isAgg351
 z53:=Tryz.sizeOf351
 v53:=Tryz.zeroValue351
 t171:=Tryz.underlying391
 a171:=Tryz.isAgg391
 z171:=Tryz.sizeOf391
 v171:=Tryz.zeroValue391
 t173:=Tryz.underlying393
 a173:=Tryz.isAgg393
 z173:=Tryz.sizeOf393
 v173:=Tryz.zeroValue393
 t212:=Tryz.underlying406
 a212:=Tryz.isAgg406
 z212:=Tryz.sizeOf406
 v212:=Tryz.zeroValue406
 t213:=Tryz.underlying407
 a213:=Tryz.isAgg407
 z213:=Tryz.sizeOf407
 t232:=Tryz.underlying415
 a232:=Tryz.isAgg415
 z232:=Tryz.sizeOf415
 v232:=Tryz.zeroValue415
 t233:=Tryz.underlying416
 a233:=Tryz.isAgg416
 z233:=Tryz.sizeOf416
 v233:=Tryz.zeroValue416
 g17:=by kernel_rfl
 g18:=by kernel_rfl
 g19:=by kernel_rfl
 i0:=by kernel_rfl
 i2:=by kernel_rfl
 i3:=by kernel_rfl
 i4:=by kernel_rfl
 i5:=by kernel_rfl
 i9:=by kernel_rfl
 i20:=by kernel_rfl
 i37:=by kernel_rfl
 i46:=by kernel_rfl
 i51:=by kernel_rfl
 i53:=by kernel_rfl
 i171:=by kernel_rfl
 i173:=by kernel_rfl
 i212:=by kernel_rfl
 i232:=by kernel_rfl
 i233:=by kernel_rfl
 m17:=by kernel_rfl
 m18:=by kernel_rfl
 m19:=by kernel_rfl}
open Go.RowKit Go.Sort Go.Lib in
theorem Tryz.strconv_Itoa(n:Int)(h0:-9223372036854775808<=n)(h1:n<=9223372036854775807)(w:World)(htab:Lib.TabIs Tryz.prog w "internal/strconv.uint64pow10" .u64 Lib.pow10Tab):
  Calls Tryz.prog 195 #[.int .i64 n] w fun e w'=>e=.returned (.string ⟨(Lib.itoa n).toArray⟩)/\∃k os,w'=grow (w.drewN k) os:=Any.strconv_Itoa Tryz.laysM171 n h0 h1 w htab
def Tryz.laysM316_ren:Go.Shelf.Ren:=⟨fun|316=>224|n=>n,fun|9=>9|3=>3|4=>4|37=>211|0=>0|127=>319|5=>5|n=>n,fun|n=>n⟩
theorem Tryz.laysM316:Go.Proofs.LaysM.n316 Tryz.prog Tryz.laysM316_ren:={
 mixed:=by kernel_rfl
 f316:=Tryz.func224.trans (congrArg some (by kernel_rfl))
 t0:=Tryz.underlying0
 a0:=Tryz.isAgg0
 z0:=Tryz.sizeOf0
 v0:=Tryz.zeroValue0
 t3:=Tryz.underlying3
 a3:=Tryz.isAgg3
 z3:=Tryz.sizeOf3
 v3:=Tryz.zeroValue3
 t4:=Tryz.underlying4
 a4:=Tryz.isAgg4
 z4:=Tryz.sizeOf4
 v4:=Tryz.zeroValue4
 t9:=Tryz.underlying9
 a9:=Tryz.isAgg9
 z9:=Tryz.sizeOf9
 v9:=Tryz.zeroValue9
 t37:=Tryz.underlying211
 a37:=Tryz.isAgg211
 z37:=Tryz.sizeOf211
 v37:=Tryz.zeroValue211
 t127:=Tryz.underlying319
 a127:=Tryz.isAgg319
 z127:=Tryz.sizeOf319
 v127:=Tryz.zeroValue319
 t5:=Tryz.underlying5
 a5:=Tryz.isAgg5
 z5:=Tryz.sizeOf5
 v5:=Tryz.zeroValue5
 i0:=by kernel_rfl
 i3:=by kernel_rfl
 i4:=by kernel_rfl
 i5:=by kernel_rfl
 i9:=by kernel_rfl
 i37:=by kernel_rfl
 i127:=by kernel_rfl}
open Go.RowKit in
theorem Tryz.stringslite_Clone(s:ByteArray)(w:World)(hlim:s.size<=281474976710656):
  Calls Tryz.prog 224 #[.string s] w fun e w'=>e=.returned (.string s)/\Below w.heap.size w w':=Any.stringslite_Clone Tryz.laysM316 s w hlim
def Tryz.lays219_ren:Go.Shelf.Ren:=⟨fun|219=>321|217=>292|225=>359|224=>360|267=>361|266=>335|314=>372|n=>n,fun|9=>9|3=>3|4=>4|5=>5|46=>315|146=>409|51=>245|n=>n,fun|1=>0|n=>n⟩
theorem Tryz.lays219:Go.Proofs.Lays.n219 Tryz.prog Tryz.lays219_ren:=by constructor<;>first|kernel_rfl|(intros;kernel_rfl)|simp[go_sem]
open Go.RowKit Go.Lib in
theorem Tryz.stringslite_Index_one(s:ByteArray)(c:UInt8)(w:World):
  Calls Tryz.prog 321 #[.string s,.string ⟨#[c]⟩] w fun e w'=>e=.returned (.int .i64 (Lib.indexByte s.data.toList c))/\w'=w:=Any.stringslite_Index_one Tryz.lays219 s c w
def Tryz.lays190_ren:Go.Shelf.Ren:=⟨fun|190=>163|125=>229|258=>228|128=>282|129=>283|302=>273|303=>274|304=>275|305=>276|306=>277|307=>278|308=>279|309=>280|310=>281|333=>322|329=>323|330=>324|334=>325|335=>326|336=>327|344=>362|n=>n,fun|31=>99|9=>9|3=>3|46=>315|0=>0|51=>245|53=>351|4=>4|183=>343|182=>342|131=>347|5=>5|218=>374|222=>378|228=>402|229=>89|n=>n,fun|n=>n⟩
theorem Tryz.lays190:Go.Proofs.Lays.n190 Tryz.prog Tryz.lays190_ren:=by constructor<;>first|kernel_rfl|(intros;kernel_rfl)|simp[go_sem]
open Go.Sort Go.RowKit in
theorem Tryz.slices_Sort_string(blk off cap:Nat)(ss:List (List UInt8))(w:World)(hH:Holds encStr w blk off ss.toArray)(hblk:blk<w.heap.size)(hsz:ss.length<4611686018427387904):
  Calls Tryz.prog 163 #[.slice (some ⟨blk,off,none⟩) ss.length cap] w fun e w'=>
   e=.returned (.tuple #[])/\∃n os,w'=grow (putRow encStr (Sort.ahead w n) blk off (ss.mergeSort fun x y=>decide (x<=y)).toArray) os:=Any.slices_Sort_string Tryz.lays190 blk off cap ss w hH hblk hsz
def Tryz.lays99_ren:Go.Shelf.Ren:=⟨fun|99=>219|206=>267|n=>n,fun|9=>9|4=>4|3=>3|n=>n,fun|n=>n⟩
theorem Tryz.lays99:Go.Proofs.Lays.n99 Tryz.prog Tryz.lays99_ren:=by constructor<;>first|kernel_rfl|(intros;kernel_rfl)|simp[go_sem]
open Go.RowKit Go.Lib in
theorem Tryz.strings_HasPrefix(s p:ByteArray)(w:World):
  Calls Tryz.prog 219 #[.string s,.string p] w fun e w'=>e=.returned (.bool (Lib.hasPrefix s.data.toList p.data.toList))/\w'=w:=Any.strings_HasPrefix Tryz.lays99 s p w
def Tryz.lays221_ren:Go.Shelf.Ren:=⟨fun|221=>268|268=>315|138=>316|143=>317|195=>356|197=>357|218=>358|219=>321|260=>371|217=>292|225=>359|224=>360|267=>361|266=>335|314=>372|n=>n,fun|9=>9|3=>3|31=>99|4=>4|0=>0|105=>400|21=>21|5=>5|46=>315|119=>411|139=>414|138=>413|146=>409|51=>245|n=>n,fun|1=>0|3=>2|4=>3|n=>n⟩
def Tryz.lays146_ren:Go.Shelf.Ren:=⟨fun|146=>220|221=>268|268=>315|138=>316|143=>317|195=>356|197=>357|218=>358|219=>321|260=>371|217=>292|225=>359|224=>360|267=>361|266=>335|314=>372|n=>n,fun|9=>9|31=>99|3=>3|4=>4|0=>0|105=>400|21=>21|5=>5|46=>315|119=>411|139=>414|138=>413|146=>409|51=>245|n=>n,fun|1=>0|3=>2|4=>3|n=>n⟩
theorem Tryz.lays146:Go.Proofs.Lays.n146 Tryz.prog Tryz.lays146_ren:=by constructor<;>first|kernel_rfl|(intros;kernel_rfl)|simp[go_sem]
open Go.RowKit Go.Lib in
theorem Tryz.strings_Split(s sep:ByteArray)(m:Int)(w:World)(hs:s.size<4294967281)(hm:w.cell? ⟨0,0,none⟩=some (.int .i64 m))(h1:1<=sep.size):
  Calls Tryz.prog 220 #[.string s,.string sep] w fun e w'=>
   e=.returned (.slice (some ⟨w.heap.size,0,none⟩) (Lib.countB s sep+1) (Lib.countB s sep+1))/\w'=w.alloc (.cells ((Lib.splitB sep 0 (Lib.countB s sep) s).map Value.string).toArray 9):=Any.strings_Split Tryz.lays146 (by kernel_rfl) s sep m w hs hm h1
def Tryz.lays152_ren:Go.Shelf.Ren:=⟨fun|152=>353|137=>237|119=>370|224=>360|225=>359|217=>292|266=>335|n=>n,fun|9=>9|21=>21|3=>3|4=>4|5=>5|0=>0|46=>315|n=>n,fun|n=>n⟩
theorem Tryz.lays152:Go.Proofs.Lays.n152 Tryz.prog Tryz.lays152_ren:=by constructor<;>first|kernel_rfl|(intros;kernel_rfl)|simp[go_sem]
open Go.RowKit Go.Lib in
theorem Tryz.strings_IndexRune_ascii(s:ByteArray)(r:Int)(w:World)(h0:0<=r)(h1:r<128):
  Calls Tryz.prog 353 #[.string s,.int .i32 r] w fun e w'=>e=.returned (.int .i64 (Lib.indexByte s.data.toList r.toNat.toUInt8))/\w'=w:=Any.strings_IndexRune_ascii Tryz.lays152 s r w h0 h1
def Tryz.lays226_ren:Go.Shelf.Ren:=⟨fun|226=>354|n=>n,fun|3=>3|4=>4|n=>n,fun|n=>n⟩
theorem Tryz.lays226:Go.Proofs.Lays.n226 Tryz.prog Tryz.lays226_ren:=by constructor<;>first|kernel_rfl|(intros;kernel_rfl)|simp[go_sem]
open Go.RowKit Go.Lib in
theorem Tryz.strings_shouldUseASCIISet(n:Int)(w:World):
  Calls Tryz.prog 354 #[.int .i64 n] w fun e w'=>e=.returned (.bool (decide (8<n)))/\w'=w:=Any.strings_shouldUseASCIISet Tryz.lays226 n w
def Tryz.lays153_ren:Go.Shelf.Ren:=⟨fun|153=>311|152=>353|226=>354|227=>339|228=>355|137=>237|119=>370|224=>360|225=>359|217=>292|266=>335|n=>n,fun|9=>9|3=>3|4=>4|5=>5|21=>21|117=>387|116=>386|0=>0|46=>315|124=>390|n=>n,fun|n=>n⟩
theorem Tryz.lays153:Go.Proofs.Lays.n153 Tryz.prog Tryz.lays153_ren:=by constructor<;>first|kernel_rfl|(intros;kernel_rfl)|simp[go_sem]
def Tryz.lays110_ren:Go.Shelf.Ren:=⟨fun|110=>254|109=>306|n=>n,fun|31=>99|9=>9|4=>4|3=>3|0=>0|n=>n,fun|n=>n⟩
theorem Tryz.lays110:Go.Proofs.Lays.n110 Tryz.prog Tryz.lays110_ren:=by constructor<;>first|kernel_rfl|(intros;kernel_rfl)|simp[go_sem]
open Go.Lib in
theorem Tryz.slices_Contains_string(b off n c:Nat)(zs:List ByteArray)(x:ByteArray)(w:World)(hz:n<=zs.length)(hbig:n<=9223372036854775807)(hc:∀j,j<zs.length->w.cell? ⟨b,off+j,none⟩=some (.string (zs.getD j ByteArray.empty))):
  Calls Tryz.prog 254 #[.slice (some ⟨b,off,none⟩) n c,.string x] w fun e w'=>e=.returned (.bool (Lib.containsS (zs.take n) x))/\w'=w:=Any.slices_Contains_string Tryz.lays110 b off n c zs x w hz hbig hc
open Go.Lib in
theorem Tryz.slices_Contains_string_empty(a:Option Addr)(c:Nat)(x:ByteArray)(w:World):
  Calls Tryz.prog 254 #[.slice a 0 c,.string x] w fun e w'=>e=.returned (.bool false)/\w'=w:=Any.slices_Contains_string_empty Tryz.lays110 a c x w
def Tryz.laysNm215_ren:Go.Shelf.Ren:=⟨fun|15=>170|n=>n,fun|22=>38|3=>3|4=>4|n=>n,fun|n=>n⟩
theorem Tryz.laysNm215:Go.Proofs.Lays2.n15 Tryz.prog Tryz.laysNm215_ren:={
 mixed:=by kernel_rfl
 f15:=Tryz.func170.trans (congrArg some (by kernel_rfl))
 t3:=Tryz.underlying3
 a3:=Tryz.isAgg3
 z3:=Tryz.sizeOf3
 v3:=Tryz.zeroValue3
 t4:=Tryz.underlying4
 a4:=Tryz.isAgg4
 z4:=Tryz.sizeOf4
 v4:=Tryz.zeroValue4
 t22:=Tryz.underlying38
 a22:=Tryz.isAgg38
 z22:=Tryz.sizeOf38
 v22:=Tryz.zeroValue38
 i3:=by kernel_rfl}
open Go.RowKit Go.Lib in
theorem Tryz.slices_Clone_int(b off n c:Nat)(zs:List Int)(w:World)(hz:n<=zs.length)(hbig:n*8<=140737488355328)(hc:∀j,j<zs.length->w.cell? ⟨b,off+j,none⟩=some (.int .i64 (zs.getD j 0))):
  Calls Tryz.prog 170 #[.slice (some ⟨b,off,none⟩) n c] w fun e w'=>∃v',e=.returned v'/\w'.ownsRow w.heap.size 3 1 v' n ((zs.take n).map (Value.int .i64))/\v'≠.slice none 0 0/\Below w.heap.size w w':=Any.slices_Clone_int Tryz.laysNm215 b off n c zs w hz hbig hc
def Tryz.lays167_ren:Go.Shelf.Ren:=⟨fun|167=>181|240=>239|276=>293|n=>n,fun|0=>0|3=>3|4=>4|5=>5|9=>9|20=>20|37=>211|70=>263|72=>265|75=>267|80=>269|164=>356|n=>n,fun|n=>n⟩
theorem Tryz.lays167:Go.Proofs.Lays.n167 Tryz.prog Tryz.lays167_ren:=by constructor<;>first|kernel_rfl|(intros;kernel_rfl)|simp[go_sem]
theorem Tryz.Builder_Extra_167:Builder.Extra Tryz.prog Tryz.lays167_ren:={
 sizeBuilder:=by kernel_rfl
 liesBuilder:=by kernel_rfl
 t5:=Tryz.underlying5
 a5:=Tryz.isAgg5
 z5:=Tryz.sizeOf5
 v5:=Tryz.zeroValue5
 infoByte:=by kernel_rfl
 cellsByte:=by kernel_rfl
 sizeByte:=by kernel_rfl
 neB5:=by decide}
open Go.RowKit in
theorem Tryz.Builder_WriteByte(B b:Nat)(bs:List Value)(c:Int)(w:World)(h:Lib.IsBuilder 265 5 B b bs w)(hlen:bs.length+1<=140737488355328)(hBw:B<=w.heap.size):
  Calls Tryz.prog 181 #[.pointer (some ⟨b,0,none⟩),.int .u8 c] w fun e w'=>e=.returned .nilIface/\(Lib.BuilderAt 265 5 B b (.pointer (some ⟨b,0,none⟩)) (bs++[.int .u8 c]) w'/\Below B w w'):=Any.Builder_WriteByte Tryz.lays167 Tryz.Builder_Extra_167 B b bs c w h hlen hBw
def Tryz.lays166_ren:Go.Shelf.Ren:=⟨fun|166=>193|240=>239|276=>293|n=>n,fun|0=>0|3=>3|4=>4|5=>5|9=>9|20=>20|37=>211|70=>263|72=>265|75=>267|80=>269|164=>356|n=>n,fun|n=>n⟩
theorem Tryz.lays166:Go.Proofs.Lays.n166 Tryz.prog Tryz.lays166_ren:=by constructor<;>first|kernel_rfl|(intros;kernel_rfl)|simp[go_sem]
theorem Tryz.Builder_Extra_166:Builder.Extra Tryz.prog Tryz.lays166_ren:={
 sizeBuilder:=by kernel_rfl
 liesBuilder:=by kernel_rfl
 t5:=Tryz.underlying5
 a5:=Tryz.isAgg5
 z5:=Tryz.sizeOf5
 v5:=Tryz.zeroValue5
 infoByte:=by kernel_rfl
 cellsByte:=by kernel_rfl
 sizeByte:=by kernel_rfl
 neB5:=by decide}
open Go.RowKit in
theorem Tryz.Builder_WriteString(B b:Nat)(bs:List Value)(s:ByteArray)(w:World)(h:Lib.IsBuilder 265 5 B b bs w)(hlen:bs.length+s.size<=140737488355328)(hBw:B<=w.heap.size):
  Calls Tryz.prog 193 #[.pointer (some ⟨b,0,none⟩),.string s] w fun e w'=>e=.returned (.tuple #[.int .i64 s.size,.nilIface])/\(Lib.BuilderAt 265 5 B b (.pointer (some ⟨b,0,none⟩)) (bs++Lib.strCells s) w'/\Below B w w'):=Any.Builder_WriteString Tryz.lays166 Tryz.Builder_Extra_166 B b bs s w h hlen hBw
open Go.RowKit in
theorem Tryz.strings_Trim_laid(s cutset:ByteArray)(w:World)(hs:s.size<=9223372036854775807)(hcs:cutset.size<4294967281)(hascii:∀(j:Nat) b,cutset.data.toList[j]?=some b->b.toNat<128):
  Calls Tryz.prog 302 #[.string s,.string cutset] w fun e w'=>e=.returned (.string ⟨(Lib.trimS s.data.toList cutset.data.toList).toArray⟩)/\Below w.heap.size w w':=Any.strings_Trim_laid Tryz.lays160 (by kernel_rfl) s cutset w hs hcs hascii
end Go.Proofs
namespace Go.Proofs.YtbiggccolpchcaaGreatDoor
open Go.RowKit _root_.Go.Proofs.Tryz
theorem Bd{a b:Bool}(h:a=b):Ending.returned (.bool a)=.returned (.bool b):=by rw[h]
theorem Gf{k:IntKind}{a b:Int}(h:a=b):Ending.returned (.int k a)=.returned (.int k b):=by rw[h]
theorem b0A{c:UInt8}(h:Pm.a0u c=true):48<=(c.toNat:Int)/\(c.toNat:Int)<=57:=by simpa[Pm.a0u]using h
theorem Mr{c:UInt8}(h:Pm.a0u c=false):(c.toNat:Int)<48\/57<(c.toNat:Int):=by
 have h':¬Pm.a0u c=true:=by simp[h]
 simp only[Pm.a0u,A3z,decide_eq_true_eq]at h';omega
theorem c4J{c:UInt8}(h:Pm.a0u c=true):((c.toNat:Int)-48) % 256=Pm.dval c:=by
 have:=b0A h;unfold Pm.dval;rw[if_pos (by omega)];omega
theorem c4K{c:UInt8}(h:Pm.a0u c=false)(h1:97<=(c.toNat:Int))(h2:(c.toNat:Int)<=102):(c.toNat:Int)-97+10=Pm.dval c:=by
 have:=Mr h;unfold Pm.dval;rw[if_neg (by omega),if_pos (by omega)]
theorem c4L{c:UInt8}(h:Pm.a0u c=false)(h1:65<=(c.toNat:Int))(h2:(c.toNat:Int)<=70):(c.toNat:Int)-65+10=Pm.dval c:=by
 have:=Mr h;unfold Pm.dval;rw[if_neg (by omega),if_neg (by omega),if_pos (by omega)]
theorem c4M{c:UInt8}(h:Pm.a0u c=false)(h1:(c.toNat:Int)<97\/102<(c.toNat:Int))(h2:(c.toNat:Int)<65\/70<(c.toNat:Int)):16=Pm.dval c:=by
 have:=Mr h;unfold Pm.dval;rw[if_neg (by omega),if_neg (by omega),if_neg (by omega)]
theorem Ey(c:UInt8)(w:World):
  Calls prog 236 #[.int .u8 c.toNat] w λe w'=>e=.returned (.bool (Pm.a0u c))/\w'=w:=by
 have h0:=c.toNat_lt;go_enter func236,ntmps236;go_wp2
 all_goals
  go_ret;refine⟨Bd ?_,rfl⟩;rw[B9z];simp only[Pm.a0u,A3z,decide_eq_true_eq,C6z,false_iff];omega
theorem He(c:UInt8)(w:World):
  Calls prog 235 #[.int .u8 c.toNat] w λe w'=>e=.returned (.bool (Pm.a2f c))/\w'=w:=by
 have h0:=c.toNat_lt;go_enter func235,ntmps235;go_wp2
 all_goals
  go_ret;refine⟨Bd ?_,rfl⟩;rw[B9z];simp only[Pm.a2f,A3z,Bool.or_eq_true,decide_eq_true_eq,C6z,false_iff,true_iff];omega
theorem Vo(c:UInt8)(w:World):
  Calls prog 238 #[.int .u8 c.toNat] w λe w'=>e=.returned (.int .i64 (Pm.dval c))/\w'=w:=by
 have h0:=c.toNat_lt;go_enter func238,ntmps238;go_wp2_with (first|(go_at_call 236;refine(Ey _ _).mono ?_;rintro e w' ⟨rfl,rfl⟩))
 all_goals
  go_ret;refine⟨Gf ?_,rfl⟩
  first
   |exact c4J (by assumption)
   |exact c4K (by assumption) (by omega) (by omega)
   |exact c4L (by assumption) (by omega) (by omega)
   |exact c4M (by assumption) (by omega) (by omega)
theorem Ki(c:UInt8)(w:World):
  Calls prog 177 #[.int .u8 c.toNat] w λe w'=>e=.returned (.bool (Pm.a4r c))/\w'=w:=by
 have hc:((c.toNat:Int)).toNat.toUInt8=c:=by simp
 go_enter func177,ntmps177;go_wp2_with (first|(go_at_call 236;refine(Ey _ _).mono ?_;rintro e w' ⟨rfl,rfl⟩)|(go_at_call 235;refine(He _ _).mono ?_;rintro e w' ⟨rfl,rfl⟩)|(go_at_call 237;refine(Tryz.strings_IndexByte _ _ _).mono ?_;rintro e w' ⟨rfl,rfl⟩))
 all_goals
  go_ret;refine⟨Bd ?_,rfl⟩;rw[B9z];simp[Pm.a4r,Pm.a2u, *]
  try exact decide_eq_true_iff.symm
theorem a4T(s:By)(w:World)(hs:s.size<=maxLen):
  Calls prog 176 #[.string s,.func (.func 177) #[] #[]] w λe w'=>e=.returned (.bool (Pm.a0k s.data.toList))/\w'=w:=by
 unfold maxLen at hs;go_enter func176,ntmps176;go_wp2_with fail
 go_loop [5,8] (λ_ i=>∃k:Nat,k<=s.size/\i=.int .i64 k/\Hid (Pm.a0k (s.data.toList.take k)=true)) (λ_ i=>s.size-(intOf i).toNat)
 case atStart=>exact⟨0,Ah _,rfl,rfl⟩
 case round=>
  obtain⟨k,hk,rfl,H⟩:=hrel;by_cases hlt:k<s.size
  ·have HS:Hid (Pm.a0k (s.data.toList.take (k+1))=(Pm.a0k (s.data.toList.take k)&&Pm.a4r s[k])):=by rw[Pm.take_snoc s k hlt,Pm.a0l];exact rfl
   cases hb:Pm.a4r s[k]
   ·go_wp2_with (go_at_call 177;refine(Ki _ _).mono ?_;rintro e w' ⟨rfl,rfl⟩);go_ret;refine⟨Bd ?_,rfl⟩;have h1:=HS.out;rw[hb,C7z]at h1;exact(Pm.a0m h1).symm
   ·go_wp2_with (go_at_call 177;refine(Ki _ _).mono ?_;rintro e w' ⟨rfl,rfl⟩)
    go_round
    case rel=>exact⟨k+1,by omega,by go_num,by rw[HS.out,hb,H.out];exact rfl⟩
    case measure=>simp[intOf];omega
  ·go_wp2;go_ret;refine⟨Bd ?_,rfl⟩;have h1:=H.out;rw[Aq (by simp;omega)]at h1;exact h1.symm
theorem Fg(s:By)(w:World)(hs:s.size<=maxLen):
  Calls prog 127 #[.string s] w λe w'=>e=.returned (.bool (Pm.a2c s.data.toList))/\w'=w:=by
 go_enter func127,ntmps127;go_wp2_with (go_at_call 176;refine(a4T _ _ hs).mono ?_;rintro e w' ⟨rfl,rfl⟩)
 all_goals
  have h1:=A1z s;go_ret;refine⟨Bd ?_,rfl⟩
  simp_all [Pm.a2c]
theorem Hf(s:By)(c:UInt8)(w:World)(hs:s.size<=maxLen):
  Calls prog 178 #[.string s,.int .u8 c.toNat] w λe w'=>e=.returned (.int .i64 (Lib.indexByte s.data.toList c))/\w'=w:=by
 unfold maxLen at hs;go_enter func178,ntmps178;go_wp2
 go_loop [5] (λi=>∃k:Nat,k<=s.size/\i=.int .i64 k/\Hid (Pm.a3b c k s.data.toList)) (λi=>s.size-(intOf i).toNat)
 case atStart=>exact⟨0,Ah _,rfl,Pm.a3d _ _⟩
 case round=>
  obtain⟨k,hk,rfl,H⟩:=hrel;by_cases hlt:k<s.size
  ·by_cases he:s[k]=c
   ·have he2:((s[k].toNat:Int)==(c.toNat:Int))=true:=by rw[he];simp
    have HE:Hid (s[k]=c):=he;clear he;go_wp2;go_ret;exact⟨Gf (Pm.a1r s c k hlt H.out HE.out),rfl⟩
   ·have he2:((s[k].toNat:Int)==(c.toNat:Int))=false:=by
     rw[Ar];intro h;exact he (UInt8.toNat_inj.1 (by omega))
    have HE:Hid (¬s[k]=c):=he;clear he;go_wp2
    go_round
    case rel=>exact⟨k+1,by omega,by go_num,Pm.a3c s c k hlt H.out HE.out⟩
    case measure=>simp[intOf];omega
  ·go_wp2;go_ret;exact⟨Gf (Pm.a1t s c (by have:=H.out;rwa [show k=s.size from by omega]at this)).symm,rfl⟩
theorem b3T(s al:By)(w:World)(hs:s.size<=maxLen)(hal:al.data.toList=Pm.a0n):
  Calls prog 128 #[.string s,.string al] w λe w'=>e=.returned (.bool (Pm.a0k s.data.toList))/\w'=w:=by
 unfold maxLen at hs;have hsz:al.size=77:=by
  have:al.data.toList.length=al.size:=by simp
  rw[<-this,hal];rfl
 have HA:Hid (al.data.toList=Pm.a0n):=hal;clear hal;have hsz2:al.size<=maxLen:=by rw[hsz];unfold maxLen;omega
 clear hsz;go_enter func128,ntmps128;go_wp2
 go_loop [5,6] (λi _=>∃k:Nat,k<=s.size/\i=.int .i64 k/\Hid (Pm.a0k (s.data.toList.take k)=true)) (λi _=>s.size-(intOf i).toNat)
 case atStart=>exact⟨0,Ah _,rfl,rfl⟩
 case round=>
  obtain⟨k,hk,rfl,H⟩:=hrel;by_cases hlt:k<s.size
  ·have HS:Hid (Pm.a0k (s.data.toList.take (k+1))=(Pm.a0k (s.data.toList.take k)&&Pm.a4r s[k])):=by rw[Pm.take_snoc s k hlt,Pm.a0l];exact rfl
   have HT:Hid (decide (0<=Lib.indexByte al.data.toList s[k])=Pm.a4r s[k]):=by rw[HA.out];exact Pm.a4s _
   by_cases hb:Lib.indexByte al.data.toList s[k]<0
   ·go_wp2_with (go_at_call 178;refine(Hf _ _ _ hsz2).mono ?_;rintro e w' ⟨rfl,rfl⟩);have h1:=HS.out;rw[<-HT.out,Ao (by omega),C7z]at h1;go_ret;exact⟨Bd (Pm.a0m h1).symm,rfl⟩
   ·go_wp2_with (go_at_call 178;refine(Hf _ _ _ hsz2).mono ?_;rintro e w' ⟨rfl,rfl⟩)
    go_round
    case rel=>exact⟨k+1,by omega,by go_num,by unfold Hid;rw[HS.out,<-HT.out,Ak (by omega),H.out];rfl⟩
    case measure=>simp[intOf];omega
  ·go_wp2;go_ret;refine⟨Bd ?_,rfl⟩;have h1:=H.out;rw[Aq (by simp;omega)]at h1;exact h1.symm
theorem b8X{s:By}(h:Pm.a0k s.data.toList=true):decide (0<s.size)=Pm.a2c s.data.toList:=by
 unfold Pm.a2c;rw[h,Bool.and_true];have h1:s.data.toList.length=s.size:=by simp
 cases hl:s.data.toList with
 |nil=>rw[hl]at h1;simp at h1;simp[<-h1]
 |cons a l=>rw[hl]at h1;simp at h1;simp[<-h1]
theorem b8Y{s:By}(h:¬Pm.a0k s.data.toList=true):false=Pm.a2c s.data.toList:=by
 unfold Pm.a2c;simp[h]
theorem Gg(s:By)(w:World)(hs:s.size<=maxLen):
  Calls prog 70 #[.string s] w λe w'=>e=.returned (.bool (Pm.a2c s.data.toList))/\w'=w:=by
 unfold maxLen at hs;go_enter func70,ntmps70;go_wp2_with (go_at_call 128;refine(b3T _ _ _ hs rfl).mono ?_;rintro e w' ⟨rfl,rfl⟩)
 all_goals
  go_ret;refine⟨Bd ?_,rfl⟩
  first|exact b8X (by assumption)|exact b8Y (by assumption)
theorem c4N(s:By)(c:UInt8)(w:World)(h:s.data.toList=Pm.a1m):
  Calls prog 178 #[.string s,.int .u8 c.toNat] w λe w'=>e=.returned (.int .i64 (Pm.a1k c))/\w'=w:=by
 have h1:s.data.toList.length=s.size:=by simp
 have h2:=Hf s c w (by rw[<-h1,h];unfold maxLen;decide);rw[h]at h2;exact h2
theorem b8Z{s q:By}{k:Nat}(hlt:k<s.size)(H:q.data.toList=(s.data.toList.take k).map Pm.small)(hb:Pm.a1k s[k]<0):
  (q++s.extract k (k+1)).data.toList=(s.data.toList.take (k+1)).map Pm.small:=by
 rw[Pm.take_snoc s k hlt,B2z,C8z,D7z,H,Lib.extract_data];simp only[B1z,E0z,Pm.a4i _ hb,List.append_cancel_left_eq];rw[Pm.a3z s k hlt]
theorem b3U{s q sm:By}{k j:Nat}(hlt:k<s.size)(H:q.data.toList=(s.data.toList.take k).map Pm.small)(hb:Pm.a1k s[k]=j)(hsm:sm.data.toList=Pm.a4k):
  (q++sm.extract j (j+1)).data.toList=(s.data.toList.take (k+1)).map Pm.small:=by
 rw[Pm.take_snoc s k hlt,B2z,C8z,D7z,H,Lib.extract_data,hsm];simp only[B1z,E0z,List.append_cancel_left_eq];rw[<-Pm.a4j _ j hb];simp
theorem Ms(s:By)(w:World)(hs:s.size<=maxLen):
  Calls prog 180 #[.string s] w λe w'=>(∃o:By,e=.returned (.string o)/\o.data.toList=s.data.toList.map Pm.small)/\w'=w:=by
 unfold maxLen at hs;go_enter func180,ntmps180;go_wp2
 go_loop [3,4,5] (λo i _=>∃(k:Nat) (q:By),k<=s.size/\i=.int .i64 k/\o=.string q/\q.size<=k/\Hid (q.data.toList=(s.data.toList.take k).map Pm.small)) (λ_ i _=>s.size-(intOf i).toNat)
 case atStart=>exact⟨0,⟨#[]⟩,Ah _,rfl,rfl,Ac _,rfl⟩
 case round=>
  obtain⟨k,q,hk,rfl,rfl,hq,H⟩:=hrel;by_cases hlt:k<s.size
  ·have hbd:=Pm.a1l s[k];by_cases hb:Pm.a1k s[k]<0
   ·go_wp2_with (go_at_call 178;refine(c4N _ _ _ rfl).mono ?_;rintro e w' ⟨rfl,rfl⟩);refine⟨⟨k+1,_,by omega,by go_num,rfl,?_,b8Z hlt H.out hb⟩,by simp[intOf];omega⟩;simp;omega
   ·obtain⟨j,hj⟩:∃j:Nat,Pm.a1k s[k]=j:=⟨(Pm.a1k s[k]).toNat,by omega⟩;have hj2:j<=25:=by omega
    have HJ:Hid (Pm.a1k s[k]=j):=hj;go_wp2_with (go_at_call 178;refine(c4N _ _ _ rfl).mono ?_;rintro e w' ⟨rfl,rfl⟩);refine⟨⟨k+1,_,by omega,by go_num,rfl,?_,b3U hlt H.out HJ.out rfl⟩,by simp[intOf];omega⟩;simp;omega
  ·go_wp2;go_ret;refine⟨⟨q,rfl,?_⟩,rfl⟩;have h1:=H.out
   rwa [Aq (by simp;omega)]at h1
theorem a4U(s:By)(c:UInt8)(w:World)(h:s.data.toList=[c]):
  Calls prog 180 #[.string s] w λe w'=>e=.returned (.string ⟨#[Pm.small c]⟩)/\w'=w:=by
 have h1:s.data.toList.length=s.size:=by simp
 refine(Ms s w (by rw[<-h1,h];show 1<=maxLen;unfold maxLen;omega)).mono ?_;rintro e w' ⟨⟨o,rfl,ho⟩,rfl⟩;rw[h]at ho;obtain⟨⟨l⟩⟩:=o;simp at ho;subst ho;exact⟨rfl,rfl⟩
end Go.Proofs.YtbiggccolpchcaaGreatDoor
namespace Go.Proofs
abbrev Tryz.muLink:Go.Conc.Locks.MuLink:={lock:=168,unlock:=169,ilock:=231,iunlock:=232,lockSlow:=288,unlockSlow:=291,disable:=284,enable:=286,acquire:=287,relMerge:=289,cas32:=285,add32:=290,tMutex:=249,tIMutex:=247,tPMutex:=316,tPIMutex:=352,tPI32:=354,tUP:=356,tNoCopy:=244,tU32:=245}
theorem Tryz.muLib:Go.Conc.Locks.MuLib Tryz.prog Tryz.muLink:=
  ⟨Tryz.func168,Tryz.func169,Tryz.func231,Tryz.func232,Tryz.func284,Tryz.func286,Tryz.func287,Tryz.func289,Tryz.func285,Tryz.func290,
   Tryz.underlying247,Tryz.runUnderlying247,Tryz.sizeOf247,Tryz.isAgg247,Tryz.zeroValue247,
   Tryz.underlying249,Tryz.runUnderlying249,Tryz.sizeOf249,Tryz.isAgg249,Tryz.zeroValue249,
   Tryz.underlying316,Tryz.runUnderlying316,Tryz.sizeOf316,Tryz.isAgg316,Tryz.zeroValue316,
   Tryz.underlying352,Tryz.runUnderlying352,Tryz.sizeOf352,Tryz.isAgg352,Tryz.zeroValue352,
   Tryz.underlying354,Tryz.runUnderlying354,Tryz.sizeOf354,Tryz.isAgg354,Tryz.zeroValue354,
   Tryz.underlying356,Tryz.runUnderlying356,Tryz.sizeOf356,Tryz.isAgg356,Tryz.zeroValue356,
   Tryz.underlying244,Tryz.runUnderlying244,Tryz.sizeOf244,Tryz.isAgg244,Tryz.zeroValue244,
   Tryz.underlying21,Tryz.runUnderlying21,Tryz.sizeOf21,Tryz.isAgg21,Tryz.zeroValue21,(by kernel_rfl)⟩
end Go.Proofs
namespace Go.Proofs.YtbiggccolpchcaaGreatDoor.Pm
open _root_.Go.Proofs.Tryz
def inB(al:L8)(c:UInt8):Bool:=decide (0<=Lib.indexByte al c)
theorem b0B(c:UInt8):small c=low c:=by
 have:=a0g (p:=λc=>small c==low c) (by decide +kernel) c;simpa using this
theorem a2t(l:L8):l.map small=l.map low:=List.map_congr_left λc _=>b0B c
def a1v(c:UInt8):Bool:=decide ((c.toNat:Int)=32)||decide ((c.toNat:Int)=9)
theorem Iy(c:UInt8):a0s.contains c=a1v c:=by
 have:=a0g (p:=λc=>a0s.contains c==a1v c) (by decide +kernel) c;simpa using this
theorem a4V(c:UInt8)(t:L8):Lib.trimRightS (c::t) a0s=if Lib.trimRightS t a0s=[]/\a1v c=true then[]else c::Lib.trimRightS t a0s:=by
 unfold Lib.trimRightS;rw[List.reverse_cons,List.dropWhile_append]
 cases h:(t.reverse.dropWhile (a0s.contains ·))with
 |nil=>
  simp only[List.isEmpty_nil,if_true,List.reverse_nil,true_and]
  cases hb:a1v c
  ·simp only[List.dropWhile_cons,Iy,hb];simp
  ·simp only[List.dropWhile_cons,Iy,hb];simp
 |cons a r=>simp
theorem a4W{c:UInt8}(t:L8)(h:a1v c=true):Lib.trimS (c::t) a0s=Lib.trimS t a0s:=by
 unfold Lib.trimS;rw[a4V];by_cases h1:Lib.trimRightS t a0s=[]
 ·rw[if_pos ⟨h1,h⟩,h1]
 ·rw[if_neg (λh2=>h1 h2.1)];unfold Lib.trimLeftS;rw[List.dropWhile_cons,Iy,h,if_pos rfl]
theorem b0C{c:UInt8}(t:L8)(h:a1v c=true):Lib.trimS (t++[c]) a0s=Lib.trimS t a0s:=by
 unfold Lib.trimS Lib.trimRightS;rw[List.reverse_append,List.reverse_singleton,List.singleton_append,List.dropWhile_cons,Iy,h,if_pos rfl]
theorem b0D(l:L8)(h1:∀c,l.head?=some c->a1v c=false)(h2:∀c,l.getLast?=some c->a1v c=false):Lib.trimS l a0s=l:=by
 have hr:Lib.trimRightS l a0s=l:=by
  unfold Lib.trimRightS
  cases hl:l.reverse with
  |nil=>simp at hl;subst hl;rfl
  |cons a r=>
   have ha:l.getLast?=some a:=by rw[<-List.head?_reverse,hl];rfl
   rw[List.dropWhile_cons,Iy,h2 a ha];simp only[C6z,if_false];rw[<-hl,List.reverse_reverse]
 unfold Lib.trimS;rw[hr];unfold Lib.trimLeftS
 cases l with
 |nil=>rfl
 |cons a r=>rw[List.dropWhile_cons,Iy,h1 a rfl];rfl
theorem a0q(s:By)(h:0<s.size)(hb:a1v s[0]=true):Lib.trimS s.data.toList a0s=Lib.trimS (s.extract 1 s.size).data.toList a0s:=by
 obtain⟨⟨l⟩⟩:=s
 cases l with
 |nil=>exact absurd h (by simp[ByteArray.size])
 |cons a r=>
  have hb':a1v a=true:=hb;rw[Lib.extract_data];simp only;rw[a4W r hb',List.drop_one,List.tail_cons,Aq (by simp[ByteArray.size])]
theorem a0o(s:By)(h:0<s.size)(hb:a1v s[s.size-1]=true):Lib.trimS s.data.toList a0s=Lib.trimS (s.extract 0 (s.size-1)).data.toList a0s:=by
 have e:s.data.toList=s.data.toList.take (s.size-1)++[s[s.size-1]]:=by
  have:=take_snoc s (s.size-1) (by omega);rw[show s.size-1+1=s.size from by omega,Aq (by simp)]at this;exact this
 rw[e,b0C _ hb,Lib.extract_data];simp
theorem a0p(s:By)(h1:∀h:0<s.size,a1v s[0]=false)(h2:∀h:0<s.size,a1v s[s.size-1]=false):Lib.trimS s.data.toList a0s=s.data.toList:=by
 obtain⟨⟨l⟩⟩:=s;refine b0D l ?_ ?_
 ·intro c hc
  cases l with
  |nil=>simp at hc
  |cons a r=>
   obtain rfl:a=c:=by simpa using hc
   exact h1 (by simp[ByteArray.size])
 ·intro c hc;have hp:0<l.length:=by cases l with
   |nil=>simp at hc
   |cons a r=>simp
  have h3:=h2 hp;rw[List.getLast?_eq_getElem?]at hc;have:(⟨⟨l⟩⟩:By)[(⟨⟨l⟩⟩:By).size-1]'(by simp[ByteArray.size];omega)=c:=by
   have h4:l[l.length-1]'(by omega)=c:=by
    rw[Av (by omega)]at hc;exact Option.some.inj hc
   exact h4
  rw[<-this];exact h3
def a2g(l:L8)(lim:Nat)(long:Int):Int×L8×Nat:=
 if(behind 10 (l.take lim)).isEmpty=true then(if l.length<lim then 2 else long,[],0)
 else if Lib.hasSuffix (ahead 10 (l.take lim)) [13]=true then(0,Lib.trimSuffix (ahead 10 (l.take lim)) [13],(ahead 10 (l.take lim)).length+1)
 else(3,[],0)
theorem a2j{l:L8}{lim:Nat}{long:Int}(h:behind 10 (l.take lim)=[]):a2g l lim long=(if l.length<lim then 2 else long,[],0):=by
 unfold a2g;rw[h];rfl
theorem a2h{l r:L8}{lim:Nat}{long:Int}(h:behind 10 (l.take lim)=10::r)(hs:Lib.hasSuffix (ahead 10 (l.take lim)) [13]=true):
  a2g l lim long=(0,Lib.trimSuffix (ahead 10 (l.take lim)) [13],(ahead 10 (l.take lim)).length+1):=by
 unfold a2g;rw[h,hs];rfl
theorem a2i{l r:L8}{lim:Nat}{long:Int}(h:behind 10 (l.take lim)=10::r)(hs:Lib.hasSuffix (ahead 10 (l.take lim)) [13]=false):
  a2g l lim long=(3,[],0):=by
 unfold a2g;rw[h,hs];rfl
theorem a2w(s:By)(k e:Nat)(hk:k<=s.size):(s.extract k (min e s.size)).data.toList=(s.data.toList.drop k).take (e-k):=by
 obtain⟨⟨l⟩⟩:=s;rw[ByteArray.extract_mk];show(l.drop k).take (min e l.length-k)=(l.drop k).take (e-k);rw[List.take_eq_take_iff];simp only[A6z];have:k<=l.length:=hk;omega
def a1q:L8:=[72,84,84,80,47,49,46,49]
def a1f(l:L8):Int×L8×L8:=match Lib.split l [32]with
 |[a,b,c]=>if(a1x a&&(a2a b&&a2e c))=true then(if c=a1q then(0,a,b)else(7,[],[]))else(3,[],[])
 |_=>(3,[],[])
def a4a(s:By):List By:=Lib.splitB ⟨#[32]⟩ 0 (Lib.countB s ⟨#[32]⟩) s
theorem a4b(s:By):(a4a s).map (·.data.toList)=Lib.split s.data.toList [32]:=Lib.splitB_data _ _ _ _
theorem a4d(s:By):(a4a s).length=Lib.countB s ⟨#[32]⟩+1:=Lib.splitB_all _ (by decide) _ _ _ rfl
theorem a4l(sep:By):∀(k:Nat) (s x:By),x∈Lib.splitB sep 0 k s->x.size<=s.size
 |0,s,x,h=>by
  simp only[Lib.splitB,C4z]at h;rw[h];exact Ac _
 |k+1,s,x,h=>by
  unfold Lib.splitB at h
  split at h
  ·simp only[C4z]at h;rw[h];exact Ac _
  ·simp only[C3z]at h;rcases h with rfl|h
   ·simp;omega
   ·have:=a4l sep k _ x h;simp at this;omega
theorem a4c{s x:By}(h:x∈a4a s):x.size<=s.size:=a4l _ _ _ _ h
theorem a1h{s:By}(h:¬(a4a s).length=3):a1f s.data.toList=(3,[],[]):=by
 unfold a1f;rw[<-a4b]
 match hp:a4a s,h with
 |[],_=>rfl
 |[_],_=>rfl
 |[_,_],_=>rfl
 |[_,_,_],h=>exact absurd rfl h
 |_::_::_::_::_,_=>rfl
theorem a1i{s a b c:By}(h:a4a s=[a,b,c]):a1f s.data.toList=if(a1x a.data.toList&&(a2a b.data.toList&&a2e c.data.toList))=true then(if c.data.toList=a1q then(0,a.data.toList,b.data.toList)else(7,[],[]))else(3,[],[]):=by
 unfold a1f;rw[<-a4b,h];rfl
def a3y(l:List (List UInt8)):Int:=match l with
 |[]=>0
 |x::_=>a3o 10 x
def a3u(l:List (List UInt8)):Bool:=l.all λv=>a3i 10 9 v&&(a3o 10 v==a3y l)
def a3t(l:List (List UInt8)):Int:=if a3u l=true then a3y l else 0
def a3s(l:List (List UInt8)):Int:=if a3u l=true then 0 else 3
theorem Ko{l:List (List UInt8)}{k:Nat}(h:0<k):a3y (l.take k)=a3y l:=by
 cases l with
 |nil=>simp
 |cons x r=>cases k with
  |zero=>omega
  |succ k=>rfl
theorem a3v{l:List (List UInt8)}{k:Nat}(h:k<l.length)(hn:a3i 10 9 l[k]=false):a3u l=false:=by
 cases hc:a3u l
 ·rfl
 ·have:=List.all_eq_true.1 hc l[k] (As h);rw[hn]at this;simp at this
theorem a3w{l:List (List UInt8)}{k:Nat}(h:k<l.length)(hk:0<k)(hn:a3o 10 l[k]≠a3y (l.take k)):a3u l=false:=by
 cases hc:a3u l
 ·rfl
 ·have:=List.all_eq_true.1 hc l[k] (As h);rw[Ko hk]at hn;simp at this;exact absurd this.2 hn
theorem Wy{l:List (List UInt8)}(h:0<l.length):a3y (l.take 1)=a3o 10 l[0]:=by
 cases l with
 |nil=>simp at h
 |cons x r=>rfl
theorem a3x{l:List (List UInt8)}{k:Nat}(h:k<l.length)(ho:a3u (l.take k)=true)(hn:a3i 10 9 l[k]=true)(he:k=0\/a3o 10 l[k]=a3y (l.take k)):
  a3u (l.take (k+1))=true/\a3y (l.take (k+1))=a3o 10 l[k]:=by
 by_cases hk:k=0
 ·subst hk;have h1:=Wy h;refine⟨?_,h1⟩;unfold a3u;rw[h1,A4z h];simp[hn]
 ·have he':a3o 10 l[k]=a3y (l.take k):=he.resolve_left hk;have e1:a3y (l.take (k+1))=a3y (l.take k):=by rw[Ko (by omega),Ko (by omega)]
  refine⟨?_,by rw[e1,he']⟩;unfold a3u at ho ⊢;rw[e1,A4z h,List.all_append,ho,D4z];simp[hn,he']
abbrev Fld:=L8×L8
abbrev a0a:=Int×L8×L8×List Fld×Nat
def a1n(e:Int):a0a:=(e,[],[],[],0)
def a1o:Nat->Bool->L8->Nat->L8->L8->List Fld->Nat->a0a
  |0,_,_,_,_,_,_,_=>a1n 2
  |f+1,first,l,lim,m,t,fs,u=>
    if(a2g l lim 5).1≠0 then a1n (a2g l lim 5).1
    else if first=true then
      (if(a1f (a2g l lim 5).2.1).1≠0 then a1n (a1f (a2g l lim 5).2.1).1
       else a1o f false (l.drop (a2g l lim 5).2.2) (lim-(a2g l lim 5).2.2) (a1f (a2g l lim 5).2.1).2.1 (a1f (a2g l lim 5).2.1).2.2 fs (u+(a2g l lim 5).2.2))
    else if(a2g l lim 5).2.1=[]then(0,m,t,fs,u+(a2g l lim 5).2.2)
    else match a1d (a2g l lim 5).2.1 with
      |none=>a1n 3
      |some f'=>a1o f false (l.drop (a2g l lim 5).2.2) (lim-(a2g l lim 5).2.2) m t (fs++[f']) (u+(a2g l lim 5).2.2)
theorem a2k{l:L8}{lim:Nat}{long:Int}(hl:long≠0)(h:(a2g l lim long).1=0):
  1<=(a2g l lim long).2.2/\(a2g l lim long).2.2<=lim/\(a2g l lim long).2.2<=l.length/\(a2g l lim long).2.1.length+2<=(a2g l lim long).2.2+1:=by
 unfold a2g at h ⊢
 split at h
 ·simp only at h;split at h
  ·omega
  ·exact absurd h hl
 ·rename_i h1
  split at h
  ·rename_i h2
   rw[if_neg h1,if_pos h2];simp only;have h3:=congrArg List.length (a0c 10 (l.take lim));rw[A0z,B0z]at h3;have h4:1<=(behind 10 (l.take lim)).length:=by
    cases hb:behind 10 (l.take lim)with
    |nil=>rw[hb]at h1;simp at h1
    |cons=>simp
   have h5:(Lib.trimSuffix (ahead 10 (l.take lim)) [13]).length+1<=(ahead 10 (l.take lim)).length:=by
    unfold Lib.trimSuffix;rw[if_pos h2,B0z];unfold Lib.hasSuffix at h2;have:=(List.isSuffixOf_iff_suffix.1 h2).length_le;simp at this ⊢;omega
   omega
  ·simp at h
theorem b3V(c:UInt8)(l:L8):Lib.index l [c]=if behind c l=[]then -1 else((ahead c l).length:Int):=by
 induction l with
 |nil=>rfl
 |cons b l ih=>
  rw[Lib.index];by_cases h:b=c
  ·subst h;unfold behind ahead;simp[List.isPrefixOf]
  ·have hp:([c]:L8).isPrefixOf (b::l)=false:=by simp[List.isPrefixOf,Ne.symm h]
   have h1:behind c (b::l)=behind c l:=by unfold behind;rw[E9z (by simpa using h)]
   have h2:ahead c (b::l)=b::ahead c l:=by unfold ahead;rw[List.takeWhile_cons_of_pos (by simpa using h)]
   rw[hp,h1,h2,ih];by_cases h3:behind c l=[]
   ·simp[h3]
   ·rw[if_neg h3,if_neg h3];simp only[C6z,if_false];rw[if_neg (by simp<;>omega)];simp
theorem a4m{c:UInt8}{l:L8}(h:behind c l=[]):Lib.split l [c]=[l]:=by
 unfold Lib.split
 cases Lib.count l [c]with
 |zero=>rfl
 |succ k=>rw[Lib.splitK,b3V,if_pos h];rfl
theorem a4n{c:UInt8}{l r:L8}(h:behind c l=c::r):Lib.split l [c]=ahead c l::Lib.split r [c]:=by
 have hi:Lib.index l [c]=((ahead c l).length:Int):=by rw[b3V,if_neg (by rw[h];simp)]
 have hd:l.drop ((ahead c l).length+1)=r:=by
  rw[<-E2z,a1a,h];rfl
 have hc:Lib.count l [c]=1+Lib.count r [c]:=by
  have:=Lib.count_hit (s:=l) (sub:=[c]) (by simp) hi;rw[List.length_singleton,hd]at this;exact this
 unfold Lib.split;rw[hc,Nat.add_comm,Lib.splitK,hi,if_neg (by simp<;>omega)];simp only[Int.toNat_natCast,Nat.add_zero,List.length_singleton];rw[hd,a4o]
def a1e(l:L8):Int×L8×L8:=
 let m:=ahead 32 l
 let r:=(behind 32 l).drop 1
 let t:=ahead 32 r
 let v:=behind 32 r
 if behind 32 l=[]then(3,[],[])
 else if(a1x m&&(a2a t&&a2e (v.drop 1))&&!v.isEmpty)=true then(if v.drop 1=a1q then(0,m,t)else(7,[],[]))
 else(3,[],[])
theorem b3W{l:L8}(h:a2e l=true):behind 32 l=[]:=by
 unfold a2e at h;rw[A3z]at h;obtain⟨h1,h2⟩:=h;unfold Lib.hasPrefix at h1;obtain⟨r,hr⟩:=List.isPrefixOf_iff_prefix.1 h1;subst hr;have h3:Lib.trimPrefix (a1p++r) a1p=r:=by
  unfold Lib.trimPrefix Lib.hasPrefix;rw[if_pos (List.isPrefixOf_iff_prefix.2 ⟨r,rfl⟩)];simp
 rw[h3]at h2;unfold a5e at h2
 match r,h2 with
 |[a,b,c],h2=>
  simp only[A3z,beq_iff_eq]at h2;obtain⟨ha,rfl,hc⟩:=h2;have na:a≠32:=by rintro rfl;exact absurd ha (by decide)
  have nc:c≠32:=by rintro rfl;exact absurd hc (by decide)
  simp[behind,a1p,na,nc]
theorem a1g(l:L8):a1f l=a1e l:=by
 unfold a1f a1e;simp only;rcases a0r 32 l with h|⟨r,h⟩
 ·rw[a4m h,if_pos h]
 ·rw[if_neg (by rw[h];simp),a4n h,h];simp only[List.drop_one,List.tail_cons];rcases a0r 32 r with h2|⟨v,h2⟩
  ·rw[a4m h2,h2];simp
  ·rw[a4n h2,h2];simp only[List.tail_cons,List.isEmpty_cons,Bool.not_false,Bool.and_true];rcases a0r 32 v with h3|⟨x,h3⟩
   ·rw[a4m h3];rfl
   ·rw[a4n h3];have hv:a2e v=false:=by
     cases hv:a2e v
     ·rfl
     ·rw[b3W hv]at h3;simp at h3
    rw[hv];simp only[C7z,C6z,if_false];have hne:Lib.split x [32]≠[]:=by
     rcases a0r 32 x with h4|⟨y,h4⟩
     ·rw[a4m h4];simp
     ·rw[a4n h4];simp
    cases hs:Lib.split x [32]with
    |nil=>exact absurd hs hne
    |cons y ys=>rfl
def b3X:L8:=[45,46,95,126]
def a1j(c:UInt8):Bool:=a2f c||a0u c||decide (0<=Lib.indexByte b3X c)
def a2v(c:UInt8):Bool:=(decide (97<=(c.toNat:Int))&&decide ((c.toNat:Int)<=122))||a0u c
def a1y(l:L8):Bool:=!l.isEmpty&&a0h a2v l
def a4e(l:L8):Int:=if Lib.hasPrefix l [58]=true then 1 else if Lib.hasPrefix l [42]=true then 2 else 0
def a4g(l:L8):L8:=if Lib.hasPrefix l [58]=true then l.drop 1 else if Lib.hasPrefix l [42]=true then l.drop 1 else l
def a4f(l:L8):Bool:=if a4e l=0 then a0h a1j l else a1y (a4g l)
def a4t:Nat->L8->Nat->Nat->Int×Nat
 |0,_,_,_=>(2,0)
 |f+1,l,lim,u=>
  if(a2g l lim 5).1≠0 then((a2g l lim 5).1,0)
  else if(a2g l lim 5).2.1=[]then(0,u+(a2g l lim 5).2.2)
  else if(a1d (a2g l lim 5).2.1).isSome=true then a4t f (l.drop (a2g l lim 5).2.2) (lim-(a2g l lim 5).2.2) (u+(a2g l lim 5).2.2)
  else(3,0)
theorem a4u(f:Nat)(l:L8)(lim u:Nat):a4t (f+1) l lim u =
  if(a2g l lim 5).1≠0 then((a2g l lim 5).1,0)
  else if(a2g l lim 5).2.1=[]then(0,u+(a2g l lim 5).2.2)
  else if(a1d (a2g l lim 5).2.1).isSome=true then a4t f (l.drop (a2g l lim 5).2.2) (lim-(a2g l lim 5).2.2) (u+(a2g l lim 5).2.2)
  else(3,0):=rfl
end Go.Proofs.YtbiggccolpchcaaGreatDoor.Pm
namespace Go.Proofs.YtbiggccolpchcaaGreatDoor
open _root_.Go.Proofs.Tryz
theorem Pz(s:By)(pos:Nat)(h:pos<s.size)(ha:128<=(s[pos]'h).toNat):
  pos+(Utf8.decode s pos).2<=s.size/\∀j,j<(Utf8.decode s pos).2->128<=(s.get! (pos+j)).toNat:=by
 have hn:¬(s[pos]'h).toNat<128:=by omega
 have h0:128<=(s.get! (pos+0)).toNat:=by rw[get_at s pos h];exact ha
 have key:∀k,(decide (pos+k<s.size)&&(s.get! (pos+k)).toNat / 64==2)=true->pos+k<s.size/\128<=(s.get! (pos+k)).toNat:=by
  intro k hk;simp only[A3z,decide_eq_true_eq,beq_iff_eq]at hk;omega
 have one:pos+1<=s.size/\∀j,j<1->128<=(s.get! (pos+j)).toNat:=by
  refine⟨by omega,λj hj=>?_⟩;obtain rfl:j=0:=by omega
  exact h0
 simp only[Utf8.decode,get_at s pos h,hn,if_false]
 repeat' split
 all_goals first|exact one|skip
 ·rename_i h1 _
  rw[A3z]at h1;have k1:=key 1 h1.2;refine⟨by simp only;omega,λj hj=>?_⟩;have hj2:j<2:=hj;rcases(show j=0\/j=1 by omega)with rfl|rfl
  ·exact h0
  ·exact k1.2
 ·rename_i h1 _
  rw[A3z,A3z]at h1;have k1:=key 1 h1.1.2;have k2:=key 2 h1.2;refine⟨by simp only;omega,λj hj=>?_⟩;have hj2:j<3:=hj;rcases(show j=0\/j=1\/j=2 by omega)with rfl|rfl|rfl
  ·exact h0
  ·exact k1.2
  ·exact k2.2
 ·rename_i h1 _
  rw[A3z,A3z,A3z]at h1;have k1:=key 1 h1.1.1.2;have k2:=key 2 h1.1.2;have k3:=key 3 h1.2;refine⟨by simp only;omega,λj hj=>?_⟩;have hj2:j<4:=hj;rcases(show j=0\/j=1\/j=2\/j=3 by omega)with rfl|rfl|rfl|rfl
  ·exact h0
  ·exact k1.2
  ·exact k2.2
  ·exact k3.2
theorem Xa(s:By)(pos:Nat)(h:pos<s.size)(ha:128<=(s[pos]'h).toNat):Utf8.valid (Utf8.decode s pos).1=true:=by
 have hn:¬(s[pos]'h).toNat<128:=by omega
 have hb:∀k,(s.get! (pos+k)).toNat<256:=λk=>(s.get! (pos+k)).toNat_lt;have b0:=hb 0;have b1:=hb 1;rw[get_at s pos h]at b0;have e:Utf8.valid ((Utf8.runeError:Nat):Int)=true:=by decide
 simp only[Utf8.decode,get_at s pos h,hn,if_false]
 repeat' split
 all_goals first|(with_reducible exact e)|skip
 ·rename_i h1 h2
  rw[A3z]at h1;have h3:(s[pos]'h).toNat / 32=6:=by simpa using h1.1
  simp only[Utf8.valid,Bool.or_eq_true,A3z,decide_eq_true_eq];left;omega
 ·rename_i h1 h2
  rw[A3z]at h2;exact h2.2
 ·rename_i h1 h2
  rw[A3z]at h2;exact h2.2
theorem Zp(r:Nat)(h:128<=r)(hv:Utf8.valid (r:Int)=true):
  (∃a b:UInt8,128<=b.toNat/\Utf8.encode (r:Int)=⟨#[a,b]⟩)\/(∃a b c:UInt8,128<=c.toNat/\Utf8.encode (r:Int)=⟨#[a,b,c]⟩)\/(∃a b c d:UInt8,128<=d.toNat/\Utf8.encode (r:Int)=⟨#[a,b,c,d]⟩):=by
 have hl:∀x:Nat,128<=(UInt8.ofNat (128+x % 64)).toNat:=λx=>by
  rw[UInt8.toNat_ofNat'];have:x % 64<64:=Nat.mod_lt _ (by decide);rw[Nat.mod_eq_of_lt (by omega)];omega
 have hn:¬r<128:=by omega
 unfold Utf8.encode;simp only[hv,if_true,Int.toNat_natCast,hn,if_false];by_cases h1:r<2048
 ·left;exact⟨_,_,hl r,by rw[if_pos h1]⟩
 ·rw[if_neg h1];by_cases h2:r<65536
  ·right;left;exact⟨_,_,_,hl r,by rw[if_pos h2]⟩
  ·right;right;exact⟨_,_,_,_,hl r,by rw[if_neg h2]⟩
end Go.Proofs.YtbiggccolpchcaaGreatDoor
namespace Go.Proofs.YtbiggccolpchcaaGreatDoor
open Go.RowKit _root_.Go.Proofs.Tryz
theorem Rw(r:Nat)(w:World)(hv:Utf8.valid (r:Int)=true):
  Calls prog 370 #[.int .i32 r] w λe w'=>e=.returned (.bool true)/\w'=w:=by
 unfold Utf8.valid at hv;simp only[Bool.or_eq_true,A3z,decide_eq_true_eq]at hv;rcases hv with⟨h1,h2⟩|⟨h1,h2⟩
 ·go_enter func370,ntmps370;go_wp2;go_ret;exact⟨rfl,rfl⟩
 ·have h3:(0:Int)<=r:=by omega
  have h4:decide ((r:Int)<55296)=false:=Ao (by omega);have h5:(57343:Int)<r:=by omega
  go_enter func370,ntmps370;go_wp2;go_ret;exact⟨rfl,rfl⟩
def Ca:By:=⟨#[13,10,0]⟩
theorem b0E(l:L8)(h:∀x∈l,x.toNat<128)(c:UInt8)(hc:128<=c.toNat):Lib.indexByte l c=-1:=by
 induction l with
 |nil=>rfl
 |cons x l ih=>
  have hx:=h x (by simp);rw[Lib.indexByte,ih (λy hy=>h y (by simp[hy]))];have hne:(x==c)=false:=by
   rw[Ar];intro e;rw[e]at hx;omega
  rw[hne];rfl
theorem a8K(s:By)(h:∀x∈s.data.toList,x.toNat<128)(b:UInt8)(hb:128<=b.toNat)(W:World):Calls prog 237 #[.string s,.int .u8 b.toNat] W λe w'=>e=.returned (.int .i64 (-1))/\w'=W:=by
 refine(Tryz.strings_IndexByte s (b.toNat:Int) W).mono λe w' h1=>⟨h1.1.trans ?_,h1.2⟩;have e2:((b.toNat:Int)).toNat.toUInt8=b:=by simp
 rw[e2,b0E _ h b hb]
theorem Rx(r:Nat)(w:World)(h1:128<=r)(h2:r<=2147483647)(h3:r≠65533)(hv:Utf8.valid (r:Int)=true):
  Calls prog 353 #[.string Ca,.int .i32 r] w λe w'=>e=.returned (.int .i64 (-1))/\Bw w w':=by
 have HV:=hid (λW=>Rw r W hv);have e1:decide ((r:Int)<128)=false:=Ao (by omega);have e0:(0:Int)<=r:=by omega
 have e2:((r:Int)==65533)=false:=by rw[Ar];omega
 have hsz:Ca.size=3:=rfl;have hen:=Zp r h1 hv;clear hv h3;rcases hen with⟨a,b,hb,hen⟩|⟨a,b,c,hb,hen⟩|⟨a,b,c,d,hb,hen⟩
 ·obtain⟨rs,hrs⟩:∃rs:By,rs=⟨#[a,b]⟩:=⟨_,rfl⟩;have hz:rs.size=2:=by rw[hrs];rfl
  have hb1:rs[1]'(by omega)=b:=by subst hrs;rfl
  have hs1:Ca[1]'(by decide)=10:=rfl;have hx:((10:Int) != (b.toNat:Int))=true:=by simp;omega
  have hw2:IntKind.i64.wrap 2=2:=by decide
  have HIB:=hid (λW=>a8K (Ca.extract 2 3) (by decide) b hb W);rw[<-hrs]at hen;clear hrs;go_enter func353,ntmps353;go_wp2_with (go_at_call 370;refine(HV.out _).mono ?_;rintro e w' ⟨rfl,rfl⟩)
  go_step3
  go_wp2_with fail
  go_loopw [9,10] (λi f wr=>i=.int .i64 1/\f=.int .i64 0/\wr=w') (λ_ _ _=>0)
  case atStart=>exact⟨rfl,rfl,rfl⟩
  case round=>
   obtain⟨rfl,rfl,rfl⟩:=hrel;go_wp2_with fail
   go_step3
   go_wp2_with fail
   go_quiet (fail)
   have hbq:Bw wr (wr.drewN nq):=below_drewN (Ad _ _) _;generalize wr.drewN nq=wq at *
   go_wp2_with fail
   go_quiet (first|(go_at_call 237;exact Calls.quiet_of_same (HIB.out _)))
   go_wp2_with fail;rw[Exit.noGoto_ret];go_wp2_with fail
   try rw[Exit.noGoto_ret]
   go_ret;exact⟨rfl,below_drewN hbq _⟩
 ·obtain⟨rs,hrs⟩:∃rs:By,rs=⟨#[a,b,c]⟩:=⟨_,rfl⟩;have hz:rs.size=3:=by rw[hrs];rfl
  have hb1:rs[2]'(by omega)=c:=by subst hrs;rfl
  have hs1:Ca[2]'(by decide)=0:=rfl;have hx:((0:Int) != (c.toNat:Int))=true:=by simp;omega
  have hw2:IntKind.i64.wrap 3=3:=by decide
  have HIB:=hid (λW=>a8K (Ca.extract 3 3) (by decide) c hb W);rw[<-hrs]at hen;clear hrs;go_enter func353,ntmps353;go_wp2_with (go_at_call 370;refine(HV.out _).mono ?_;rintro e w' ⟨rfl,rfl⟩)
  go_step3
  go_wp2_with fail
  go_loopw [9,10] (λi f wr=>i=.int .i64 2/\f=.int .i64 0/\wr=w') (λ_ _ _=>0)
  case atStart=>exact⟨rfl,rfl,rfl⟩
  case round=>
   obtain⟨rfl,rfl,rfl⟩:=hrel;go_wp2_with fail
   go_step3
   go_wp2_with fail
   go_quiet (fail)
   have hbq:Bw wr (wr.drewN nq):=below_drewN (Ad _ _) _;generalize wr.drewN nq=wq at *
   go_wp2_with fail
   go_quiet (first|(go_at_call 237;exact Calls.quiet_of_same (HIB.out _)))
   go_wp2_with fail;rw[Exit.noGoto_ret];go_wp2_with fail
   try rw[Exit.noGoto_ret]
   go_ret;exact⟨rfl,below_drewN hbq _⟩
 ·obtain⟨rs,hrs⟩:∃rs:By,rs=⟨#[a,b,c,d]⟩:=⟨_,rfl⟩;have hz:rs.size=4:=by rw[hrs];rfl
  rw[<-hrs]at hen;clear hrs;go_enter func353,ntmps353;go_wp2_with (go_at_call 370;refine(HV.out _).mono ?_;rintro e w' ⟨rfl,rfl⟩)
  go_step3
  go_wp2_with fail
  go_loopw [9,10] (λi f wr=>i=.int .i64 3/\f=.int .i64 0/\wr=w') (λ_ _ _=>0)
  case atStart=>exact⟨rfl,rfl,rfl⟩
  case round=>
   obtain⟨rfl,rfl,rfl⟩:=hrel;go_wp2_with fail
   try rw[Exit.noGoto_ret]
   go_ret;exact⟨rfl,Ad _ _⟩
theorem Ur(w:World):
  Calls prog 353 #[.string Ca,.int .i32 65533] w λe w'=>e=.returned (.int .i64 (-1))/\Bw w w':=by
 have hsz:Ca.size=3:=rfl;have hit:∀i,Bw w (w.iter Ca i):=λi=>bA w (.stringIter Ca i);have HIT:=hid hit;have hlow:∀i (h:i<Ca.size),(Ca[i]'h).toNat<128:=by decide
 have HLOW:=hid hlow;clear hit hlow;go_enter func353,ntmps353;go_wp2_with fail
 go_loopg [5,6] 3 (λg _ _ wx=>∃i:Nat,i+g=3/\wx=w.iter Ca i)
 case atStart=>exact⟨0,by omega,rfl⟩
 case round=>
  obtain⟨i,hig,rfl⟩:=hrel
  cases gk with
  |zero=>
   obtain rfl:i=3:=by omega
   have hnx:=run_next_end (P:=prog) w Ca 3;rw[hsz]at hnx;go_wp2_with fail;go_ret;exact⟨rfl,HIT.out 3⟩
  |succ g=>
   have hi:i<Ca.size:=by omega
   have hx:=HLOW.out i hi;have hnx:=λty=>run_next_ascii (P:=prog) w Ca i ty hi hx;generalize Ca[i]'hi=x at *
   have hne:((x.toNat:Int)==65533)=false:=by rw[Ar];omega
   go_wp2_with fail
   go_roundg g
   case measure=>omega
   case rel=>exact⟨i+1,by omega,rfl⟩
end Go.Proofs.YtbiggccolpchcaaGreatDoor
namespace Go.Proofs.YtbiggccolpchcaaGreatDoor.Pm
open _root_.Go.Proofs.Tryz
theorem a5g{w:L8}(h:a2e w=true):∃a b c,w=[72,84,84,80,47,a,b,c]:=by
 unfold a2e at h;rw[A3z]at h;obtain⟨h1,h2⟩:=h;unfold Lib.hasPrefix at h1;obtain⟨r,hr⟩:=List.isPrefixOf_iff_prefix.1 h1;subst hr;have h3:Lib.trimPrefix (a1p++r) a1p=r:=by
  unfold Lib.trimPrefix Lib.hasPrefix;rw[if_pos (List.isPrefixOf_iff_prefix.2 ⟨r,rfl⟩)];simp
 rw[h3]at h2;unfold a5e at h2
 match r,h2 with
 |[a,b,c],_=>exact⟨a,b,c,rfl⟩
theorem a5f(a b c:UInt8):a2e [72,84,84,80,47,a,b,c]=(a0u a&&(b==46&&a0u c)):=by
 unfold a2e Lib.trimPrefix Lib.hasPrefix a1p;simp[List.isPrefixOf,a5e]
theorem a3n(c:UInt8):inB [48,49,50,51,52,53,54,55,56,57] c=a0u c:=by
 have:=a0g (p:=λc=>inB [48,49,50,51,52,53,54,55,56,57] c==a0u c) (by decide +kernel) c;simpa using this
theorem b46(b:UInt8):(b==46)=!((b.toNat:Int) != 46):=by
 have:=a0g (p:=λb=>(b==46)==!((b.toNat:Int) != 46)) (by decide +kernel) b;simpa using this
theorem a2x{v:L8}(h:v.length=9)(h6:v.take 6=[32,72,84,84,80,47]):∃a b c,v=[32,72,84,84,80,47,a,b,c]:=by
 match v,h with
 |[x0,x1,x2,x3,x4,x5,a,b,c],_=>
  simp at h6;obtain⟨rfl,rfl,rfl,rfl,rfl,rfl⟩:=h6;exact⟨a,b,c,rfl⟩
def a2y(l:L8)(j:Nat):Prop:=∀x∈l.take j,x≠10
theorem a3a(l:L8):a2y l 0:=λx hx=>by simp at hx
theorem a2z{l:L8}{j:Nat}(h:j<l.length)(hn:a2y l j)(hc:l[j]≠10):a2y l (j+1):=by
 intro x hx;rw[A4z h,D3z]at hx;rcases hx with hx|hx
 ·exact hn x hx
 ·simp at hx;subst hx;exact hc
theorem Ry{l:L8}(h:∀x∈l,x≠10):ahead 10 l=l/\behind 10 l=[]:=by
 induction l with
 |nil=>exact⟨rfl,rfl⟩
 |cons c l ih=>
  have hc:c≠10:=h c (by simp);obtain⟨h1,h2⟩:=ih λx hx=>h x (by simp[hx]);unfold ahead behind at *
  rw[List.takeWhile_cons_of_pos (by simpa using hc),E9z (by simpa using hc),h1,h2];exact⟨rfl,rfl⟩
theorem b3Y{a r:L8}(h:∀x∈a,x≠10):ahead 10 (a++10::r)=a/\behind 10 (a++10::r)=10::r:=by
 induction a with
 |nil=>unfold ahead behind;exact⟨by simp,by simp⟩
 |cons c l ih=>
  have hc:c≠10:=h c (by simp);obtain⟨h1,h2⟩:=ih λx hx=>h x (by simp[hx]);unfold ahead behind at *
  rw[B3z,List.takeWhile_cons_of_pos (by simpa using hc),E9z (by simpa using hc),h1,h2];exact⟨rfl,rfl⟩
theorem a2p{l:L8}{lim:Nat}{long:Int}(hn:a2y l lim)(h:lim<=l.length):a2g l lim long=(long,[],0):=by
 rw[a2j (Ry hn).2,if_neg (by omega)]
theorem a2o{l:L8}{lim:Nat}{long:Int}(hn:a2y l l.length)(h:l.length<lim):a2g l lim long=(2,[],0):=by
 unfold a2y at hn;rw[Aq (Ac _)]at hn;rw[a2j (by rw[Aq (by omega)];exact(Ry hn).2),if_pos h]
theorem Xb{l:L8}{j lim:Nat}(hn:a2y l j)(h:j<l.length)(hc:l[j]=10)(hl:j<lim):
  ahead 10 (l.take lim)=l.take j/\∃r,behind 10 (l.take lim)=10::r:=by
 have e:l.take lim=l.take j++10::((l.drop (j+1)).take (lim-(j+1))):=by
  have h1:l=l.take j++10::l.drop (j+1):=by
   rw[<-hc,Ax,E4z]
  have hj:(l.take j).length=j:=by simp;omega
  conv=>lhs;rw[h1]
  rw[List.take_append,hj,Aq (by omega:(l.take j).length<=lim)];rw[show lim-j=(lim-(j+1))+1 from by omega,List.take_succ_cons]
 rw[e];obtain⟨h1,h2⟩:=b3Y (r:=(l.drop (j+1)).take (lim-(j+1))) hn;exact⟨h1,_,h2⟩
theorem a2m{l:L8}{lim:Nat}{long:Int}(h:0<l.length)(hc:l[0]=10)(hl:0<lim):a2g l lim long=(3,[],0):=by
 obtain⟨h1,r,h2⟩:=Xb (a3a l) h hc hl;exact a2i h2 (by rw[h1];rfl)
theorem c1N{l:L8}{j:Nat}(h:j<l.length):Lib.hasSuffix (l.take (j+1)) [13]=(l[j]==13):=by
 rw[A4z h];unfold Lib.hasSuffix;rw[B9z,List.isSuffixOf_iff_suffix];constructor
 ·intro ⟨t,ht⟩;have:=(List.append_inj' ht rfl).2;simp at this;simp[<-this]
 ·intro h2;simp at h2;rw[h2];exact⟨_,rfl⟩
theorem a2l{l:L8}{j lim:Nat}{long:Int}(hn:a2y l (j+1))(h:j+1<l.length)(hc:l[j+1]=10)(hl:j+1<lim)(hr:l[j]≠13):a2g l lim long=(3,[],0):=by
 obtain⟨h1,r,h2⟩:=Xb hn h hc hl;exact a2i h2 (by rw[h1,c1N (by omega)];simpa using hr)
theorem a2n{l:L8}{j lim:Nat}{long:Int}(hn:a2y l (j+1))(h:j+1<l.length)(hc:l[j+1]=10)(hl:j+1<lim)(hr:l[j]=13):a2g l lim long=(0,l.take j,j+2):=by
 obtain⟨h1,r,h2⟩:=Xb hn h hc hl;have hs:Lib.hasSuffix (ahead 10 (l.take lim)) [13]=true:=by rw[h1,c1N (by omega)];simpa using hr
 rw[a2h h2 hs];unfold Lib.trimSuffix;rw[if_pos hs,h1];have hj:(l.take (j+1)).length=j+1:=by simp;omega
 rw[hj,List.take_take];simp only[List.length_singleton];rw[show min (j+1-1) (j+1)=j from by omega]
end Go.Proofs.YtbiggccolpchcaaGreatDoor.Pm
