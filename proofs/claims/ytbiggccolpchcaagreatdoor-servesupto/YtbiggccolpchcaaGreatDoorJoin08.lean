/- Joined. -/
import Derived.Below
import Derived.Lib.AppendStr
import Derived.Lib.Builder
import Derived.Defers
import Derived.Lib.ItoaNum
import Derived.Lib.ItoaMem
import Derived.Test.YtbiggccolpchcaaGreatDoorWalkV
set_option maxHeartbeats 1600000
namespace Go.Proofs.YtbiggccolpchcaaGreatDoor
open Go.RowKit _root_.Go.Proofs.Tryz
def Kx(L:List Nat)(w w':World):Prop:=Below 0 w w'/\∀k,k<w.heap.size->k∉L->w'.heap[k]?=w.heap[k]?
theorem Kx.refl(L:List Nat)(w:World):Kx L w w:=⟨Ad _ _,λ_ _ _=>rfl⟩
theorem Kx.size{L:List Nat}{w w':World}(h:Kx L w w'):w.heap.size<=w'.heap.size:=h.1.size
theorem Kx.of{L:List Nat}{w w':World}(h:Bw w w'):Kx L w w':=⟨h.mono (Ah _),λk hk _=>h.block k hk⟩
theorem Kx.trans{L M:List Nat}{w w1 w2:World}(h:Kx L w w1)(k:Kx M w1 w2)(hs:∀b∈M,b∈L\/w.heap.size<=b):Kx L w w2:=
 ⟨h.1.trans k.1,λb hb hn=>by
  rw[k.2 b (Af hb h.size) (λhm=>by rcases hs b hm with q|q;exact hn q;omega),h.2 b hb hn]⟩
theorem Kx.next{L:List Nat}{w w1 w2:World}(h:Kx L w w1)(k:Bw w1 w2):Kx L w w2:=h.trans (Kx.of (L:=[]) k) (λb hb=>by simp at hb)
theorem Kx.mono{L M:List Nat}{w w':World}(h:Kx L w w')(hs:∀b∈L,b∈M\/w.heap.size<=b):Kx M w w':=
 (Kx.refl M w).trans h hs
theorem Kx.below{L:List Nat}{w w':World}(h:Kx L w w'){B:Nat}(hL:∀b∈L,B<=b)(hB:B<=w.heap.size):Below B w w':=
 ⟨h.1.os,h.1.tape,h.1.output,h.1.size,λk hk=>h.2 k (by omega) (λhm=>by have:=hL k hm;omega)⟩
theorem Kx.set{L:List Nat}{w:World}(p:Addr)(v:Value)(h:p.block∈L):Kx L w (w.setCell p v):=
 ⟨(Ad 0 w).setCell (Ah _) v,λ_ _ hn=>Aw _ _ _ _ (λe=>hn (e ▸ h))⟩
theorem Kx.grown{L:List Nat}{w w':World}{row:Option Nat}(hg:w.grownBy w' row)(hr:∀k,row=some k->k∈L):Kx L w w':=
 ⟨⟨hg.os,hg.tape,hg.output,hg.size,λ_ hk=>by omega⟩,λk hk hn=>hg.block k hk (λe=>hn (hr k e.symm))⟩
theorem Kx.heap{L:List Nat}{w w':World}(h:Kx L w w'){k:Nat}{o:Obj}(hk:w.heap[k]?=some o)(hn:k∉L):w'.heap[k]?=some o:=by
 rw[h.2 k ?_ hn];exact hk;rcases B8z k w.heap.size with q|q
 ·exact q
 ·simp[Array.getElem?_eq_none q]at hk
theorem heap_lt{w:World}{k:Nat}{o:Obj}(hk:w.heap[k]?=some o):k<w.heap.size:=by
 rcases B8z k w.heap.size with q|q
 ·exact q
 ·simp[Array.getElem?_eq_none q]at hk
def Ex(B:Nat)(e:TypeId)(v:Value)(xs:List Value)(w:World):Prop:=
  (v=.slice none 0 0/\xs=[]) \/
   ∃g off cap cur,v=.slice (some ⟨g,off,none⟩) xs.length cap/\B<=g/\w.heap[g]?=some (.cells cur e (0,0))/\xs.length<=cap/\cap<=maxLen/\off+cap<=cur.size/\(cur.toList.drop off).take xs.length=xs
theorem Ex.nil(B:Nat)(e:TypeId)(w:World):Ex B e (.slice none 0 0) [] w:=.inl ⟨rfl,rfl⟩
theorem Ex.keep{B:Nat}{e:TypeId}{v:Value}{xs:List Value}{w w':World}(h:Ex B e v xs w)(hk:∀r,v.ownBlock=some r->w'.heap[r]?=w.heap[r]?):Ex B e v xs w':=by
 rcases h with h|⟨g,off,cap,cur,rfl,h1,h2,h3⟩
 ·exact .inl h
 ·exact .inr ⟨g,off,cap,cur,rfl,h1,by rw[hk g rfl];exact h2,h3⟩
theorem Ex.lt{B:Nat}{e:TypeId}{v:Value}{xs:List Value}{w:World}(h:Ex B e v xs w){r:Nat}(hr:v.ownBlock=some r):B<=r/\r<w.heap.size:=by
 rcases h with⟨rfl,_⟩|⟨g,off,cap,cur,rfl,h1,h2,h3⟩
 ·simp[Value.ownBlock]at hr
 ·simp[Value.ownBlock]at hr;subst hr;exact⟨h1,heap_lt h2⟩
theorem Ex.kx{B:Nat}{e:TypeId}{v:Value}{xs:List Value}{w w':World}(h:Ex B e v xs w){L:List Nat}(hk:Kx L w w')(hn:∀r,v.ownBlock=some r->r∉L):Ex B e v xs w':=
 h.keep λr hr=>hk.2 r (h.lt hr).2 (hn r hr)
theorem Ex.sl{B:Nat}{e:TypeId}{v:Value}{xs:List Value}{w:World}(h:Ex B e v xs w):∃a c,v=.slice a xs.length c:=by
 rcases h with⟨rfl,rfl⟩|⟨g,off,cap,cur,rfl,_⟩
 ·exact⟨_,_,rfl⟩
 ·exact⟨_,_,rfl⟩
theorem Ex.cell{B:Nat}{e:TypeId}{xs:List Value}{w:World}{g off cap:Nat}{n:Nat}(h:Ex B e (.slice (some ⟨g,off,none⟩) n cap) xs w)(j:Nat)(v:Value)(hj:xs[j]?=some v):w.cell? ⟨g,off+j,none⟩=some v:=by
 rcases h with⟨h,_⟩|⟨g',off',cap',cur,h0,h1,h2,h3,h4,h5,h6⟩
 ·simp at h
 ·simp only[Value.slice.injEq,Option.some.injEq,Addr.mk.injEq,and_true]at h0;obtain⟨⟨rfl,rfl⟩,rfl,rfl⟩:=h0;rw[Ab h2];rw[<-h6,D0z,List.getElem?_drop]at hj
  split at hj
  ·simpa using hj
  ·simp at hj
section
variable{P:Program}(w:World)
theorem Oy(t u ty e:TypeId)(i:TypeInfo)(ht:P.underlying t=some (.slice e))(hu:P.underlying u=some .string)(hi:P.info? e=some i)(hs1:i.size=1)
  (g off sLen sCap:Nat) (cur:Array Value) (hg:w.heap[g]?=some (.cells cur e (0,0))) (s:By)
  (hroom:sLen+s.size<=sCap) (hfit:off+sLen+s.size<=cur.size) :
  (Builtin.append_ #[t,u] ty #[.slice (some ⟨g,off,none⟩) sLen sCap,.string s]).run P w =
   .ok (.slice (some ⟨g,off,none⟩) (sLen+s.size) sCap) (w.setRow g (cur.toList.take (off+sLen)++Lib.strCells s++cur.toList.drop (off+sLen+s.size)).toArray):=by
 have hf:=Lib.run_firstCells_string (P:=P) w 1 s;have hst:=run_storeCells_at P g (off+sLen) e (Lib.strCells s) 0 cur w hg (by simpa[Lib.strCells_length]using hfit) (Lib.strCells_oneCell s);simp only[Nat.add_zero,Lib.strCells_length]at hst;simp[Builtin.append_,run_underlying ht,run_underlying hu,sizeOf,typeInfo,hi,hs1,Builtin.lenOf,hroom,hf,Addr.add_lit,hst]
theorem Rc(B:Nat)(t u ty e:TypeId)(i:TypeInfo)(ht:P.underlying t=some (.slice e))(hu:P.underlying u=some .string)(hi:P.info? e=some i)(hz:i.zero=some (.int .u8 0))
  (hsize:i.size=1) (hby:i.bytes=1)
  (v:Value) (xs:List Value) (hown:Ex B e v xs w) (s:By)
  (hbytes:xs.length+s.size<=140737488355328) (hB:B<=w.heap.size) :
  ∃v' w',(Builtin.append_ #[t,u] ty #[v,.string s]).run P w=.ok v' w'/\Ex B e v' (xs++Lib.strCells s) w'/\w.grownBy w' v.ownBlock/\∀r,v'.ownBlock=some r->v.ownBlock=some r\/w.heap.size<=r:=by
 have hmx:xs.length+s.size<=maxLen:=by unfold maxLen;omega
 rcases hown with⟨rfl,rfl⟩|⟨g,off,cap,cur,rfl,h1,h2,h3,h4,h5,h6⟩
 ·obtain⟨v',w',k1,k2,k3,k4⟩:=Lib.run_append_own_string (P:=P) w w.heap.size t u ty e i ht hu hi hz hsize hby (.slice none 0 0) 0 [] (Am w w.heap.size e 1) s (by simpa using hmx) (by simpa using hbytes) (Ac _);refine⟨v',w',k1,?_,k3,?_⟩
  ·rcases k2.2 with⟨q1,q2⟩|⟨g,cap,cur,q1,q2,q3,q4,q5,q6,q7⟩
   ·have:s.size=0:=by omega
    refine .inl ⟨q1,?_⟩;exact Ay (by simp[Lib.strCells_length,this])
   ·refine .inr ⟨g,0,cap,cur,?_,by omega,q3,?_,q5,by omega,?_⟩
    ·rw[q1];simp[Lib.strCells_length]
    ·simp[Lib.strCells_length];omega
    ·rw[D6z,F4z,Lib.strCells_length];simpa using q7
  ·intro r hr;rcases k2.2 with⟨q1,q2⟩|⟨g,cap,cur,q1,q2,q3,q4⟩
   ·rw[q1]at hr;simp[Value.ownBlock]at hr
   ·rw[q1]at hr;simp[Value.ownBlock]at hr;omega
 ·by_cases hroom:xs.length+s.size<=cap
  ·have hr:=Oy (P:=P) w t u ty e i ht hu hi hsize g off xs.length cap cur h2 s hroom (by omega);refine⟨_,_,hr,.inr ⟨g,off,cap,_,?_,h1,setRow_heap w g cur _ e _ h2,?_,h4,?_,?_⟩,⟨rfl,rfl,rfl,by simp,λk _ hk=>setRow_other w g k _ (λe=>hk (by simp[Value.ownBlock,e]))⟩,λr hr=>.inl hr⟩
   ·simp[Lib.strCells_length]
   ·simp[Lib.strCells_length];omega
   ·simp only[List.size_toArray,A0z,B0z,A6z,Array.length_toList,Lib.strCells_length];omega
   ·have e1:cur.toList.take (off+xs.length)=cur.toList.take off++xs:=by
     rw[List.take_add,h6]
    simp only[e1,C5z];rw[List.drop_append_of_le_length (by simp;omega),List.drop_take,Nat.sub_self,List.take_zero,F4z,<-C5z];exact List.take_left
  ·have holds:∀j u,xs[j]?=some u->w.cell? ((⟨g,off,none⟩:Addr).add j)=some u:=λj u hj=>by
    rw[Addr.add_lit];exact Ex.cell (B:=B) (e:=e) (n:=xs.length) (cap:=cap) (.inr ⟨g,off,cap,cur,rfl,h1,h2,h3,h4,h5,h6⟩) j u hj
   have hr:=Lib.run_append_grow_string (P:=P) w t u ty e i (.int .u8 0) ht hu hi hz ⟨g,off,none⟩ xs.length cap xs (by rw[hsize,Nat.mul_one]) holds s (by omega) (by omega) (by rw[hby];exact growslice_fits (by omega) (by omega));have hge:=grownCap_ge w (xs.length+s.size) cap e;have hcm:grownCap w (xs.length+s.size) cap e<=maxLen:=grownCap_le_maxLen w (xs.length+s.size) cap e hmx;refine⟨_,_,hr,.inr ⟨w.heap.size,0,_,_,?_,hB,Ag w.drew _,?_,hcm,?_,?_⟩,⟨rfl,rfl,rfl,by simp,λk hk _=>Ba w.drew _ k hk⟩,λr hr=>.inr ?_⟩
   ·simp[Lib.strCells_length]
   ·simp[Lib.strCells_length];omega
   ·have hz1:(Value.int IntKind.u8 0).cells.size=1:=rfl;simp only[Array.size_append,List.size_toArray,size_zeroCells,hz1,Lib.strCells_length];omega
   ·simp only[D7z,D6z];exact List.take_left
   ·simp[Value.ownBlock]at hr;omega
end
structure Sv where
 s:Nat
 gs:Nat
 h:Nat
 hd:Int
 bd:Int
 w1:World
abbrev hv(h:Nat)(n:Nat):Value:=.slice (some ⟨h,0,none⟩) n n
abbrev svC(V:Sv)(m:Int)(n:Nat):Array Value:=#[.int .i64 V.hd,.int .i64 V.bd,.pointer (some ⟨V.gs,0,none⟩),.int .i32 m,.int .u32 0,hv V.h n]
abbrev hiC(hs:List Int):Array Value:=(hs.map (Value.int .i64)).toArray
structure SvI(V:Sv)(hs:List Int)(w:World):Prop where
 bel:Below V.w1.heap.size V.w1 w
 blk:w.heap[V.s]?=some (.cells (svC V 0 hs.length) 251 (0,0))
 hit:w.heap[V.h]?=some (.cells (hiC hs) 3 (0,0))
 ge1:V.w1.heap.size<=V.s
 ge2:V.w1.heap.size<=V.h
 ne:V.s≠V.h
abbrev cnC(V:Sv)(held:By)(vo:Value)(rq:Nat)(cl:Bool):Array Value:=#[.pointer (some ⟨V.s,0,none⟩),.string held,vo,.int .i64 rq,.bool cl]
structure CnI(V:Sv)(c:Nat)(vo:Value)(held:By)(out:L8)(rq:Nat)(cl:Bool)(w:World):Prop where
 blk:w.heap[c]?=some (.cells (cnC V held vo rq cl) 255 (0,0))
 out:Ex V.w1.heap.size 5 vo (Lib.byteCells out) w
 ge:V.w1.heap.size<=c
 n1:c≠V.s
 n2:c≠V.h
 o1:vo.ownBlock≠some c
 o2:vo.ownBlock≠some V.s
 o3:vo.ownBlock≠some V.h
theorem SvI.kx{V:Sv}{hs:List Int}{w w':World}(h:SvI V hs w){L:List Nat}(hk:Kx L w w')(hL:∀b∈L,V.w1.heap.size<=b)(h1:V.s∉L)(h2:V.h∉L):SvI V hs w':=
 ⟨h.bel.trans (hk.below hL h.bel.size),hk.heap h.blk h1,hk.heap h.hit h2,h.ge1,h.ge2,h.ne⟩
theorem SvI.below{V:Sv}{hs:List Int}{w w':World}(h:SvI V hs w)(hb:Bw w w'):SvI V hs w':=
 h.kx (L:=[]) (Kx.of hb) (λb hb=>by simp at hb) (by simp) (by simp)
theorem CnI.kx{V:Sv}{c:Nat}{vo:Value}{held:By}{out:L8}{rq:Nat}{cl:Bool}{w w':World}(h:CnI V c vo held out rq cl w){L:List Nat}(hk:Kx L w w')(h1:c∉L)(h2:∀r,vo.ownBlock=some r->r∉L):CnI V c vo held out rq cl w':=
 ⟨hk.heap h.blk h1,h.out.kx hk h2,h.ge,h.n1,h.n2,h.o1,h.o2,h.o3⟩
theorem CnI.below{V:Sv}{c:Nat}{vo:Value}{held:By}{out:L8}{rq:Nat}{cl:Bool}{w w':World}(h:CnI V c vo held out rq cl w)(hb:Bw w w'):CnI V c vo held out rq cl w':=
 h.kx (L:=[]) (Kx.of hb) (by simp) (λr _=>by simp)
theorem SvI.ls{V:Sv}{hs:List Int}{w:World}(h:SvI V hs w):V.s<w.heap.size:=heap_lt h.blk
theorem SvI.lh{V:Sv}{hs:List Int}{w:World}(h:SvI V hs w):V.h<w.heap.size:=heap_lt h.hit
theorem CnI.lt{V:Sv}{c:Nat}{vo:Value}{held:By}{out:L8}{rq:Nat}{cl:Bool}{w:World}(h:CnI V c vo held out rq cl w):c<w.heap.size:=heap_lt h.blk
theorem SvI.cells{V:Sv}{hs:List Int}{w:World}(h:SvI V hs w):w.cell? ⟨V.s,0,none⟩=some (.int .i64 V.hd)/\w.cell? ⟨V.s,1,none⟩=some (.int .i64 V.bd)/\w.cell? ⟨V.s,2,none⟩=some (.pointer (some ⟨V.gs,0,none⟩))/\w.cell? ⟨V.s,3,none⟩=some (.int .i32 0)/\w.cell? ⟨V.s,4,none⟩=some (.int .u32 0)/\w.cell? ⟨V.s,5,none⟩=some (hv V.h hs.length):=by
 refine⟨?_,?_,?_,?_,?_,?_⟩<;>(rw[Ab h.blk];rfl)
theorem CnI.cells{V:Sv}{c:Nat}{vo:Value}{held:By}{out:L8}{rq:Nat}{cl:Bool}{w:World}(h:CnI V c vo held out rq cl w):w.cell? ⟨c,0,none⟩=some (.pointer (some ⟨V.s,0,none⟩))/\w.cell? ⟨c,1,none⟩=some (.string held)/\w.cell? ⟨c,2,none⟩=some vo/\w.cell? ⟨c,3,none⟩=some (.int .i64 rq)/\w.cell? ⟨c,4,none⟩=some (.bool cl):=by
 refine⟨?_,?_,?_,?_,?_⟩<;>(rw[Ab h.blk];rfl)
abbrev cnL(V:Sv)(c:Nat)(vo:Value):List Nat:=[V.s,V.h,c]++vo.ownBlock.toList
end Go.Proofs.YtbiggccolpchcaaGreatDoor
namespace Go.Proofs.YtbiggccolpchcaaGreatDoor
open Go.RowKit Go.MuLone _root_.Go.Proofs.Tryz
def Fo(st:Int)(ro:Nat)(hs:List Int):List Int:=if st=200 then hs.set ro ((hs[ro]?).getD 0+1)else hs
theorem Xg(st:Int)(ro:Nat)(hs:List Int):(Fo st ro hs).length=hs.length:=by unfold Fo;split<;>simp
theorem Rm{hs:List Int}{k:Nat}(h:k<hs.length):(hiC hs)[k]?=some (.int .i64 ((hs[k]?).getD 0)):=by
 rw[List.getElem?_toArray,E3z,Av h];rfl
theorem Bj{w:World}{g:Nat}{cs:Array Value}{t:TypeId}(hg:w.heap[g]?=some (.cells cs t (0,0)))(i:Nat)(v:Value):(w.setCell ⟨g,i,none⟩ v).heap[g]?=some (.cells (cs.setIfInBounds i v) t (0,0)):=heap_setCell_same w g i cs t v hg
theorem b0S{V:Sv}{hs:List Int}{w:World}(I:SvI V hs w)(k:Nat)(x:Int):SvI V (hs.set k x) (((w.setCell ⟨V.s,3,none⟩ (.int .i32 1)).setCell ⟨V.h,k,none⟩ (.int .i64 x)).drew.setCell ⟨V.s,3,none⟩ (.int .i32 0))/\Kx [V.s,V.h] w (((w.setCell ⟨V.s,3,none⟩ (.int .i32 1)).setCell ⟨V.h,k,none⟩ (.int .i64 x)).drew.setCell ⟨V.s,3,none⟩ (.int .i32 0)):=by
 have hk1:Kx [V.s,V.h] w (w.setCell ⟨V.s,3,none⟩ (.int .i32 1)):=Kx.set _ _ (by simp);have hk2:Kx [V.s,V.h] (w.setCell ⟨V.s,3,none⟩ (.int .i32 1)) ((w.setCell ⟨V.s,3,none⟩ (.int .i32 1)).setCell ⟨V.h,k,none⟩ (.int .i64 x)):=Kx.set _ _ (by simp);have hk3:Kx [V.s,V.h] ((w.setCell ⟨V.s,3,none⟩ (.int .i32 1)).setCell ⟨V.h,k,none⟩ (.int .i64 x)).drew (((w.setCell ⟨V.s,3,none⟩ (.int .i32 1)).setCell ⟨V.h,k,none⟩ (.int .i64 x)).drew.setCell ⟨V.s,3,none⟩ (.int .i32 0)):=Kx.set _ _ (by simp);have hK:=((hk1.trans hk2 (λb hb=>.inl hb)).next (Ad _ _).drew).trans hk3 (λb hb=>.inl hb);have hL:∀b∈[V.s,V.h],V.w1.heap.size<=b:=λb hb=>by
  simp only[C3z,List.not_mem_nil,or_false]at hb;rcases hb with rfl|rfl
  ·exact I.ge1
  ·exact I.ge2
 refine⟨⟨I.bel.trans (hK.below hL I.bel.size),?_,?_,I.ge1,I.ge2,I.ne⟩,hK⟩
 ·have e1:=Bj I.blk 3 (.int .i32 1);have e2:((w.setCell ⟨V.s,3,none⟩ (.int .i32 1)).setCell ⟨V.h,k,none⟩ (.int .i64 x)).drew.heap[V.s]?=some (.cells (svC V 1 hs.length) 251 (0,0)):=by
   show((w.setCell ⟨V.s,3,none⟩ (.int .i32 1)).setCell ⟨V.h,k,none⟩ (.int .i64 x)).heap[V.s]?=_;rw[Aw _ _ _ _ (λe=>I.ne e)];exact e1
  have e3:=Bj e2 3 (.int .i32 0);rw[List.length_set];exact e3
 ·have e1:(w.setCell ⟨V.s,3,none⟩ (.int .i32 1)).heap[V.h]?=some (.cells (hiC hs) 3 (0,0)):=by
   rw[Aw _ _ _ _ (λe=>I.ne e.symm)];exact I.hit
  have e2:=Bj e1 k (.int .i64 x);rw[Aw _ _ _ _ (λe=>I.ne e.symm)];show((w.setCell ⟨V.s,3,none⟩ (.int .i32 1)).setCell ⟨V.h,k,none⟩ (.int .i64 x)).heap[V.h]?=_;rw[e2]
  congr 2
  apply Array.ext';simp[List.map_set]
end Go.Proofs.YtbiggccolpchcaaGreatDoor
namespace Go.Proofs.YtbiggccolpchcaaGreatDoor
open _root_.Go.Proofs.Tryz
def a0C(d:Nat):UInt8:=if d<10 then UInt8.ofNat (48+d)else UInt8.ofNat (87+d)
def Qe(b:Nat):Nat->Nat->L8
 |0,u=>[a0C u]
 |k+1,u=>if u<b\/b<2 then[a0C u]else Qe b k (u / b)++[a0C (u % b)]
def Hi(b u:Nat):L8:=Qe b u u
theorem a0D(b:Nat):∀(k u j:Nat),u<=k->k<=j->Qe b j u=Qe b k u
 |0,u,j,h,_=>by
  cases j with
  |zero=>rfl
  |succ j=>
   unfold Qe
   split
   ·rfl
   ·exfalso;omega
 |k+1,u,j,h,h2=>by
  cases j with
  |zero=>exfalso;omega
  |succ j=>
   unfold Qe
   split
   ·rfl
   ·have hd:u / b<u:=Nat.div_lt_self (by omega) (by omega);rw[a0D b k (u / b) j (by omega) (by omega)]
theorem Jr{b u:Nat}(h:u<b):Hi b u=[a0C u]:=by
 unfold Hi
 cases u with
 |zero=>rfl
 |succ u=>unfold Qe;rw[if_pos (Or.inl h)]
theorem Nk{b u:Nat}(hb:2<=b)(h:¬u<b):Hi b u=Hi b (u / b)++[a0C (u % b)]:=by
 unfold Hi
 cases u with
 |zero=>exfalso;omega
 |succ u=>
  have hd:(u+1) / b<u+1:=Nat.div_lt_self (by omega) (by omega);rw[Qe,if_neg (by omega),a0D b ((u+1) / b) ((u+1) / b) u (by omega) (by omega)]
def Fp(b:Nat)(n:Int):L8:=if n<0 then 45::Hi b n.natAbs else Hi b n.toNat
theorem a0E(u:Nat):Hi 10 u=Lib.decDigits u:=by
 induction u using Nat.strongRecOn with
 |_ u ih=>
  by_cases h:u<10
  ·rw[Jr h,Lib.decDigits,dif_pos h];unfold a0C;rw[if_pos h]
  ·rw[Nk (by omega) h,Lib.decDigits,dif_neg h,ih (u / 10) (by omega)];unfold a0C;rw[if_pos (by omega)]
theorem b4I(n:Int):Fp 10 n=Lib.itoa n:=by
 unfold Fp Lib.itoa;rw[a0E,a0E]
theorem a0F{b:Nat}(hb:2<=b):∀(k u:Nat),u<2 ^ (k+1)->(Hi b u).length<=k+1
 |0,u,h=>by rw[Jr (by simp at h;omega)];simp
 |k+1,u,h=>by
  by_cases hu:u<b
  ·rw[Jr hu];simp
  ·rw[Nk hb hu,A0z];have h1:u / b<2 ^ (k+1):=by
    rw[Nat.div_lt_iff_lt_mul (by omega)];rw[Nat.pow_succ]at h;exact Af h (Nat.mul_le_mul_left _ hb)
   have:=a0F hb k (u / b) h1;simp;omega
theorem Nl{b u:Nat}(hb:2<=b)(h:u<=9223372036854775808):(Hi b u).length<=64:=a0F hb 63 u (by omega)
theorem Im{b:Nat}{n:Int}(hb:2<=b)(h0:-9223372036854775808<=n)(h1:n<=9223372036854775807):(Fp b n).length<=65:=by
 unfold Fp
 split
 ·have:=Nl (b:=b) (u:=n.natAbs) hb (by omega);simp;omega
 ·have:=Nl (b:=b) (u:=n.toNat) hb (by omega);omega
end Go.Proofs.YtbiggccolpchcaaGreatDoor
namespace Go.Proofs.YtbiggccolpchcaaGreatDoor
open Go.RowKit _root_.Go.Proofs.Tryz
def c1Z:By:=⟨#[48,49,50,51,52,53,54,55,56,57,97,98,99,100,101,102]⟩
theorem a5H{x:Nat}(h:x<=9223372036854775807):wrap64 (x:Int)=(x:Int):=by
 unfold wrap64;omega
theorem a8N:∀k:Nat,k<16->(c1Z.extract k (k+1))=⟨#[a0C k]⟩:=by decide
theorem Fq{a:By}{l:L8}(h:a.data.toList=l):Ending.returned (.string a)=.returned (.string ⟨l.toArray⟩):=by
 congr 2;apply ByteArray.ext;rw[<-h]
theorem Ku(b:Nat)(hb:2<=b)(hb2:b<=16)(n:Nat):∀(w:World),n<=9223372036854775807 ->
  Calls prog 126 #[.int .i64 n,.int .i64 b] w λe w'=>e=.returned (.string ⟨(Hi b n).toArray⟩)/\Bw w w':=by
 induction n using Nat.strongRecOn with
 |_ n ih=>
  intro w hn;by_cases h:n<b
  ·have HX:=hid (a8N n (by omega));have HN:=hid (Jr h);unfold c1Z at HX;clear ih;go_enter func126,ntmps126;go_wp2;go_ret;refine⟨Fq ?_,Ad _ _⟩;rw[HN.out,HX.out]
  ·have hle:=Nat.div_le_self n b;have IH:=hid (λW=>ih (n / b) (Nat.div_lt_self (by omega) (by omega)) W (by omega));have HN:=hid (Nk hb h);have hlen:=Nl (b:=b) (u:=n / b) hb (by omega);have hm:n % b<16:=Af (Nat.mod_lt _ (by omega)) hb2;have HX:=hid (a8N (n % b) hm);have hq:wrap64 ((n:Int) / (b:Int))=((n / b:Nat):Int):=by
    rw[<-Int.natCast_ediv];exact a5H (by omega)
   have hr:((n:Int) % (b:Int))=((n % b:Nat):Int):=by rw[Int.natCast_emod]
   unfold c1Z at HX;generalize n / b=q at *
   generalize n % b=r at *
   clear ih;go_enter func126,ntmps126;go_wp2_with fail;refine(IH.out _).mono ?_;rintro e w1 ⟨rfl,hb1⟩;generalize hT:(⟨(Hi b q).toArray⟩:By)=T;have hTd:T.data.toList=Hi b q:=by rw[<-hT]
   have hTz:T.size<=64:=by
    have:T.data.toList.length=T.size:=by simp
    rw[hTd]at this;omega
   have HTD:=hid hTd;have hr3:wrap64 ((r:Int)+1)=(r:Int)+1:=by unfold wrap64;omega
   clear IH hT hTd hlen hq;go_wp2;go_ret;refine⟨Fq ?_,hb1⟩;rw[HN.out,C8z,D7z,HTD.out,HX.out]
theorem a0G(b:Nat)(hb:b=10\/b=16)(n:Int)(h0:0<=n)(h1:n<=9223372036854775807)(w:World):
  Calls prog 126 #[.int .i64 n,.int .i64 b] w λe w'=>e=.returned (.string ⟨(Fp b n).toArray⟩)/\Bw w w':=by
 have:=Ku b (by omega) (by omega) n.toNat w (by omega);unfold Fp;rw[if_neg (by omega)];rw[show((n.toNat:Nat):Int)=n from by omega]at this;exact this
theorem Qf(n:Int)(h0:n<0)(h1:-9223372036854775808<n)(w:World):
  Calls prog 126 #[.int .i64 n,.int .i64 10] w λe w'=>e=.returned (.string ⟨(Fp 10 n).toArray⟩)/\Bw w w':=by
 have HN:Hid (∀W:World,Calls prog 126 #[.int .i64 ((n.natAbs:Nat):Int),.int .i64 10] W λe w'=>e=.returned (.string ⟨(Hi 10 n.natAbs).toArray⟩)/\Bw W w'):=λW=>Ku 10 (by omega) (by omega) n.natAbs W (by omega);have hw:IntKind.i64.wrap (-n)=((n.natAbs:Nat):Int):=by simp[IntKind.wrap,IntKind.bits,IntKind.signed];omega
 have hne:(n==((n.natAbs:Nat):Int))=false:=by rw[Ar];omega
 have hlen:=Nl (b:=10) (u:=n.natAbs) (by omega) (by omega);have HE:Hid (Fp 10 n=45::Hi 10 n.natAbs):=by unfold Hid Fp;rw[if_pos h0]
 generalize n.natAbs=m at *
 go_enter func126,ntmps126;go_wp2_with fail;refine(HN.out _).mono ?_;rintro e w1 ⟨rfl,hb1⟩;generalize hT:(⟨(Hi 10 m).toArray⟩:By)=T;have hTd:T.data.toList=Hi 10 m:=by rw[<-hT]
 have hTz:T.size<=64:=by
  have:T.data.toList.length=T.size:=by simp
  rw[hTd]at this;omega
 have HTD:=hid hTd;clear hT hTd hlen hw hne HN;go_wp2;go_ret;refine⟨Fq ?_,hb1⟩;rw[HE.out,C8z,D7z,HTD.out];rfl
theorem b0T(u:Nat)(h:1<=u):Fp 10 (-((10*u+8:Nat):Int))=Fp 10 (-(u:Int))++[56]:=by
 unfold Fp;rw[if_pos (by omega),if_pos (by omega),Int.natAbs_neg,Int.natAbs_neg,Int.natAbs_natCast,Int.natAbs_natCast,Nk (b:=10) (u:=10*u+8) (by omega) (by omega),show(10*u+8) / 10=u from by omega,show(10*u+8) % 10=8 from by omega];rfl
theorem b4J(n m:Int)(hn:n=-9223372036854775808)(hm:m=-922337203685477580):Fp 10 n=Fp 10 m++[56]:=by
 have:=b0T 922337203685477580 (by omega);rw[show(-((10*922337203685477580+8:Nat):Int))=n from by omega,show(-((922337203685477580:Nat):Int))=m from by omega]at this;exact this
theorem a0H(n:Int)(hn:n=-9223372036854775808)(w:World):
  Calls prog 126 #[.int .i64 n,.int .i64 10] w λe w'=>e=.returned (.string ⟨(Fp 10 n).toArray⟩)/\Bw w w':=by
 obtain⟨m,hm⟩:∃m:Int,m=-922337203685477580:=⟨_,rfl⟩;have HN:=hid (λW=>Qf m (by omega) (by omega) W);have HE:=hid (b4J n m hn hm);have hlen:=Im (b:=10) (n:=m) (by omega) (by omega) (by omega);generalize hT:(⟨(Fp 10 m).toArray⟩:By)=T at *
 have hTd:T.data.toList=Fp 10 m:=by rw[<-hT]
 have hTz:T.size<=65:=by
  have:T.data.toList.length=T.size:=by simp
  rw[hTd]at this;omega
 have HTD:=hid hTd;have hw:IntKind.i64.wrap (-n)=n:=by rw[hn];rfl
 have h0:n<0:=by omega
 have hd:wrap64 (n.tdiv 10)=m:=by rw[hn,hm];decide +kernel
 have hr:wrap64 (-n.tmod 10)=8:=by rw[hn];decide +kernel
 clear hT hTd hlen hn hm;go_enter func126,ntmps126;go_wp2_with fail;refine(HN.out _).mono ?_;rintro e w1 ⟨rfl,hb1⟩;clear HN;go_wp2;go_ret;refine⟨Fq ?_,hb1⟩;rw[HE.out,C8z,D7z,HTD.out];rfl
theorem Qg(n:Int)(h0:-9223372036854775808<=n)(h1:n<=9223372036854775807)(w:World):
  Calls prog 126 #[.int .i64 n,.int .i64 10] w λe w'=>e=.returned (.string ⟨(Fp 10 n).toArray⟩)/\Bw w w':=by
 by_cases h:0<=n
 ·exact a0G 10 (.inl rfl) n h h1 w
 ·by_cases h2:n=-9223372036854775808
  ·exact a0H n h2 w
  ·exact Qf n (by omega) (by omega) w
theorem Dx{a b:By}(h:a=b):Ending.returned (.string a)=.returned (.string b):=by rw[h]
theorem Dj{n c:Int}{b:By}(h:(n==c)=true)(hr:Pm.a4h c=b):b=Pm.a4h n:=by
 have:n=c:=by simpa using h
 rw[this,hr]
theorem b0U{n:Int}(h200:(n==200)=false)(h301:(n==301)=false)(h308:(n==308)=false)(h400:(n==400)=false)(h403:(n==403)=false)(h404:(n==404)=false)(h405:(n==405)=false)(h413:(n==413)=false)(h431:(n==431)=false)(h500:(n==500)=false)(h501:(n==501)=false)(h505:(n==505)=false):(⟨#[83,116,97,116,117,115]⟩:By)=Pm.a4h n:=by
 have e:∀c:Int,(n==c)=false->¬c=n:=λc h h2=>by rw[h2]at h;simp at h
 unfold Pm.a4h Pm.a0t Pm.a2q;rw[if_neg (e _ h200)];rw[Pm.a2q,if_neg (e _ h301)];rw[Pm.a2q,if_neg (e _ h308)];rw[Pm.a2q,if_neg (e _ h400)];rw[Pm.a2q,if_neg (e _ h403)];rw[Pm.a2q,if_neg (e _ h404)];rw[Pm.a2q,if_neg (e _ h405)];rw[Pm.a2q,if_neg (e _ h413)];rw[Pm.a2q,if_neg (e _ h431)];rw[Pm.a2q,if_neg (e _ h500)];rw[Pm.a2q,if_neg (e _ h501)];rw[Pm.a2q,if_neg (e _ h505)];rfl
theorem Hb{n c:Int}{k:Nat}{t:L8}{r:List (Int×L8)}(hH:Pm.a2q Pm.a0t n=Pm.a2q (Pm.a0t.drop k) n)(hd:Pm.a0t.drop k=(c,t)::r)(h:(c==n)=true):(⟨t.toArray⟩:By)=Pm.a4h n:=by
 have:c=n:=by simpa using h
 unfold Pm.a4h;rw[hH,hd,Pm.a2q,if_pos this]
theorem Fu{n c:Int}{k:Nat}{t:L8}{r:List (Int×L8)}(hH:Pm.a2q Pm.a0t n=Pm.a2q (Pm.a0t.drop k) n)(hd:Pm.a0t.drop k=(c,t)::r)(h:(c==n)=false):Pm.a2q Pm.a0t n=Pm.a2q r n:=by
 have:¬c=n:=by simpa using h
 rw[hH,hd,Pm.a2q,if_neg this]
theorem a0I(n:Int)(w:World):
  Calls prog 134 #[.int .i64 n] w λe w'=>e=.returned (.string (Pm.a4h n))/\w'=w:=by
 go_enter func134,ntmps134;go_wp2
 all_goals
  go_ret;refine⟨Dx ?_,rfl⟩
  first
   |exact Dj (c:=200) (by assumption) rfl
   |exact Dj (c:=301) (by assumption) rfl
   |exact Dj (c:=308) (by assumption) rfl
   |exact Dj (c:=400) (by assumption) rfl
   |exact Dj (c:=403) (by assumption) rfl
   |exact Dj (c:=404) (by assumption) rfl
   |exact Dj (c:=405) (by assumption) rfl
   |exact Dj (c:=413) (by assumption) rfl
   |exact Dj (c:=431) (by assumption) rfl
   |exact Dj (c:=500) (by assumption) rfl
   |exact Dj (c:=501) (by assumption) rfl
   |exact Dj (c:=505) (by assumption) rfl
   |exact b0U (by assumption) (by assumption) (by assumption) (by assumption) (by assumption) (by assumption) (by assumption) (by assumption) (by assumption) (by assumption) (by assumption) (by assumption)
theorem a0J(n:Int)(w:World):
  Calls prog 78 #[.int .i64 n] w λe w'=>e=.returned (.string (Pm.a4h n))/\Bw w w':=by
 have hfin:∀x y:Obj,Hid (Bw w ((w.alloc x).alloc y)):=λx y=>(bA _ _).alloc (by simp) _;go_enter func78,ntmps78;go_wp2
 go_loop [5] (λi=>∃k:Nat,k<=12/\i=.int .i64 k/\Hid (Pm.a2q Pm.a0t n=Pm.a2q (Pm.a0t.drop k) n)) (λi=>12-(intOf i).toNat)
 case atStart=>exact⟨0,by omega,rfl,rfl⟩
 case round=>
  obtain⟨k,hk,rfl,H⟩:=hrel;obtain rfl|rfl|rfl|rfl|rfl|rfl|rfl|rfl|rfl|rfl|rfl|rfl|rfl:k=0\/k=1\/k=2\/k=3\/k=4\/k=5\/k=6\/k=7\/k=8\/k=9\/k=10\/k=11\/k=12:=by omega
  ·go_wp2
   ·go_ret;exact⟨Dx (Hb H.out rfl (by assumption)),(hfin _ _).out⟩
   ·exact⟨⟨1,by omega,rfl,Fu H.out rfl (by assumption)⟩,by simp[intOf]⟩
  ·go_wp2
   ·go_ret;exact⟨Dx (Hb H.out rfl (by assumption)),(hfin _ _).out⟩
   ·exact⟨⟨2,by omega,rfl,Fu H.out rfl (by assumption)⟩,by simp[intOf]⟩
  ·go_wp2
   ·go_ret;exact⟨Dx (Hb H.out rfl (by assumption)),(hfin _ _).out⟩
   ·exact⟨⟨3,by omega,rfl,Fu H.out rfl (by assumption)⟩,by simp[intOf]⟩
  ·go_wp2
   ·go_ret;exact⟨Dx (Hb H.out rfl (by assumption)),(hfin _ _).out⟩
   ·exact⟨⟨4,by omega,rfl,Fu H.out rfl (by assumption)⟩,by simp[intOf]⟩
  ·go_wp2
   ·go_ret;exact⟨Dx (Hb H.out rfl (by assumption)),(hfin _ _).out⟩
   ·exact⟨⟨5,by omega,rfl,Fu H.out rfl (by assumption)⟩,by simp[intOf]⟩
  ·go_wp2
   ·go_ret;exact⟨Dx (Hb H.out rfl (by assumption)),(hfin _ _).out⟩
   ·exact⟨⟨6,by omega,rfl,Fu H.out rfl (by assumption)⟩,by simp[intOf]⟩
  ·go_wp2
   ·go_ret;exact⟨Dx (Hb H.out rfl (by assumption)),(hfin _ _).out⟩
   ·exact⟨⟨7,by omega,rfl,Fu H.out rfl (by assumption)⟩,by simp[intOf]⟩
  ·go_wp2
   ·go_ret;exact⟨Dx (Hb H.out rfl (by assumption)),(hfin _ _).out⟩
   ·exact⟨⟨8,by omega,rfl,Fu H.out rfl (by assumption)⟩,by simp[intOf]⟩
  ·go_wp2
   ·go_ret;exact⟨Dx (Hb H.out rfl (by assumption)),(hfin _ _).out⟩
   ·exact⟨⟨9,by omega,rfl,Fu H.out rfl (by assumption)⟩,by simp[intOf]⟩
  ·go_wp2
   ·go_ret;exact⟨Dx (Hb H.out rfl (by assumption)),(hfin _ _).out⟩
   ·exact⟨⟨10,by omega,rfl,Fu H.out rfl (by assumption)⟩,by simp[intOf]⟩
  ·go_wp2
   ·go_ret;exact⟨Dx (Hb H.out rfl (by assumption)),(hfin _ _).out⟩
   ·exact⟨⟨11,by omega,rfl,Fu H.out rfl (by assumption)⟩,by simp[intOf]⟩
  ·go_wp2
   ·go_ret;exact⟨Dx (Hb H.out rfl (by assumption)),(hfin _ _).out⟩
   ·exact⟨⟨12,by omega,rfl,Fu H.out rfl (by assumption)⟩,by simp[intOf]⟩
  ·go_wp2;go_ret;exact⟨Dx (by unfold Pm.a4h;rw[H.out];rfl),(hfin _ _).out⟩
def Gm(n v:L8):L8:=n++[58,32]++v++[13,10]
abbrev Oz(B g:Nat)(l:L8)(w:World):Prop:=Lib.IsBuilder 265 5 B g (Lib.byteCells l) w
theorem Hj{B g:Nat}{l:L8}{s:By}{w:World}(h:Lib.BuilderAt 265 5 B g (.pointer (some ⟨g,0,none⟩)) (Lib.byteCells l++Lib.strCells s) w):Oz B g (l++s.data.toList) w:=by
 unfold Oz;rw[Lib.byteCells_append];exact .inr h
theorem Gr(l:L8):(Lib.byteCells l).length=l.length:=by simp[Lib.byteCells]
theorem Hz(B g:Nat)(l:L8)(n v:By)(w:World)(h:Oz B g l w)(hl:l.length+n.size+v.size+4<=140737488355328)(hB:B<=w.heap.size):
  Calls prog 194 #[.pointer (some ⟨g,0,none⟩),.string n,.string v] w λe w'=>e=.returned (.tuple #[])/\Oz B g (l++Gm n.data.toList v.data.toList) w'/\Below B w w':=by
 have c58:(⟨#[58,32]⟩:By).size=2:=rfl;have c13:(⟨#[13,10]⟩:By).size=2:=rfl;have HL:=hid (@Gr);go_enter func194,ntmps194;go_wp2_with fail;refine(Tryz.Builder_WriteString _ _ _ n _ h (by rw[HL.out];omega) hB).mono ?_;rintro e w1 ⟨rfl,h1,hb1⟩;have b1:=Hj h1;have s1:=hb1.size;go_wp2_with fail;refine(Tryz.Builder_WriteString _ _ _ ⟨#[58,32]⟩ _ b1 (by rw[HL.out];simp;omega) (by omega)).mono ?_;rintro e w2 ⟨rfl,h2,hb2⟩;have b2:=Hj h2;have s2:=hb2.size;go_wp2_with fail;refine(Tryz.Builder_WriteString _ _ _ v _ b2 (by rw[HL.out];simp;omega) (by omega)).mono ?_;rintro e w3 ⟨rfl,h3,hb3⟩;have b3:=Hj h3;have s3:=hb3.size;go_wp2_with fail;refine(Tryz.Builder_WriteString _ _ _ ⟨#[13,10]⟩ _ b3 (by rw[HL.out];simp;omega) (by omega)).mono ?_;rintro e w4 ⟨rfl,h4,hb4⟩;have b4:=Hj h4;have BF:Hid (Oz B g (l++Gm n.data.toList v.data.toList) w4/\Below B w w4):=by
  refine⟨?_,((hb1.trans hb2).trans hb3).trans hb4⟩;unfold Gm;simpa[List.append_assoc]using b4
 clear b1 b2 b3 b4 h1 h2 h3 h4 hb1 hb2 hb3 hb4 h;go_wp2;refine bodyPost_end (v:=.tuple #[]) (by simp[results,results194,go_sem]) rfl ?_;exact⟨rfl,BF.out.1,BF.out.2⟩
end Go.Proofs.YtbiggccolpchcaaGreatDoor
namespace Go.Proofs.YtbiggccolpchcaaGreatDoor.Bn
open Go.RowKit _root_.Go.Proofs.Tryz
def Ej(mc:List Value):Nat->List Value
 |0=>[]
 |k+1=>mc++Ej mc k
theorem Fa(mc:List Value)(k:Nat):(Ej mc k).length=k*mc.length:=by
 induction k with
 |zero=>simp[Ej]
 |succ k ih=>rw[Ej,A0z,ih,F0z];omega
theorem b4K(mc:List Value)(j k:Nat):Ej mc (j+k)=Ej mc j++Ej mc k:=by
 induction j with
 |zero=>simp[Ej]
 |succ j ih=>rw[show j+1+k=(j+k)+1 from by omega,Ej,Ej,ih,C5z]
theorem Nm(mc:List Value):∀(k i j:Nat) (v:Value),i<k->mc[j]?=some v->(Ej mc k)[i*mc.length+j]?=some v
 |0,i,j,v,h,_=>absurd h (by omega)
 |k+1,0,j,v,_,hj=>by
  have hl:=(List.getElem?_eq_some_iff.1 hj).1;rw[Ej,Nat.zero_mul,C1z,F5z hl];exact hj
 |k+1,i+1,j,v,h,hj=>by
  rw[Ej,F1z (by rw[F0z];omega),show(i+1)*mc.length+j-mc.length=i*mc.length+j by rw[F0z];omega];exact Nm mc k i j v (by omega) hj
theorem a0K{mc:List Value}(h:∀u∈mc,u.oneCell'=true)(k:Nat):∀u∈Ej mc k,u.oneCell'=true:=by
 induction k with
 |zero=>intro u hu;simp[Ej]at hu
 |succ k ih=>
  intro u hu;rw[Ej,D3z]at hu;rcases hu with hu|hu
  ·exact h u hu
  ·exact ih u hu
def MkG(mc:List Value)(k:Nat)(a:Oa)(w:World):Prop:=
 ∀i,i<k->∃g,a=some ⟨g,0,none⟩/\g<w.heap.size/\∀j v,mc[j]?=some v->w.cell? ⟨g,i*mc.length+j,none⟩=some v
theorem MkG.below{mc:List Value}{k:Nat}{a:Oa}{w w':World}(h:MkG mc k a w)(hb:Bw w w'):MkG mc k a w':=λi hi=>by
 obtain⟨g,h1,h2,h3⟩:=h i hi;exact⟨g,h1,Af h2 hb.size,λj v hj=>Aa hb (h3 j v hj)⟩
theorem MkG.block{mc:List Value}{k:Nat}{a:Oa}{w w':World}(h:MkG mc k a w)(hs:w.heap.size<=w'.heap.size)(hb:∀g,a=some ⟨g,0,none⟩->w'.heap[g]?=w.heap[g]?):MkG mc k a w':=λi hi=>by
 obtain⟨g,h1,h2,h3⟩:=h i hi;exact⟨g,h1,Af h2 hs,λj v hj=>by rw[Au (w:=w) (hb g h1)];exact h3 j v hj⟩
theorem Io{mc:List Value}{w:World}{B:Nat}{e:TypeId}{v:Value}{k:Nat}(h:w.ownsRow B e mc.length v k (Ej mc k)):∃a cap,v=.slice a k cap/\MkG mc k a w:=by
 obtain⟨h1,h2⟩:=h;rcases h2 with⟨h2,h3⟩|⟨g,cap,cur,hv,hB,hg,hc,hm,hsz,ht⟩
 ·subst h3;exact⟨none,0,h2,λi hi=>absurd hi (by omega)⟩
 ·refine⟨some ⟨g,0,none⟩,cap,hv,λi hi=>⟨g,rfl,?_,λj v hj=>?_⟩⟩
  ·rcases B8z g w.heap.size with h'|h'
   ·exact h'
   ·simp[Array.getElem?_eq_none h']at hg
  ·have m1:=Nm mc k i j v hi hj;rw[<-ht,D0z]at m1;rw[Ab hg]
   split at m1
   ·simpa using m1
   ·cases m1
theorem Xh{mc:List Value}{w:World}{B:Nat}{e:TypeId}{g k m cap:Nat}(hm:w.ownsRow B e mc.length (.slice (some ⟨g,0,none⟩) (k+m) cap) (k+m) (Ej mc k++Ej mc m)):w.ownsRow B e mc.length (.slice (some ⟨g,0,none⟩) k cap) k (Ej mc k):=by
 obtain⟨h1,h2⟩:=hm;rcases h2 with⟨h2,_⟩|⟨g',cap',cur,hv,hB,hg,hc,hmx,hsz,ht⟩
 ·cases h2
 ·simp only[Value.slice.injEq,Option.some.injEq,Addr.mk.injEq]at hv;obtain⟨⟨rfl,_,_⟩,_,rfl⟩:=hv;refine⟨Fa mc k,.inr ⟨g,cap,cur,rfl,hB,hg,by omega,hmx,hsz,?_⟩⟩;have:=congrArg (List.take (k*mc.length)) ht;rw[List.take_take,List.take_left' (Fa mc k),show min (k*mc.length) ((k+m)*mc.length)=k*mc.length from Nat.min_eq_left (D1z _ (by omega))]at this;exact this
theorem b0V(l ns:List Value)(A x:Nat)(hA:A<=l.length):(l.take A++ns++l.drop (A+ns.length))[x]?=if x<A then l[x]? else if x<A+ns.length then ns[x-A]? else l[x]?:=by
 have hl:(l.take A).length=A:=by simp;omega
 rw[C5z];by_cases h1:x<A
 ·rw[if_pos h1,F5z (by omega),List.getElem?_take_of_lt h1]
 ·rw[if_neg h1,F1z (by omega),hl];by_cases h2:x<A+ns.length
  ·rw[if_pos h2,F5z (by omega)]
  ·rw[if_neg h2,F1z (by omega),List.getElem?_drop]
   congr 1;omega
section
variable{P:Program}(w:World)
theorem Nn{mc:List Value}(h1c:∀u∈mc,u.oneCell'=true)(hs1:1<=mc.length)(t ty:TypeId)(base:Nat)(e:TypeId)(i:TypeInfo)(z:Value)(by_:Nat)(ht:P.underlying t=some (.slice e))(hi:P.info? e=some i)(hz:i.zero=some z)
  (hsize:i.size=mc.length) (hby:i.bytes=by_) (hb40:by_<=40) (hzs:z.cells.size=mc.length) (v:Value) (k:Nat) (hown:w.ownsRow base e mc.length v k (Ej mc k))
  (ad:Addr) (m c:Nat) (hnews:∀j u,(Ej mc m)[j]?=some u->w.cell? (ad.add j)=some u)
  (hm:0<m) (h63:k+m<=1000000) (hbase:base<=w.heap.size) :
  ∃g cap w',(Builtin.append_ #[t,t] ty #[v,.slice (some ad) m c]).run P w=.ok (.slice (some ⟨g,0,none⟩) (k+m) cap) w' /\
   w'.ownsRow base e mc.length (.slice (some ⟨g,0,none⟩) (k+m) cap) (k+m) (Ej mc (k+m))/\w.grownBy w' v.ownBlock/\(v.ownBlock=some g\/g=w.heap.size)/\g<w'.heap.size /\
   w'.ownsRow base e mc.length v k (Ej mc k)/\(∀j a,MkG mc j a w->MkG mc j a w'):=by
 obtain⟨g,cap,w',hr,h2,h3,h4,h5⟩:=run_append_lies (P:=P) w t ty base e i z mc.length by_ ht hi hz hsize hby hzs hs1 v k (Ej mc k) hown ad m c (Ej mc m) (Fa mc m) hnews (a0K h1c m) hm (by unfold maxLen;omega) (by have:=Nat.mul_le_mul h63 hb40;omega) hbase _ rfl;refine⟨g,cap,w',hr,by rw[b4K];exact h2,h3,h4,h5,?_⟩;rcases hown.2 with⟨rfl,rfl⟩|⟨g0,cap0,cur,rfl,hbg,hg,hnc,hcm,hcs,htake⟩
 ·refine⟨Am _ _ _ _,λj a hj q hq=>?_⟩;obtain⟨gg,h6,h7,h8⟩:=hj q hq;have hb:=h3.block gg h7 (by simp[Value.ownBlock]);exact⟨gg,h6,Af h7 h3.size,λy v hy=>by rw[Au (w:=w) hb];exact h8 y v hy⟩
 ·by_cases hroom:k+m<=cap0
  ·have hr2:=run_append_room (P:=P) w t ty e i ht hi g0 k cap0 cur hg ad m c (Ej mc m) (by rw[hsize];exact Fa mc m) hnews (a0K h1c m) hroom (by rw[hsize,Fa,hcs,<-Nat.add_mul];exact D1z _ hroom);rw[hr]at hr2;simp only[Result.ok.injEq,Value.slice.injEq,Option.some.injEq,Addr.mk.injEq]at hr2;obtain⟨⟨⟨rfl,_,_⟩,_,rfl⟩,hw'⟩:=hr2;refine⟨Xh h2,λj a hj q hq=>?_⟩;obtain⟨gg,h6,h7,h8⟩:=hj q hq;refine⟨gg,h6,Af h7 h3.size,λy v hy=>?_⟩;have h9:=h8 y v hy;by_cases hgg:gg=g
   ·subst hgg;have hyl:=(List.getElem?_eq_some_iff.1 hy).1;rw[hsize,Fa]at hw';have hg2:w'.heap[gg]?=some (.cells (cur.toList.take (k*mc.length)++Ej mc m++cur.toList.drop (k*mc.length+m*mc.length)).toArray e (0,0)):=by
     rw[hw'];exact setRow_heap w gg cur _ e _ hg
    have hcl:cur.toList.length=cap*mc.length:=by rw[<-hcs];simp
    have hA:k*mc.length<=cur.toList.length:=by rw[hcl];exact D1z _ (by omega)
    rw[Ab hg]at h9;have og:=λx=>b0V cur.toList (Ej mc m) (k*mc.length) x hA;rw[Fa]at og;rw[Ab hg2,List.getElem?_toArray,og]
    split
    ·simpa using h9
    ·rename_i hn1
     split
     ·rename_i hn2
      have hkq:k<=q:=by
       rcases B8z q k with h|h
       ·exfalso;have:=D1z mc.length (show q+1<=k by omega);rw[F0z]at this;omega
       ·exact h
      have hqm:q-k<m:=by
       rcases B8z (q-k) m with h|h
       ·exact h
       ·exfalso;have:=D1z mc.length (show k+m<=q by omega);rw[Nat.add_mul]at this;omega
      have:=Nm mc m (q-k) y v hqm hy;rw[Nat.sub_mul]at this;rw[show q*mc.length+y-k*mc.length=q*mc.length-k*mc.length+y by have:=D1z mc.length hkq;omega];exact this
     ·simpa using h9
   ·have hb:=h3.block gg h7 (by simp[Value.ownBlock];exact λh=>hgg h);rw[Au (w:=w) hb];exact h9
  ·have holds:∀j u,(Ej mc k)[j]?=some u->w.cell? ((⟨g0,0,none⟩:Addr).add j)=some u:=hown.cells (g:=g0) rfl;have hr2:=run_append_grow (P:=P) w t ty e i z ht hi hz ⟨g0,0,none⟩ k cap0 (Ej mc k) (by rw[hsize];exact Fa mc k) holds ad m c (Ej mc m) (by rw[hsize];exact Fa mc m) hnews (by omega) (by omega) (growslice_fits (by omega) (by rw[hby];have:=Nat.mul_le_mul h63 hb40;omega));rw[hr]at hr2;simp only[Result.ok.injEq]at hr2;obtain⟨_,hw'⟩:=hr2;have hB:Bw w w':=by rw[hw'];exact(Ad _ _).drew.alloc (by simp) _
   exact⟨Be hown hB,λj a hj=>hj.below hB⟩
theorem Fb{mc:List Value}(h1c:∀u∈mc,u.oneCell'=true)(hs1:1<=mc.length){ops:Array Oper}{rest:List Oper}{o:Oper}{a:Act}{Q:Exit->Act->World->Prop}(hgd:o.guard=none)(s x:Operand)(t:TypeId)
  (ho:o.op=.call {callee:=.builtin .append,args:=#[s,x],argTypes:=#[t,t]})
  (base:Nat) (e:TypeId) (i:TypeInfo) (z:Value) (by_:Nat) (ht:P.underlying t=some (.slice e)) (hi:P.info? e=some i) (hz:i.zero=some z)
  (hsize:i.size=mc.length) (hby:i.bytes=by_) (hb40:by_<=40) (hzs:z.cells.size=mc.length) (v:Value) (k:Nat) (hs:a.eval s=v) (hown:w.ownsRow base e mc.length v k (Ej mc k))
  (ad:Addr) (m c:Nat) (hx:a.eval x=.slice (some ad) m c) (hnews:∀j u,(Ej mc m)[j]?=some u->w.cell? (ad.add j)=some u)
  (hm:0<m) (h63:k+m<=1000000) (hbase:base<=w.heap.size)
  (h:∀g cap w',w'.ownsRow base e mc.length (.slice (some ⟨g,0,none⟩) (k+m) cap) (k+m) (Ej mc (k+m))->w.grownBy w' v.ownBlock->(v.ownBlock=some g\/g=w.heap.size)->g<w'.heap.size ->
   w'.ownsRow base e mc.length v k (Ej mc k)->(∀j a,MkG mc j a w->MkG mc j a w')->wpList P ops Q rest (a.put o.dst (.slice (some ⟨g,0,none⟩) (k+m) cap)) w'):wpList P ops Q (o::rest) a w:=by
 refine wpList_plain hgd λK hK=>?_;obtain⟨g,cap,w',hr,h2,h3,h4,h5,h6,h7⟩:=Nn (P:=P) w h1c hs1 t o.type base e i z by_ ht hi hz hsize hby hb40 hzs v k hown ad m c hnews hm h63 hbase;unfold Oper.wp execOp;simp only[ho,resolve,invoke,builtin,Sem.run_bind,Sem.run_pure,Result.andThen_ok,List.map_toArray,B1z,E0z,hs,hx,hr];exact hK _ _ (h g cap w' h2 h3 h4 h5 h6 h7)
end
def LsI(mc:List Value)(u:Value)(w:World):Prop:=∃a n cap,u=.slice a n cap/\n<=1000000/\MkG mc n a w
theorem LsI.kx{mc:List Value}{u:Value}{w w':World}{L:List Nat}(h:LsI mc u w)(k:Kx L w w')(hn:∀r,u.ownBlock=some r->r∉L):LsI mc u w':=by
 obtain⟨a,n,cap,rfl,h1,h2⟩:=h;refine⟨a,n,cap,rfl,h1,λi hi=>?_⟩;obtain⟨g,e1,e2,e3⟩:=h2 i hi;subst e1;refine⟨g,rfl,Af e2 k.size,λj v hj=>?_⟩;rw[Au (w:=w) (k.2 g e2 (hn g rfl))];exact e3 j v hj
theorem Vt{w:World}{B:Nat}{e:TypeId}{sz:Nat}{v:Value}{n:Nat}{xs:List Value}(h:w.ownsRow B e sz v n xs):∃a c,v=.slice a n c:=by
 rcases h.2 with⟨rfl,rfl⟩|⟨g,cap,cur,rfl,_⟩
 ·exact⟨_,_,rfl⟩
 ·exact⟨_,_,rfl⟩
theorem Cb{w:World}{B:Nat}{e:TypeId}{sz:Nat}{v:Value}{n:Nat}{xs:List Value}(h:w.ownsRow B e sz v n xs):∀r,v.ownBlock=some r->B<=r/\r<w.heap.size:=by
 intro r hr;rcases h.2 with⟨rfl,_⟩|⟨g,cap,cur,rfl,hB,hg,_⟩
 ·cases hr
 ·simp only[Value.ownBlock,Option.some.injEq]at hr;subst hr;refine⟨hB,?_⟩;rcases B8z g w.heap.size with h'|h'
  ·exact h'
  ·simp[Array.getElem?_eq_none h']at hg
theorem a8O{w w':World}{B:Nat}{e:TypeId}{sz:Nat}{v:Value}{n:Nat}{xs:List Value}{L:List Nat}(h:w.ownsRow B e sz v n xs)(k:Kx L w w')(hn:∀r,v.ownBlock=some r->r∉L):w'.ownsRow B e sz v n xs:=by
 refine⟨h.1,?_⟩;rcases h.2 with h0|⟨g,cap,cur,rfl,hB,hg,h4⟩
 ·exact .inl h0
 ·exact .inr ⟨g,cap,cur,rfl,hB,k.heap hg (hn g rfl),h4⟩
structure St(bk L B:Nat)(cs:Array Value)(ct et lt:TypeId)(mb:Option Nat)(mc vs:List Value)(V l:Value)(k:Nat)(w0 w:World):Prop where
 ow:w.ownsRow L et mc.length l k (Ej mc k)
 kbk:w.heap[bk]?=some (.cells cs ct (0,0))
 kV:w.ownsRow B lt 1 V vs.length vs
 kx:Kx l.ownBlock.toList w0 w
 kS:L<=w.heap.size
 kT:B<=w.heap.size
 km:∀b,mb=some b->b<w.heap.size/\∀j v,mc[j]?=some v->w.cell? ⟨b,j,none⟩=some v
section
variable{bk L B:Nat}{cs:Array Value}{ct et lt:TypeId}{mb:Option Nat}{mc vs:List Value}{V l:Value}{k:Nat}{w0 w w':World}
theorem St.below(h:St bk L B cs ct et lt mb mc vs V l k w0 w)(hb:Bw w w'):St bk L B cs ct et lt mb mc vs V l k w0 w':=
 ⟨Be h.ow hb,by rw[hb.block bk (heap_lt h.kbk)];exact h.kbk,Be h.kV hb,h.kx.next hb,Aj h.kS hb.size,Aj h.kT hb.size,λb hbb=>⟨Af (h.km b hbb).1 hb.size,λj v hj=>Aa hb ((h.km b hbb).2 j v hj)⟩⟩
theorem St.grown(h:St bk L B cs ct et lt mb mc vs V l k w0 w)(hg:w.grownBy w' l.ownBlock)(how:w'.ownsRow L et mc.length l k (Ej mc k))(h1:l.ownBlock≠some bk)(h2:∀r,V.ownBlock=some r->l.ownBlock≠some r)(h3:∀b,mb=some b->l.ownBlock≠some b):St bk L B cs ct et lt mb mc vs V l k w0 w':=by
 have kk:Kx l.ownBlock.toList w w':=Kx.grown hg (λk hk=>by rw[B5z];exact hk);refine⟨how,kk.heap h.kbk (by rw[B5z];exact h1),a8O h.kV kk (λr hr=>by rw[B5z];exact h2 r hr),h.kx.trans kk (λb hb=>.inl hb),Aj h.kS kk.size,Aj h.kT kk.size,λb hbb=>⟨Af (h.km b hbb).1 kk.size,λj v hj=>?_⟩⟩;rw[Au (w:=w) (kk.2 b (h.km b hbb).1 (by rw[B5z];exact h3 b hbb))];exact(h.km b hbb).2 j v hj
end
structure Kept4(bk j B:Nat)(cs:Array Value)(ct lt:TypeId)(mc vs:List Value)(V l:Value)(w w':World):Prop where
 ex:∃V' v1 v2 v3,w'.heap[bk]?=some (.cells (cs.setIfInBounds j V') ct (0,0))/\w'.ownsRow B lt 1 V' (vs.length+4) (vs++[l,v1,v2,v3])/\(∀r,V'.ownBlock=some r->V.ownBlock=some r\/w.heap.size<=r)/\∀u∈[l,v1,v2,v3],LsI mc u w'/\∀r,u.ownBlock=some r->(l.ownBlock=some r\/w.heap.size<=r)/\r<w'.heap.size/\r≠bk/\V'.ownBlock≠some r
 kx:Kx (bk::V.ownBlock.toList++l.ownBlock.toList) w w'
theorem b4L{bk L B j:Nat}{cs:Array Value}{ct et lt:TypeId}{mb:Option Nat}{mc vs:List Value}{Va la:Oa}{Vc lc q g1 g2 g3 p1 p2 p3 gV pV:Nat}{w w5 w7:World}{o:Obj}
  (S:St bk L B cs ct et lt mb mc vs (.slice Va vs.length Vc) (.slice la q lc) q w w5) (hq:q<=900000)
  (h1:(Value.slice la q lc).ownBlock≠some bk) (h2:∀r,(Value.slice Va vs.length Vc).ownBlock=some r->(Value.slice la q lc).ownBlock≠some r) (hbw:bk<w.heap.size) (hlw:∀r,(Value.slice la q lc).ownBlock=some r->r<w.heap.size) (hVw:∀r,(Value.slice Va vs.length Vc).ownBlock=some r->r<w.heap.size) (hVb:(Value.slice Va vs.length Vc).ownBlock≠some bk)
  (a1:(Value.slice la q lc).ownBlock=some g1\/w.heap.size<=g1) (a2:(Value.slice la q lc).ownBlock=some g2\/w.heap.size<=g2) (a3:(Value.slice la q lc).ownBlock=some g3\/w.heap.size<=g3)
  (l1:g1<w5.heap.size) (l2:g2<w5.heap.size) (l3:g3<w5.heap.size)
  (M0:MkG mc q la w5) (M1:MkG mc (q+1) (some ⟨g1,0,none⟩) w5) (M2:MkG mc (q+2) (some ⟨g2,0,none⟩) w5) (M3:MkG mc (q+3) (some ⟨g3,0,none⟩) w5)
  (oV:w7.ownsRow B lt 1 (.slice (some ⟨gV,0,none⟩) (vs.length+4) pV) (vs.length+4) (vs++[.slice la q lc,.slice (some ⟨g1,0,none⟩) (q+1) p1,.slice (some ⟨g2,0,none⟩) (q+2) p2,.slice (some ⟨g3,0,none⟩) (q+3) p3]))
  (grV:(w5.alloc o).grownBy w7 (Value.slice Va vs.length Vc).ownBlock) (atV:(Value.slice Va vs.length Vc).ownBlock=some gV\/gV=(w5.alloc o).heap.size) :
  Kept4 bk j B cs ct lt mc vs (.slice Va vs.length Vc) (.slice la q lc) w (w7.setCell ⟨bk,j,none⟩ (.slice (some ⟨gV,0,none⟩) (vs.length+4) pV)):=by
 have hA:=bA w5 o;have z5:=S.kx.size;have zA:(w5.alloc o).heap.size=w5.heap.size+1:=by simp
 have hVm:∀r,r<w5.heap.size->(Value.slice Va vs.length Vc).ownBlock≠some r->r≠gV:=λr h3 h4 e=>by
  rcases atV with h|h
  ·exact h4 (by rw[h,e])
  ·omega
 have kV:Kx (Value.slice Va vs.length Vc).ownBlock.toList w5 w7:=((Kx.of hA).trans (Kx.grown grV (λk hk=>by rw[B5z];exact hk)) (λb hb=>.inl hb));have kS:Kx [bk] w7 (w7.setCell ⟨bk,j,none⟩ (.slice (some ⟨gV,0,none⟩) (vs.length+4) pV)):=Kx.set _ _ (by simp);have kA:Kx (bk::(Value.slice Va vs.length Vc).ownBlock.toList) w5 (w7.setCell ⟨bk,j,none⟩ (.slice (some ⟨gV,0,none⟩) (vs.length+4) pV)):=
  (kV.mono (λb hb=>.inl (List.mem_cons_of_mem _ hb))).trans kS (λb hb=>.inl (by rw[C4z]at hb;subst hb;exact List.mem_cons_self))
 have k7:w7.heap[bk]?=some (.cells cs ct (0,0)):=kV.heap S.kbk (by rw[B5z];exact hVb);have hgb:gV≠bk:=λe=>by
  rcases atV with h|h
  ·exact hVb (by rw[h,e])
  ·omega
 have good:∀(a:Oa) (n cap:Nat),n<=1000000->MkG mc n a w5->(∀r,(Value.slice a n cap).ownBlock=some r->((Value.slice la q lc).ownBlock=some r\/w.heap.size<=r)/\r<w5.heap.size)->LsI mc (.slice a n cap) (w7.setCell ⟨bk,j,none⟩ (.slice (some ⟨gV,0,none⟩) (vs.length+4) pV))/\∀r,(Value.slice a n cap).ownBlock=some r->((Value.slice la q lc).ownBlock=some r\/w.heap.size<=r)/\r<(w7.setCell ⟨bk,j,none⟩ (.slice (some ⟨gV,0,none⟩) (vs.length+4) pV)).heap.size/\r≠bk/\(Value.slice (some ⟨gV,0,none⟩) (vs.length+4) pV).ownBlock≠some r:=λa n cap hn hM hr=>by
  have hne:∀r,(Value.slice a n cap).ownBlock=some r->r≠bk/\(Value.slice Va vs.length Vc).ownBlock≠some r:=λr e=>by
   rcases(hr r e).1 with h|h
   ·exact⟨λq=>h1 (by rw[h,q]),λq=>h2 r q h⟩
   ·exact⟨by omega,λq=>by have:=hVw r q;omega⟩
  refine⟨LsI.kx ⟨a,n,cap,rfl,hn,hM⟩ kA (λr e=>?_),λr e=>⟨(hr r e).1,Af (hr r e).2 kA.size,(hne r e).1,λq=>?_⟩⟩
  ·rw[C3z,B5z];rintro(q|q)
   ·exact(hne r e).1 q
   ·exact(hne r e).2 q
  ·simp only[Value.ownBlock,Option.some.injEq]at q;exact hVm r (hr r e).2 (hne r e).2 q.symm
 have one:∀(g n cap:Nat),((Value.slice la q lc).ownBlock=some g\/w.heap.size<=g)->g<w5.heap.size->∀r,(Value.slice (some ⟨g,0,none⟩) n cap).ownBlock=some r->((Value.slice la q lc).ownBlock=some r\/w.heap.size<=r)/\r<w5.heap.size:=λg n cap h3 h4 r e=>by
  simp only[Value.ownBlock,Option.some.injEq]at e;subst e;exact⟨h3,h4⟩
 refine⟨⟨.slice (some ⟨gV,0,none⟩) (vs.length+4) pV,_,_,_,heap_setCell_same w7 bk j _ _ _ k7,Bv oV (by simp[Value.ownBlock,hgb]) j _,λr e=>?_,λu hu=>?_⟩,?_⟩
 ·simp only[Value.ownBlock,Option.some.injEq]at e;subst e;rcases atV with h|h
  ·exact .inl h
  ·right;omega
 ·simp only[C3z,List.not_mem_nil,or_false]at hu;rcases hu with rfl|rfl|rfl|rfl
  ·exact good _ _ _ (by omega) M0 (λr e=>⟨.inl e,Af (hlw r e) z5⟩)
  ·exact good _ _ _ (by omega) M1 (one _ _ _ a1 l1)
  ·exact good _ _ _ (by omega) M2 (one _ _ _ a2 l2)
  ·exact good _ _ _ (by omega) M3 (one _ _ _ a3 l3)
 ·refine(S.kx.mono (λb hb=>.inl ?_)).trans kA (λb hb=>.inl ?_)
  ·rw[B3z];exact List.mem_cons_of_mem _ (List.mem_append_right _ hb)
  ·exact List.mem_append_left _ hb
def mkS(n:Nat):By:=⟨([109,97,114,107,32]++Hi 10 n).toArray⟩
theorem b9E(n:Nat):(⟨#[109,97,114,107,32]⟩:By)++⟨(Hi 10 n).toArray⟩=mkS n:=by
 unfold mkS;apply ByteArray.ext;rw[C8z];simp
theorem c5J{a b:By}(h:a=b):Ending.returned (.string a)=.returned (.string b):=by rw[h]
theorem Pa(n:Nat)(hn:n<=9223372036854775807)(w:World):
  Calls prog 66 #[.int .i64 n] w λe w'=>e=.returned (.string (mkS n))/\Bw w w':=by
 have HN:=hid (λW=>Ku 10 (by omega) (by omega) n W hn);have hl:=Nl (b:=10) (u:=n) (by omega) (by omega);have hsz:(ByteArray.mk (Hi 10 n).toArray).size=(Hi 10 n).length:=by show(Hi 10 n).toArray.size=_;simp
 have hx:¬(9223372036854775807<5+(Hi 10 n).length):=by omega
 have HM:=hid (b9E n);generalize (ByteArray.mk (Hi 10 n).toArray)=nb at *
 have hx2:¬(9223372036854775807<5+nb.size):=by rw[hsz];exact hx
 clear hsz hx hl hn;go_enter func66,ntmps66;go_wp2_with (go_at_call 126;refine(HN.out _).mono ?_;rintro e w1 ⟨rfl,hb1⟩);go_ret;exact⟨c5J HM.out,hb1⟩
end Go.Proofs.YtbiggccolpchcaaGreatDoor.Bn
