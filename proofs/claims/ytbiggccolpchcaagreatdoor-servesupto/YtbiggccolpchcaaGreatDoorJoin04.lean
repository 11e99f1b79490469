/- Joined. -/
import Derived.Test.YtbiggccolpchcaaGreatDoorWalkK
set_option maxRecDepth 100000
set_option maxHeartbeats 2000000
namespace Go.Proofs.YtbiggccolpchcaaGreatDoor
open Go.RowKit _root_.Go.Proofs.Tryz
def Cy(b:Nat)(hd bd:Int)(s:By)(k:Nat)(w:World):Prop:=
 w.heap[b]?=some (.cells #[.int .i64 hd,.int .i64 bd,.string s,.int .i64 k] 271 (0,0))
def Kp(b:Nat)(w w':World):Prop:=
 w'.os=w.os/\w'.tape=w.tape/\w'.output=w.output/\w.heap.size<=w'.heap.size/\∀k,k<w.heap.size->k≠b->w'.heap[k]?=w.heap[k]?
theorem Kp.refl(b:Nat)(w:World):Kp b w w:=⟨rfl,rfl,rfl,Ac _,λ_ _ _=>rfl⟩
theorem Kp.trans{b:Nat}{w w1 w2:World}(h:Kp b w w1)(k:Kp b w1 w2):Kp b w w2:=
 ⟨k.1.trans h.1,k.2.1.trans h.2.1,k.2.2.1.trans h.2.2.1,Aj h.2.2.2.1 k.2.2.2.1,λj hj hb=>(k.2.2.2.2 j (Af hj h.2.2.2.1) hb).trans (h.2.2.2.2 j hj hb)⟩
theorem Kp.of{b:Nat}{w w':World}(h:Bw w w'):Kp b w w':=⟨h.os,h.tape,h.output,h.size,λk hk _=>h.block k hk⟩
theorem Kp.set(b o:Nat)(v:Value)(w:World):Kp b w (w.setCell ⟨b,o,none⟩ v):=
 ⟨by simp[World.setCell],by simp[World.setCell],by simp[World.setCell],by simp,λk _ hk=>Aw w ⟨b,o,none⟩ v k hk⟩
theorem Cy.cell{b:Nat}{hd bd:Int}{s:By}{k:Nat}{w:World}(h:Cy b hd bd s k w):
  w.cell? ⟨b,0,none⟩=some (.int .i64 hd)/\w.cell? ⟨b,1,none⟩=some (.int .i64 bd)/\w.cell? ⟨b,2,none⟩=some (.string s)/\w.cell? ⟨b,3,none⟩=some (.int .i64 k):=by
 refine⟨?_,?_,?_,?_⟩<;>(rw[Ab h];rfl)
theorem Cy.free{b:Nat}{hd bd:Int}{s:By}{k:Nat}{w:World}(h:Cy b hd bd s k w)(j:Nat):w.frozen? ⟨b,j,none⟩=false:=Ai h j
theorem Cy.lt{b:Nat}{hd bd:Int}{s:By}{k:Nat}{w:World}(h:Cy b hd bd s k w):b<w.heap.size:=by
 unfold Cy at h;rcases B8z b w.heap.size with h'|h'
 ·exact h'
 ·simp[Array.getElem?_eq_none h']at h
theorem Cy.below{b:Nat}{hd bd:Int}{s:By}{k:Nat}{w w':World}(h:Cy b hd bd s k w)(hb:Bw w w'):Cy b hd bd s k w':=by
 have:=hb.block b h.lt;unfold Cy at *;rw[this];exact h
theorem Cy.move{b:Nat}{hd bd:Int}{s:By}{k:Nat}{w:World}(h:Cy b hd bd s k w)(m:Nat):Cy b hd bd s m (w.setCell ⟨b,3,none⟩ (.int .i64 m)):=by
 unfold Cy at *
 rw[heap_setCell_same w b 3 _ _ _ h];rfl
theorem Sf(b:Nat)(hd bd:Int)(s:By)(k e:Nat)(long:Int)(w:World)(hr:Cy b hd bd s k w)(hs:s.size<=maxLen)(hk:k<=s.size)(he:k<=e)(he2:e<=4611686018427387904):
  Calls prog 294 #[.pointer (some ⟨b,0,none⟩),.int .i64 e,.int .i64 long] w λr w'=>
   r=.returned (.tuple #[.string ⟨(Pm.a2g (s.data.toList.drop k) (e-k) long).2.1.toArray⟩,.int .i64 (Pm.a2g (s.data.toList.drop k) (e-k) long).1]) /\
   Cy b hd bd s (k+(Pm.a2g (s.data.toList.drop k) (e-k) long).2.2) w'/\Kp b w w':=by
 obtain⟨c0,c1,c2,c3⟩:=hr.cell;have cf:=hr.free 3;have hsz:=hs;unfold maxLen at hsz;have HR:Hid (Cy b hd bd s k w):=hr;clear hr;go_enter func294,ntmps294;go_wp2
 go_quiet (fail)
 have HN:Hid ((s.extract k (min (e:Int) (s.size:Int)).toNat).data.toList=(s.data.toList.drop k).take (e-k)):=by
  unfold Hid;rw[show(min (e:Int) (s.size:Int)).toNat=min e s.size from by omega];exact Pm.a2w s k e hk
 generalize s.extract k (min (e:Int) (s.size:Int)).toNat=nr at *
 have hnl:nr.size<=s.size-k:=by
  have h1:=Dn HN.out;rw[h1,B0z,A6z];simp;omega
 have hl:(s.data.toList.drop k).length=s.size-k:=by simp
 have HL:Hid ((s.data.toList.drop k).length=s.size-k):=hl;clear hl;rcases Pm.a0r 10 nr.data.toList with h|⟨r,h⟩
 ·have hx:=(Pm.a1s h).1;have HS:Hid (Pm.a2g (s.data.toList.drop k) (e-k) long=(if(s.data.toList.drop k).length<e-k then 2 else long,[],0)):=Pm.a2j (by rw[<-HN.out];exact h);clear h;by_cases hm:(s.size:Int)<e
  focus
   rw[if_pos (by rw[HL.out];omega)]at HS
  rotate_left
  focus
   rw[if_neg (by rw[HL.out];omega)]at HS
  all_goals
   go_wp2_with (go_at_call 237;refine(Tryz.strings_IndexByte _ _ _).mono ?_;rintro e w1 ⟨rfl,rfl⟩)
   go_ret2
   exact⟨Cn (by rw[HS.out]) (by rw[HS.out]),by rw[HS.out];exact HR.out.below (below_drewN (Ad _ _) _),Kp.of (below_drewN (Ad _ _) _)⟩
 ·have hx:=Pm.a1u h;have hlt:(Pm.ahead 10 nr.data.toList).length<nr.size:=by
   have h3:=congrArg List.length (Pm.a0c 10 nr.data.toList);rw[A0z,h,A9z]at h3;simp at h3;omega
  have HE:Hid ((nr.extract 0 (Pm.ahead 10 nr.data.toList).length).data.toList=Pm.ahead 10 nr.data.toList):=by
   unfold Hid;rw[Lib.extract_data,D6z,Nat.sub_zero];exact Pm.a4o 10 _
  have hb2:Pm.behind 10 ((s.data.toList.drop k).take (e-k))=10::r:=by rw[<-HN.out];exact h
  cases hq:Lib.hasSuffix (Pm.ahead 10 nr.data.toList) [13]
  ·have HS:Hid (Pm.a2g (s.data.toList.drop k) (e-k) long=(3,[],0)):=Pm.a2i hb2 (by rw[<-HN.out];exact hq);clear h hb2;have HQ:Hid (Lib.hasSuffix (Pm.ahead 10 nr.data.toList) [13]=false):=hq;clear hq;generalize Pm.ahead 10 nr.data.toList=A at *
   generalize hn:A.length=n at *
   clear hn;go_wp2_with (go_at_call 237;refine(Tryz.strings_IndexByte _ _ _).mono ?_;rintro e w1 ⟨rfl,rfl⟩);refine(Tryz.strings_CutSuffix _ _ _ (by simp;omega)).mono ?_;rintro e w2 ⟨rfl,rfl⟩;rw[HE.out,show(⟨#[13]⟩:By).data.toList=[13]from rfl,HQ.out];go_wp2
   go_ret2
   exact⟨Cn (by rw[HS.out]) (by rw[HS.out]),by rw[HS.out];exact HR.out.below (below_drewN (Ad _ _) _),Kp.of (below_drewN (Ad _ _) _)⟩
  ·have HS:Hid (Pm.a2g (s.data.toList.drop k) (e-k) long=(0,Lib.trimSuffix (Pm.ahead 10 nr.data.toList) [13],(Pm.ahead 10 nr.data.toList).length+1)):=by
    have:=Pm.a2h (long:=long) hb2 (by rw[<-HN.out];exact hq);rw[<-HN.out]at this;exact this
   clear h hb2;have HQ:Hid (Lib.hasSuffix (Pm.ahead 10 nr.data.toList) [13]=true):=hq;clear hq;generalize Pm.ahead 10 nr.data.toList=A at *
   generalize hn:A.length=n at *
   clear hn;go_wp2_with (go_at_call 237;refine(Tryz.strings_IndexByte _ _ _).mono ?_;rintro e w1 ⟨rfl,rfl⟩);refine(Tryz.strings_CutSuffix _ _ _ (by simp;omega)).mono ?_;rintro e w2 ⟨rfl,rfl⟩;rw[HE.out,show(⟨#[13]⟩:By).data.toList=[13]from rfl,HQ.out];go_wp2
   go_ret2
   refine⟨Cn (by rw[HS.out]) (by rw[HS.out]),?_,(Kp.of (below_drewN (Ad _ _) _)).trans (Kp.set b 3 _ _)⟩;rw[HS.out];have:=(HR.out.below (below_drewN (Ad _ _) nq)).move (k+(n+1));rw[show((k+(n+1):Nat):Int)=(k:Int)+((n:Int)+1)from by omega]at this;exact this
theorem Hm{k:IntKind}{a b c d:By}{x y:Int}(h:a=b)(h':c=d)(hx:x=y):Ending.returned (.tuple #[.string a,.string c,.int k x])=.returned (.tuple #[.string b,.string d,.int k y]):=by rw[h,h',hx]
theorem Uu(s:By)(m:Int)(w:World)(hs:s.size<4294967281)(hm:w.cell? ⟨0,0,none⟩=some (.int .i64 m)):
  Calls prog 295 #[.string s] w λe w'=>e=.returned (.tuple #[.string ⟨(Pm.a1f s.data.toList).2.1.toArray⟩,.string ⟨(Pm.a1f s.data.toList).2.2.toArray⟩,.int .i64 (Pm.a1f s.data.toList).1])/\Bw w w':=by
 have hl:=Pm.a4d s;have hle:∀x,x∈Pm.a4a s->x.size<=s.size:=λx h=>Pm.a4c h;by_cases h3:(Pm.a4a s).length=3
 ·obtain⟨a,b,c,hp⟩:∃a b c,Pm.a4a s=[a,b,c]:=by
   match hq:Pm.a4a s,h3 with
   |[a,b,c],_=>exact⟨a,b,c,rfl⟩
  have HF:Hid _:=Pm.a1i hp;have ha:=hle a (by rw[hp];simp);have hb:=hle b (by rw[hp];simp);have hc:=hle c (by rw[hp];simp);have hcnt:Lib.countB s ⟨#[32]⟩=2:=by omega
  clear hle h3 hl;go_enter func295,ntmps295;go_wp2_with fail;refine(Tryz.strings_Split _ _ m _ hs hm (by decide)).mono ?_;rintro e w1 ⟨rfl,hw1⟩;rw[hcnt,show Lib.splitB ⟨#[32]⟩ 0 2 s=[a,b,c]from by rw[<-hcnt];exact hp]at hw1;rw[hcnt];subst hw1;clear hp hcnt;have hma:a.size<=maxLen:=by unfold maxLen;omega
  have hmb:b.size<=140737488355328:=by omega
  have hka:a.size<=281474976710656:=by omega
  have hkb:b.size<=281474976710656:=by omega
  clear ha hb hc
  cases h1:Pm.a1x a.data.toList
  ·rw[h1,C9z,if_neg (by decide)]at HF;go_wp2_with (go_at_call 151;refine(Ct _ _ hma).mono ?_;rintro e w2 ⟨rfl,rfl⟩)
   go_ret3
   exact⟨Hm (by rw[HF.out]) (by rw[HF.out]) (by rw[HF.out]),bA _ _⟩
  ·rw[h1,D4z]at HF
   cases h2:Pm.a2a b.data.toList
   ·rw[h2,C9z,if_neg (by decide)]at HF;go_wp2_with (first|(go_at_call 151;refine(Ct _ _ hma).mono ?_;rintro e w2 ⟨rfl,rfl⟩)|(go_at_call 201;refine(Eo _ _ hmb).mono ?_;rintro e w3 ⟨rfl,hb3⟩))
    go_ret3
    exact⟨Hm (by rw[HF.out]) (by rw[HF.out]) (by rw[HF.out]),Bc (bA _ _) hb3⟩
   ·rw[h2,D4z]at HF
    cases h4:Pm.a2e c.data.toList
    ·rw[h4,if_neg (by decide)]at HF;go_wp2_with (first|(go_at_call 151;refine(Ct _ _ hma).mono ?_;rintro e w2 ⟨rfl,rfl⟩)|(go_at_call 201;refine(Eo _ _ hmb).mono ?_;rintro e w3 ⟨rfl,hb3⟩;obtain⟨hc3,hf3⟩:=Ni hb3;have p0:=Aa hb3 (a:=⟨w.heap.size,0,none⟩) (v:=.string a) (by simp);have p1:=Aa hb3 (a:=⟨w.heap.size,1,none⟩) (v:=.string b) (by simp);have hz3:w.heap.size<w3.heap.size:=by(have:=hb3.size;(try simp at this);omega))|(go_at_call 336;refine(Ht _ _).mono ?_;rintro e w4 ⟨rfl,rfl⟩))
     go_ret3
     exact⟨Hm (by rw[HF.out]) (by rw[HF.out]) (by rw[HF.out]),Bc (bA _ _) hb3⟩
    ·rw[h4,if_pos rfl]at HF;by_cases h5:c.data.toList=Pm.a1q
     ·rw[if_pos h5]at HF;have h6:(c.toList==[72,84,84,80,47,49,46,49])=true:=by rw[A1z,h5];rfl
      clear h5;go_wp2_with (first|(go_at_call 151;refine(Ct _ _ hma).mono ?_;rintro e w2 ⟨rfl,rfl⟩)|(go_at_call 201;refine(Eo _ _ hmb).mono ?_;rintro e w3 ⟨rfl,hb3⟩;obtain⟨hc3,hf3⟩:=Ni hb3;have p0:=Aa hb3 (a:=⟨w.heap.size,0,none⟩) (v:=.string a) (by simp);have p1:=Aa hb3 (a:=⟨w.heap.size,1,none⟩) (v:=.string b) (by simp);have hz3:w.heap.size<w3.heap.size:=by(have:=hb3.size;(try simp at this);omega))|(go_at_call 336;refine(Ht _ _).mono ?_;rintro e w4 ⟨rfl,rfl⟩))
      go_region_with (first|(go_at_call_of 154 (Value.string a);refine(Db _ _ hka).mono ?_;rintro e w5 ⟨rfl,hb5⟩;have r1:=Aa hb5 p1)|(go_at_call_of 154 (Value.string b);refine(Db _ _ hkb).mono ?_;rintro e w6 ⟨rfl,hb6⟩))
      all_goals
       go_wp2
       go_ret3
       exact⟨Hm (by rw[HF.out]) (by rw[HF.out]) (by rw[HF.out]),Bc (Bc (Bc (bA _ _) hb3).drew hb5) hb6⟩
     ·rw[if_neg h5]at HF;have h6:(c.toList==[72,84,84,80,47,49,46,49])=false:=by
       rw[A1z,Ar];exact h5
      clear h5;go_wp2_with (first|(go_at_call 151;refine(Ct _ _ hma).mono ?_;rintro e w2 ⟨rfl,rfl⟩)|(go_at_call 201;refine(Eo _ _ hmb).mono ?_;rintro e w3 ⟨rfl,hb3⟩;obtain⟨hc3,hf3⟩:=Ni hb3;have p0:=Aa hb3 (a:=⟨w.heap.size,0,none⟩) (v:=.string a) (by simp);have p1:=Aa hb3 (a:=⟨w.heap.size,1,none⟩) (v:=.string b) (by simp);have hz3:w.heap.size<w3.heap.size:=by(have:=hb3.size;(try simp at this);omega))|(go_at_call 336;refine(Ht _ _).mono ?_;rintro e w4 ⟨rfl,rfl⟩))
      go_ret3
      exact⟨Hm (by rw[HF.out]) (by rw[HF.out]) (by rw[HF.out]),Bc (bA _ _) hb3⟩
 ·have HF:Hid _:=Pm.a1h h3;have hne:((Lib.countB s ⟨#[32]⟩:Int)+1 != 3)=true:=by rw[bne_iff_ne];omega
  clear hle h3 hl;go_enter func295,ntmps295;go_wp2_with (go_at_call 220;refine(Tryz.strings_Split _ _ m _ hs hm (by decide)).mono ?_;rintro e w1 ⟨rfl,rfl⟩)
  go_ret3
  exact⟨Hm (by rw[HF.out]) (by rw[HF.out]) (by rw[HF.out]),bA _ _⟩
def Df(fs:List (By×By))(a:Oa)(w:World):Prop:=
 ∀i (h:i<fs.length),∃g,a=some ⟨g,0,none⟩/\g<w.heap.size/\w.cell? ⟨g,i*2,none⟩=some (.string fs[i].1)/\w.cell? ⟨g,i*2+1,none⟩=some (.string fs[i].2)
def Dg(l:List By)(a:Oa)(w:World):Prop:=
 ∀i (h:i<l.length),∃g,a=some ⟨g,0,none⟩/\g<w.heap.size/\w.cell? ⟨g,i,none⟩=some (.string l[i])
theorem Df.below{fs:List (By×By)}{a:Oa}{w w':World}(h:Df fs a w)(hb:Bw w w'):Df fs a w':=λi hi=>by
 obtain⟨g,h1,h2,h3,h4⟩:=h i hi;exact⟨g,h1,Af h2 hb.size,Aa hb h3,Aa hb h4⟩
theorem Dg.below{l:List By}{a:Oa}{w w':World}(h:Dg l a w)(hb:Bw w w'):Dg l a w':=λi hi=>by
 obtain⟨g,h1,h2,h3⟩:=h i hi;exact⟨g,h1,Af h2 hb.size,Aa hb h3⟩
def Bf(fs:List (By×By))(name:L8):List By:=(fs.filter λf=>Pm.a0d f.1.data.toList name).map (·.2)
theorem Co(fs:List (By×By))(name:L8):(Bf fs name).length<=fs.length:=by
 unfold Bf;rw[A8z];exact List.length_filter_le _ _
theorem Hv{fs:List (By×By)}{name:L8}{k:Nat}(h:k<fs.length)(ha:Pm.a0d fs[k].1.data.toList name=true):Bf (fs.take (k+1)) name=Bf (fs.take k) name++[fs[k].2]:=by
 unfold Bf;rw[A4z h,List.filter_append,B2z];simp[ha]
theorem Jd{fs:List (By×By)}{name:L8}{k:Nat}(h:k<fs.length)(ha:Pm.a0d fs[k].1.data.toList name=false):Bf (fs.take (k+1)) name=Bf (fs.take k) name:=by
 unfold Bf;rw[A4z h,List.filter_append,B2z];simp[ha]
theorem Dg.of_owns{w:World}{B:Nat}{e:TypeId}{v:Value}{n:Nat}{l:List By}(h:w.ownsRow B e 1 v n (l.map Value.string)):∃a cap,v=.slice a l.length cap/\Dg l a w:=by
 obtain⟨h1,h2⟩:=h;simp at h1;rcases h2 with⟨rfl,hn⟩|⟨g,cap,cur,rfl,_,hg,_,_,_,hc⟩
 ·have hl:l=[]:=Ay (by omega);subst hl;exact⟨none,0,rfl,λi hi=>absurd hi (by simp)⟩
 ·refine⟨some ⟨g,0,none⟩,cap,by rw[h1],λi hi=>⟨g,rfl,?_,?_⟩⟩
  ·rcases B8z g w.heap.size with h'|h'
   ·exact h'
   ·simp[Array.getElem?_eq_none h']at hg
  ·rw[Ab hg];have h3:(cur.toList.take (n*1))[i]?=some (.string l[i]):=by rw[hc];simp[hi]
   rw[D0z]at h3
   split at h3
   ·simpa using h3
   ·cases h3
theorem Bx{w:World}{B:Nat}{e:TypeId}{sz:Nat}{v:Value}{n:Nat}{xs:List Value}(h:w.ownsRow B e sz v n xs):∀k,v.ownBlock=some k->B<=k:=by
 intro k hk;rcases h.2 with⟨rfl,_⟩|⟨g,cap,cur,rfl,hB,_⟩
 ·cases hk
 ·simp[Value.ownBlock]at hk;omega
theorem Be{w w':World}{B:Nat}{e:TypeId}{sz:Nat}{v:Value}{n:Nat}{xs:List Value}(h:w.ownsRow B e sz v n xs)(hb:Bw w w'):w'.ownsRow B e sz v n xs:=by
 obtain⟨h1,h2⟩:=h;refine⟨h1,?_⟩;rcases h2 with h2|⟨g,cap,cur,hv,hB,hg,h3⟩
 ·exact .inl h2
 ·refine .inr ⟨g,cap,cur,hv,hB,?_,h3⟩;have hlt:g<w.heap.size:=by
   rcases B8z g w.heap.size with h'|h'
   ·exact h'
   ·simp[Array.getElem?_eq_none h']at hg
  rw[hb.block g hlt];exact hg
theorem Tryz.info9:(prog.info? 9).map (λi=>(i.zero,i.size,i.bytes))=some (some (.string ⟨#[]⟩),1,16):=by kernel_rfl
theorem Hw(fs:List (By×By))(a:Oa)(cap:Nat)(name:By)(w:World)(hf:Df fs a w)(hl:fs.length<=1000000)(hsz:∀i (h:i<fs.length),fs[i].1.size<=maxLen):
  Calls prog 260 #[.slice a fs.length cap,.string name] w λe w'=>(∃a' c',e=.returned (.slice a' (Bf fs name.data.toList).length c')/\Dg (Bf fs name.data.toList) a' w')/\Bw w w':=by
 obtain⟨i0,hi,hz0,hz1,hz2⟩:=info_parts Tryz.info9;have HF:Hid (Df fs a w):=hf;have HZ:Hid (∀i (h:i<fs.length),fs[i].1.size<=maxLen):=hsz;clear hf hsz;go_enter func260,ntmps260;go_wp2
 go_loopw [5,7,10] (λv _ i wr=>∃k:Nat,k<=fs.length/\i=.int .i64 k/\wr.ownsRow w.heap.size 9 1 v (Bf (fs.take k) name.data.toList).length ((Bf (fs.take k) name.data.toList).map Value.string)/\Bw w wr) (λ_ _ i _=>fs.length-(intOf i).toNat)
 case atStart=>exact⟨0,Ah _,rfl,Am _ _ _ _,Ad _ _⟩
 case round=>
  obtain⟨k,hk,rfl,hown,hbw⟩:=hrel;by_cases hlt:k<fs.length
  ·obtain⟨g,rfl,hg,hc1,hc2⟩:=(HF.out.below hbw) k hlt;have hsk:=HZ.out k hlt;have HV:Hid ((Pm.a0d fs[k].1.data.toList name.data.toList=true->Bf (fs.take (k+1)) name.data.toList=Bf (fs.take k) name.data.toList++[fs[k].2])/\(Pm.a0d fs[k].1.data.toList name.data.toList=false->Bf (fs.take (k+1)) name.data.toList=Bf (fs.take k) name.data.toList)):=⟨Hv hlt,Jd hlt⟩;have hvl:=Co (fs.take k) name.data.toList;rw[B0z]at hvl;obtain⟨f,hfk⟩:∃f,f=fs[k]:=⟨_,rfl⟩;rw[<-hfk]at hc1 hc2 hsk HV;clear hfk;obtain⟨nm,vl⟩:=f;simp only at hc1 hc2 hsk HV
   cases hal:Pm.a0d nm.data.toList name.data.toList
   ·have HE:=(show Hid _ from HV.out.2 hal);go_wp2_with (go_at_call 246;refine(Ek _ _ _ hsk).mono ?_;rintro e w1 ⟨rfl,hb1⟩);have hb2:=Bc ((Ad _ wr).alloc (Ac _) _) hb1;exact⟨⟨k+1,by omega,by go_num,by rw[HE.out];exact Be hown hb2,hbw.trans (hb2.mono hbw.size)⟩,by simp[intOf];omega⟩
   ·have HE:=(show Hid _ from HV.out.1 hal);go_wp2_with fail;refine(Ek _ _ _ hsk).mono ?_;rintro e w1 ⟨rfl,hb1⟩;rw[hal];have hb2:=Bc ((Ad _ wr).alloc (Ac _) _) hb1;have hown2:=Be hown hb2;have q1:=Aa hb1 (a:=⟨wr.heap.size,1,none⟩) (v:=.string vl) (by simp);have hsz1:w.heap.size<=w1.heap.size:=Aj hbw.size hb2.size;clear hb1 hown hal hc1 hc2 hsk;go_wp2_with (at_builtin;refine wpList_append_own _ rfl _ _ 99 rfl w.heap.size 9 i0 (.string ⟨#[]⟩) 1 16 underlying99 hi hz0 hz1 hz2 rfl (by decide) _ _ _ rfl (hown2.alloc _) ⟨w1.heap.size,0,none⟩ 1 1 [.string vl] rfl rfl ?c1 ?c2 ?c3 ?c4 ?c5 ?_)
    case c1=>
     intro j u hj
     match j,hj with
     |0,hj=>simp at hj;subst hj;simp[Addr.add]
    case c2=>intro u hu;simp at hu;subst hu;rfl
    case c3=>unfold maxLen;omega
    case c4=>omega
    case c5=>simp;omega
    intro v' w2 hown' hgrow _;have hb3:Bw w w2:=((hbw.trans (hb2.mono hbw.size)).alloc hsz1 _).grown hgrow (by simp;omega) (Bx hown2);clear hgrow;go_wp2;refine⟨⟨k+1,by omega,by go_num,?_,hb3⟩,by simp[intOf];omega⟩;rw[HE.out,A0z,B2z];exact hown'
  ·have HT:Hid (fs.take k=fs):=Aq (by omega);rw[HT.out]at hown;obtain⟨a',c',rfl,hst⟩:=Dg.of_owns hown;go_wp2;go_ret;exact⟨⟨a',c',rfl,hst⟩,hbw⟩
theorem Dt{a b c d:Int}(h:a=b)(h':c=d):Ending.returned (.tuple #[.int .i64 a,.int .i64 c])=.returned (.tuple #[.int .i64 b,.int .i64 d]):=by rw[h,h']
def Bu(l:List By):List (List UInt8):=l.map (·.data.toList)
theorem Uv(l:List By)(a:Oa)(cap:Nat)(w:World)(hf:Dg l a w)(hl:l.length<=1000000)(hsz:∀i (h:i<l.length),l[i].size<=maxLen):
  Calls prog 297 #[.slice a l.length cap] w λe w'=>e=.returned (.tuple #[.int .i64 (Pm.a3t (Bu l)),.int .i64 (Pm.a3s (Bu l))])/\w'=w:=by
 have HF:Hid (Dg l a w):=hf;have HZ:Hid (∀i (h:i<l.length),l[i].size<=maxLen):=hsz;have hdl:(Bu l).length=l.length:=by simp[Bu]
 have HD:Hid ((Bu l).length=l.length):=hdl;clear hf hsz hdl;go_enter func297,ntmps297;go_wp2
 go_loop [4,5,6,7,8,11] (λo _ _ _ _ i=>∃k:Nat,k<=l.length/\i=.int .i64 k/\o=.int .i64 (Pm.a3y ((Bu l).take k))/\Hid (Pm.a3u ((Bu l).take k)=true)) (λ_ _ _ _ _ i=>l.length-(intOf i).toNat)
 case atStart=>exact⟨0,Ah _,rfl,rfl,rfl⟩
 case round=>
  obtain⟨k,hk,rfl,rfl,H⟩:=hrel;by_cases hlt:k<l.length
  ·obtain⟨g,rfl,_,hc1⟩:=HF.out k hlt;have hsk:=HZ.out k hlt;have hkd:k<(Bu l).length:=by rw[HD.out];exact hlt
   have hdk:(Bu l)[k]=l[k].data.toList:=by simp[Bu]
   have HB1:=λhn=>Pm.a3v hkd (by rw[hdk];exact hn);have HB2:=λhp hn=>Pm.a3w hkd hp (by rw[hdk];exact hn);have HST:=λhn he=>Pm.a3x hkd H.out (by rw[hdk];exact hn) (by rw[hdk];exact he);rw[hdk]at HST;have HALL:Hid ((Pm.a3i 10 9 l[k].data.toList=false->Pm.a3u (Bu l)=false)/\(0<k->Pm.a3o 10 l[k].data.toList≠Pm.a3y ((Bu l).take k)->Pm.a3u (Bu l)=false)/\(Pm.a3i 10 9 l[k].data.toList=true->(k=0\/Pm.a3o 10 l[k].data.toList=Pm.a3y ((Bu l).take k))->Pm.a3u ((Bu l).take (k+1))=true/\Pm.a3y ((Bu l).take (k+1))=Pm.a3o 10 l[k].data.toList)):=⟨HB1,HB2,HST⟩;clear HB1 HB2 HST hdk hkd;obtain⟨x,hx⟩:∃x,x=l[k]:=⟨_,rfl⟩;rw[<-hx]at hc1 hsk HALL;clear hx;generalize Pm.a3y ((Bu l).take k)=o at *
   cases hn:Pm.a3i 10 9 x.data.toList
   ·have HF2:=(show Hid _ from HALL.out.1 hn);have hv:Pm.a3e 10 9 x.data.toList=1:=by unfold Pm.a3e;rw[hn];rfl
    clear hn;go_wp2_with (go_at_call 129;refine(Hg _ _ hsk).mono ?_;rintro e w1 ⟨rfl,rfl⟩)
    go_ret2
    exact⟨Dt (by unfold Pm.a3t;rw[HF2.out];rfl) (by unfold Pm.a3s;rw[HF2.out];rfl),rfl⟩
   ·have hv:Pm.a3e 10 9 x.data.toList=0:=by unfold Pm.a3e;rw[hn];rfl
    have hv2:Pm.a3h 10 9 x.data.toList=Pm.a3o 10 x.data.toList:=by unfold Pm.a3h;rw[hn];rfl
    have HN:Hid (Pm.a3i 10 9 x.data.toList=true):=hn;clear hn;generalize Pm.a3o 10 x.data.toList=nv at *
    by_cases hk0:k=0
    ·subst hk0;obtain⟨s1,s2⟩:=HALL.out.2.2 HN.out (.inl rfl);have S1:=(show Hid _ from s1);have S2:=(show Hid _ from s2);clear s1 s2;go_wp2_with (go_at_call 129;refine(Hg _ _ hsk).mono ?_;rintro e w1 ⟨rfl,rfl⟩)
     go_round
     case rel=>exact⟨1,by omega,rfl,by rw[S2.out],S1⟩
     case measure=>simp[intOf];omega
    ·have hkp:(0:Int)<(k:Int):=by omega
     by_cases he:nv=o
     ·have he2:(nv != o)=false:=by rw[he];simp
      obtain⟨s1,s2⟩:=HALL.out.2.2 HN.out (.inr he);have S1:=(show Hid _ from s1);have S2:=(show Hid _ from s2);clear s1 s2 he;go_wp2_with (go_at_call 129;refine(Hg _ _ hsk).mono ?_;rintro e w1 ⟨rfl,rfl⟩)
      go_round
      case rel=>exact⟨k+1,by omega,by go_num,by rw[S2.out],S1⟩
      case measure=>simp[intOf];omega
     ·have he2:(nv != o)=true:=by rw[bne_iff_ne];exact he
      have HF2:=(show Hid _ from HALL.out.2.1 (by omega) he);clear he;go_wp2_with (go_at_call 129;refine(Hg _ _ hsk).mono ?_;rintro e w1 ⟨rfl,rfl⟩)
      go_ret2
      exact⟨Dt (by unfold Pm.a3t;rw[HF2.out];rfl) (by unfold Pm.a3s;rw[HF2.out];rfl),rfl⟩
  ·have HT:Hid ((Bu l).take k=Bu l):=Aq (by rw[HD.out];omega);rw[HT.out]at H;go_wp2
   go_ret2
   exact⟨Dt (by unfold Pm.a3t;rw[H.out,HT.out];rfl) (by unfold Pm.a3s;rw[H.out];rfl),rfl⟩
def Kl:L8:=[72,111,115,116]
def Dp:L8:=[67,111,110,116,101,110,116,45,76,101,110,103,116,104]
def Du:L8:=[84,114,97,110,115,102,101,114,45,69,110,99,111,100,105,110,103]
def Je:L8:=[99,104,117,110,107,101,100]
def Jf(hosts:Nat)(lens cods:List (List UInt8))(most:Int):Int×Bool×Int:=
 if hosts≠1 then(3,false,0)
 else if 0<cods.length/\0<lens.length then(3,false,0)
 else if Pm.a3s lens≠0 then(3,false,0)
 else if 1<cods.length\/(cods.length=1/\Pm.a0d (cods.headD []) Je=false)then(6,false,0)
 else if most<Pm.a3t lens then(4,false,0)
 else(0,decide (cods.length=1),Pm.a3t lens)
def Cr(fs:List (By×By))(most:Int):Int×Bool×Int:=
 Jf (Bf fs Kl).length (Bu (Bf fs Dp)) (Bu (Bf fs Du)) most
theorem Lu{fs:List (By×By)}{name:L8}(h:∀f∈fs,f.2.size<=maxLen):∀i (hi:i<(Bf fs name).length),(Bf fs name)[i].size<=maxLen:=by
 intro i hi;have h1:=As hi;unfold Bf at h1;rw[E5z]at h1;obtain⟨f,hf,he⟩:=h1;have h2:=h f (List.mem_filter.1 hf).1;unfold Bf;rw[<-he];exact h2
theorem Xf(fs:List (By×By))(a:Oa)(cap:Nat)(w:World)(hf:Df fs a w)(hl:fs.length<=1000000)(hsz:∀i (h:i<fs.length),fs[i].1.size<=maxLen):
  Calls prog 260 #[.slice a fs.length cap,.string ⟨#[72,111,115,116]⟩] w λe w'=>(∃a' c',e=.returned (.slice a' (Bf fs Kl).length c')/\Dg (Bf fs Kl) a' w')/\Bw w w':=Hw fs a cap ⟨#[72,111,115,116]⟩ w hf hl hsz
theorem Sg(fs:List (By×By))(a:Oa)(cap:Nat)(w:World)(hf:Df fs a w)(hl:fs.length<=1000000)(hsz:∀i (h:i<fs.length),fs[i].1.size<=maxLen):
  Calls prog 260 #[.slice a fs.length cap,.string ⟨#[67,111,110,116,101,110,116,45,76,101,110,103,116,104]⟩] w λe w'=>(∃a' c',e=.returned (.slice a' (Bf fs Dp).length c')/\Dg (Bf fs Dp) a' w')/\Bw w w':=Hw fs a cap ⟨#[67,111,110,116,101,110,116,45,76,101,110,103,116,104]⟩ w hf hl hsz
theorem Sh(fs:List (By×By))(a:Oa)(cap:Nat)(w:World)(hf:Df fs a w)(hl:fs.length<=1000000)(hsz:∀i (h:i<fs.length),fs[i].1.size<=maxLen):
  Calls prog 260 #[.slice a fs.length cap,.string ⟨#[84,114,97,110,115,102,101,114,45,69,110,99,111,100,105,110,103]⟩] w λe w'=>(∃a' c',e=.returned (.slice a' (Bf fs Du).length c')/\Dg (Bf fs Du) a' w')/\Bw w w':=Hw fs a cap ⟨#[84,114,97,110,115,102,101,114,45,69,110,99,111,100,105,110,103]⟩ w hf hl hsz
theorem Ep{w w':World}{a:Addr}{v:Value}(hb:Bw w w')(h:w.cell? a=some v):w'.cell? a=some v:=Aa hb h
theorem Eq{w w':World}{a:Addr}{v:Value}(hb:Bw w w')(h:w.cell? a=some v)(hf:w.frozen? a=false):w'.frozen? a=false:=by
 rw[hb.frozen (Ap h)];exact hf
theorem Is(c:By)(w:World)(hc:c.size<=maxLen):
  Calls prog 246 #[.string c,.string ⟨#[99,104,117,110,107,101,100]⟩] w λe w'=>e=.returned (.bool (Pm.a0d c.data.toList Je))/\Bw w w':=Ek c ⟨#[99,104,117,110,107,101,100]⟩ w hc
theorem Uw(fs:List (By×By))(a:Oa)(cap:Nat)(most:Int)(w:World)(hf:Df fs a w)(hl:fs.length<=1000000)(hz1:∀f∈fs,f.1.size<=maxLen)(hz2:∀f∈fs,f.2.size<=maxLen):
  Calls prog 241 #[.slice a fs.length cap,.int .i64 most] w λe w'=>e=.returned (.tuple #[.agg #[.bool (Cr fs most).2.1,.int .i64 (Cr fs most).2.2],.int .i64 (Cr fs most).1])/\Bw w w':=by
 have HF:Hid (Df fs a w):=hf;have HZ1:Hid (∀i (h:i<fs.length),fs[i].1.size<=maxLen):=λi h=>hz1 _ (As h);have HZL:Hid (∀i (hi:i<(Bf fs Dp).length),(Bf fs Dp)[i].size<=maxLen):=Lu hz2;have HZC:Hid (∀i (hi:i<(Bf fs Du).length),(Bf fs Du)[i].size<=maxLen):=Lu hz2;have hll:=Co fs Dp;have hlc:=Co fs Du;have hlh:=Co fs Kl;clear hf hz1 hz2;have HR:Hid (Cr fs most=Jf (Bf fs Kl).length (Bu (Bf fs Dp)) (Bu (Bf fs Du)) most):=rfl;go_enter func241,ntmps241;go_wp2_with fail;refine(Sg fs a cap _ (HF.out.below (bA _ _)) hl HZ1.out).mono ?_;rintro e w1 ⟨⟨a1,c1,rfl,st1⟩,hb1⟩;have q0:=Aa hb1 (a:=⟨w.heap.size,0,none⟩) (v:=.bool false) (by simp);have q1:=Aa hb1 (a:=⟨w.heap.size,1,none⟩) (v:=.int .i64 0) (by simp);have f0:w1.frozen? ⟨w.heap.size,0,none⟩=false:=by rw[hb1.frozen (by simp)];simp
 have f1:w1.frozen? ⟨w.heap.size,1,none⟩=false:=by rw[hb1.frozen (by simp)];simp
 have hB1:=Bc ((Ad _ w).alloc (Ac _) _) hb1;clear hb1;have ST1:Hid (Dg (Bf fs Dp) a1 w1):=st1;clear st1;go_wp2_with fail;refine(Sh fs a cap _ (HF.out.below hB1) hl HZ1.out).mono ?_;rintro e w2 ⟨⟨a2,c2,rfl,st2⟩,hb2⟩;have hB2:=Bc hB1 hb2;have ST1':Hid (Dg (Bf fs Dp) a1 w2):=ST1.out.below hb2;have ST2:Hid (Dg (Bf fs Du) a2 w2):=st2;have q0':=Ep hb2 q0;have q1':=Ep hb2 q1;have f0':=Eq hb2 q0 f0;have f1':=Eq hb2 q1 f1;clear st2 ST1 hB1 q0 q1 f0 f1 hb2;go_wp2_with fail;refine(Xf fs a cap _ (HF.out.below hB2) hl HZ1.out).mono ?_;rintro e w3 ⟨⟨a3,c3,rfl,st3⟩,hb3⟩;have hB3:=Bc hB2 hb3;have ST1:Hid (Dg (Bf fs Dp) a1 w3):=ST1'.out.below hb3;have ST2':Hid (Dg (Bf fs Du) a2 w3):=ST2.out.below hb3;have q0:=Ep hb3 q0';have q1:=Ep hb3 q1';have f0:=Eq hb3 q0' f0';have f1:=Eq hb3 q1' f1';clear st3 ST1' ST2 hB2 q0' q1' f0' f1' hb3 HF HZ1;generalize (Bf fs Kl).length=nh at *
 generalize Bf fs Dp=L at *
 generalize Bf fs Du=C at *
 by_cases hh:nh=1
 ·have hh2:((nh:Int) != 1)=false:=by rw[hh];rfl
  have HR2:Hid (Cr fs most=Jf 1 (Bu L) (Bu C) most):=by have:=HR.out;rw[hh]at this;exact this
  clear hh HR;have hdl:(Bu L).length=L.length:=by simp[Bu]
  have hdc:(Bu C).length=C.length:=by simp[Bu]
  by_cases hcl:0<C.length/\0<L.length
  ·have HS:Hid (Cr fs most=(3,false,0)):=by
    unfold Hid;rw[HR2.out];unfold Jf;rw[if_neg (by simp),if_pos (by rw[hdc,hdl];exact hcl)]
   obtain⟨h1,h2⟩:=hcl;have h1':(0:Int)<(C.length:Int):=by omega
   have h2':(0:Int)<(L.length:Int):=by omega
   clear hdl hdc h1 h2;go_wp2;refine Ae (v:=.tuple #[.agg #[.bool false,.int .i64 0],.int .i64 3]) (by simp[results,results241,go_sem,q0,q1]) rfl ⟨by rw[HS.out],(hB3.setCell (Ac _) _).setCell (Ac _) _⟩
  ·have HR3:Hid (Cr fs most=if Pm.a3s (Bu L)≠0 then(3,false,0)else if 1<(Bu C).length\/((Bu C).length=1/\Pm.a0d ((Bu C).headD []) Je=false)then(6,false,0)else if most<Pm.a3t (Bu L)then(4,false,0)else(0,decide ((Bu C).length=1),Pm.a3t (Bu L))):=by
    unfold Hid;rw[HR2.out];unfold Jf;rw[if_neg (by simp),if_neg (by rw[hdc,hdl];exact hcl)]
   clear hdl hdc HR2;have key:Hid (Calls prog 297 #[.slice a1 L.length c1] w3 λe w'=>e=.returned (.tuple #[.int .i64 (Pm.a3t (Bu L)),.int .i64 (Pm.a3s (Bu L))])/\w'=w3):=Uv L a1 c1 w3 ST1.out (by omega) HZL.out;rcases(show C.length=0\/(0<C.length/\L.length=0)from by omega)with hc0|⟨hc0,hl0⟩
   ·obtain rfl:C=[]:=Ay hc0;clear hcl hc0 ST2' HZC hlc;by_cases hE:Pm.a3s (Bu L)=0
    ·rw[if_neg (by simp[hE]),if_neg (by simp[Bu])]at HR3;by_cases hm:most<Pm.a3t (Bu L)
     ·have HS:Hid (Cr fs most=(4,false,0)):=by have:=HR3.out;rw[if_pos hm]at this;exact this
      go_wp2_with fail;refine key.out.mono ?_;rintro e w4 ⟨rfl,rfl⟩;go_wp2;refine Ae (v:=.tuple #[.agg #[.bool false,.int .i64 0],.int .i64 4]) (by simp[results,results241,go_sem,q0,q1]) rfl ⟨by rw[HS.out],(hB3.setCell (Ac _) _).setCell (Ac _) _⟩
     ·have HS:Hid (Cr fs most=(0,false,Pm.a3t (Bu L))):=by have:=HR3.out;rw[if_neg hm]at this;exact this
      go_wp2_with fail;refine key.out.mono ?_;rintro e w4 ⟨rfl,rfl⟩;go_wp2;refine Ae (v:=.tuple #[.agg #[.bool false,.int .i64 (Pm.a3t (Bu L))],.int .i64 0]) (by simp[results,results241,go_sem,q0,q1]) rfl ⟨by rw[HS.out],(hB3.setCell (Ac _) _).setCell (Ac _) _⟩
    ·have HS:Hid (Cr fs most=(3,false,0)):=by have:=HR3.out;rw[if_pos hE]at this;exact this
     have hE3:Pm.a3s (Bu L)=3:=by
      unfold Pm.a3s at hE ⊢;split
      ·rename_i h;rw[if_pos h]at hE;exact absurd rfl hE
      ·rfl
     clear hE;go_wp2_with fail;refine key.out.mono ?_;rintro e w4 ⟨rfl,rfl⟩;go_wp2;refine Ae (v:=.tuple #[.agg #[.bool false,.int .i64 0],.int .i64 3]) (by simp[results,results241,go_sem,q0,q1]) rfl ⟨by rw[HS.out],(hB3.setCell (Ac _) _).setCell (Ac _) _⟩
   ·obtain rfl:L=[]:=Ay hl0;clear hcl hl0 HZL hll ST1;have hE:Pm.a3s (Bu [])=0:=rfl;have hN:Pm.a3t (Bu [])=0:=rfl;rw[hE,hN,if_neg (by simp)]at HR3
    match C,hc0 with
    |[c],_=>
     obtain⟨g,rfl,_,hc1⟩:=ST2'.out 0 (by simp);have hsc:=HZC.out 0 (by simp);simp only[B7z]at hc1 hsc
     cases hal:Pm.a0d c.data.toList Je
     ·have HS:Hid (Cr fs most=(6,false,0)):=by have:=HR3.out;rw[if_pos (by simp[Bu,hal])]at this;exact this
      go_wp2_with fail;refine key.out.mono ?_;rintro e w4 ⟨rfl,rfl⟩;go_wp2_with fail;refine(Is c _ hsc).mono ?_;rintro e w5 ⟨rfl,hb5⟩;rw[hal];have r0:=Ep hb5 q0;have r1:=Ep hb5 q1;have g0:=Eq hb5 q0 f0;have g1:=Eq hb5 q1 f1;have hB5:=Bc hB3 hb5;clear hb5;go_wp2;refine Ae (v:=.tuple #[.agg #[.bool false,.int .i64 0],.int .i64 6]) (by simp[results,results241,go_sem,r0,r1]) rfl ⟨by rw[HS.out],(hB5.setCell (Ac _) _).setCell (Ac _) _⟩
     ·rw[if_neg (by simp[Bu,hal])]at HR3;by_cases hm:most<0
      ·have HS:Hid (Cr fs most=(4,false,0)):=by have:=HR3.out;rw[if_pos hm]at this;exact this
       go_wp2_with fail;refine key.out.mono ?_;rintro e w4 ⟨rfl,rfl⟩;go_wp2_with fail;refine(Is c _ hsc).mono ?_;rintro e w5 ⟨rfl,hb5⟩;rw[hal];have r0:=Ep hb5 q0;have r1:=Ep hb5 q1;have g0:=Eq hb5 q0 f0;have g1:=Eq hb5 q1 f1;have hB5:=Bc hB3 hb5;clear hb5;go_wp2;refine Ae (v:=.tuple #[.agg #[.bool false,.int .i64 0],.int .i64 4]) (by simp[results,results241,go_sem,r0,r1]) rfl ⟨by rw[HS.out],(hB5.setCell (Ac _) _).setCell (Ac _) _⟩
      ·have HS:Hid (Cr fs most=(0,true,0)):=by have:=HR3.out;rw[if_neg hm]at this;exact this
       go_wp2_with fail;refine key.out.mono ?_;rintro e w4 ⟨rfl,rfl⟩;go_wp2_with fail;refine(Is c _ hsc).mono ?_;rintro e w5 ⟨rfl,hb5⟩;rw[hal];have r0:=Ep hb5 q0;have r1:=Ep hb5 q1;have g0:=Eq hb5 q0 f0;have g1:=Eq hb5 q1 f1;have hB5:=Bc hB3 hb5;clear hb5;go_wp2;refine Ae (v:=.tuple #[.agg #[.bool true,.int .i64 0],.int .i64 0]) (by simp[results,results241,go_sem,r0,r1]) rfl ⟨by rw[HS.out],(hB5.setCell (Ac _) _).setCell (Ac _) _⟩
    |c::d::r,_=>
     have HS:Hid (Cr fs most=(6,false,0)):=by have:=HR3.out;rw[if_pos (by simp[Bu])]at this;exact this
     go_wp2_with fail;refine key.out.mono ?_;rintro e w4 ⟨rfl,rfl⟩;go_wp2;refine Ae (v:=.tuple #[.agg #[.bool false,.int .i64 0],.int .i64 6]) (by simp[results,results241,go_sem,q0,q1]) rfl ⟨by rw[HS.out],(hB3.setCell (Ac _) _).setCell (Ac _) _⟩
 ·have hh2:((nh:Int) != 1)=true:=by rw[bne_iff_ne];omega
  have HS:Hid (Cr fs most=(3,false,0)):=by unfold Hid;rw[HR.out];unfold Jf;rw[if_pos hh]
  clear hh;go_wp2;refine Ae (v:=.tuple #[.agg #[.bool false,.int .i64 0],.int .i64 3]) (by simp[results,results241,go_sem,q0,q1]) rfl ⟨by rw[HS.out],(hB3.setCell (Ac _) _).setCell (Ac _) _⟩
end Go.Proofs.YtbiggccolpchcaaGreatDoor
