/- Joined. -/
import Derived.Test.YtbiggccolpchcaaGreatDoorJoin04
import Derived.Deep.RegionLaw
import Derived.Deep.AppendLies
set_option maxRecDepth 100000
set_option maxHeartbeats 2000000
namespace Go.Proofs.YtbiggccolpchcaaGreatDoor
open Go.RowKit _root_.Go.Proofs.Tryz
theorem Qd(b:Nat)(hd bd:Int)(s:By)(k n:Nat)(w:World)(hr:Cy b hd bd s k w)(_hs:s.size<=maxLen)(hk:k<=s.size)(hn:s.size-k<n)(hn2:n<=4611686018427387904):
  Calls prog 243 #[.pointer (some ⟨b,0,none⟩),.int .i64 n] w λr w'=>
   r=.returned (.tuple #[.string ⟨#[]⟩,.int .i64 2])/\Cy b hd bd s k w'/\Kp b w w':=by
 obtain⟨c0,c1,c2,c3⟩:=hr.cell;have HR:Hid (Cy b hd bd s k w):=hr;clear hr;unfold maxLen at _hs;have hlt:(s.size:Int)-(k:Int)<(n:Int):=by omega
 go_enter func243,ntmps243;go_wp2
 go_quiet (fail)
 go_wp2
 go_ret2
 exact⟨rfl,HR.out.below (below_drewN (Ad _ _) _),Kp.of (below_drewN (Ad _ _) _)⟩
theorem Si(b:Nat)(hd bd:Int)(s:By)(k n:Nat)(w:World)(hr:Cy b hd bd s k w)(hs:s.size<=maxLen)(hk:k<=s.size)(hn:n<=s.size-k)(hn2:n<=281474976710656):
  Calls prog 243 #[.pointer (some ⟨b,0,none⟩),.int .i64 n] w λr w'=>
   r=.returned (.tuple #[.string (s.extract k (k+n)),.int .i64 0])/\Cy b hd bd s (k+n) w'/\Kp b w w':=by
 obtain⟨c0,c1,c2,c3⟩:=hr.cell;have cf:=hr.free 3;have HR:Hid (Cy b hd bd s k w):=hr;clear hr;unfold maxLen at hs;have hlt:¬(s.size:Int)-(k:Int)<(n:Int):=by omega
 go_enter func243,ntmps243;go_wp2
 go_quiet (fail)
 go_wp2;have HM:Hid (Cy b hd bd s (k+n) ((w.drewN nq).setCell ⟨b,3,none⟩ (.int .i64 ((k:Int)+(n:Int))))):=by
  have:=(HR.out.below (below_drewN (Ad _ _) nq)).move (k+n);rw[show((k+n:Nat):Int)=(k:Int)+(n:Int)from by omega]at this;exact this
 have HK:Hid (Kp b w ((w.drewN nq).setCell ⟨b,3,none⟩ (.int .i64 ((k:Int)+(n:Int))))):=(Kp.of (below_drewN (Ad _ _) _)).trans (Kp.set b 3 _ _);clear c0 c1 c2 c3 cf HR;generalize (w.drewN nq).setCell ⟨b,3,none⟩ (.int .i64 ((k:Int)+(n:Int)))=W at *
 obtain⟨_,_,c2,c3⟩:=HM.out.cell;rw[show((k+n:Nat):Int)=(k:Int)+(n:Int)from by omega]at c3;have hkn:(k:Int)+(n:Int)<=(s.size:Int):=by omega
 have hkn2:k+n<=s.size:=by omega
 have hw:IntKind.i64.wrap (k:Int)=(k:Int):=by simp[IntKind.wrap,IntKind.bits,IntKind.signed];omega
 go_region_with (go_at_call 154;refine(Db _ _ ?_).mono ?_;(simp;omega);rintro e w1 ⟨rfl,hb1⟩)
 all_goals
  go_wp2
  go_ret2
  exact⟨rfl,HM.out.below (Bc (Ad _ _).drew hb1),HK.out.trans (Kp.of (Bc (Ad _ _).drew hb1))⟩
def Ci(l:L8):Int:=if(Pm.a2g l 10 3).1=0 then Pm.a3h 16 8 (Pm.a2g l 10 3).2.1 else 0
def Dr(l:L8):Int:=if(Pm.a2g l 10 3).1=0 then(if Pm.a3e 16 8 (Pm.a2g l 10 3).2.1=0 then 0 else 3)else(Pm.a2g l 10 3).1
theorem b4D(b:Nat)(hd bd:Int)(s:By)(k:Nat)(w:World)(hr:Cy b hd bd s k w)(hs:s.size<=1152921504606846976)(hk:k<=s.size)(hx:(Pm.a2g (s.data.toList.drop k) 10 3).2.1.length<=maxLen):
  Calls prog 298 #[.pointer (some ⟨b,0,none⟩)] w λr w'=>
   r=.returned (.tuple #[.int .i64 (Ci (s.data.toList.drop k)),.int .i64 (Dr (s.data.toList.drop k))]) /\
   Cy b hd bd s (k+(Pm.a2g (s.data.toList.drop k) 10 3).2.2) w'/\Kp b w w':=by
 obtain⟨c0,c1,c2,c3⟩:=hr.cell;have HR:Hid (Cy b hd bd s k w):=hr;clear hr;have hs2:s.size<=maxLen:=by unfold maxLen;omega
 go_enter func298,ntmps298;go_wp2_with fail;have hl:=Sf b hd bd s k (k+10) 3 w HR.out hs2 hk (by omega) (by omega);rw[show k+10-k=10 from by omega,show((k+10:Nat):Int)=(k:Int)+10 from by omega]at hl;refine hl.mono ?_;rintro e w1 ⟨rfl,hr1,hk1⟩;clear hl;have HX:Hid (Cy b hd bd s (k+(Pm.a2g (s.data.toList.drop k) 10 3).2.2) w1):=hr1;have hxs:(⟨(Pm.a2g (s.data.toList.drop k) 10 3).2.1.toArray⟩:By).size<=maxLen:=by simpa[ByteArray.size]using hx
 clear hr1 c0 c1 c2 c3;have HN:Hid (Ci (s.data.toList.drop k)=if(Pm.a2g (s.data.toList.drop k) 10 3).1=0 then Pm.a3h 16 8 (Pm.a2g (s.data.toList.drop k) 10 3).2.1 else 0):=rfl;have HE:Hid (Dr (s.data.toList.drop k)=if(Pm.a2g (s.data.toList.drop k) 10 3).1=0 then(if Pm.a3e 16 8 (Pm.a2g (s.data.toList.drop k) 10 3).2.1=0 then 0 else 3)else(Pm.a2g (s.data.toList.drop k) 10 3).1):=rfl;have HX2:Hid (Calls prog 131 #[.string ⟨(Pm.a2g (s.data.toList.drop k) 10 3).2.1.toArray⟩] w1 λe w'=>e=.returned (.tuple #[.int .i64 (Pm.a3h 16 8 (Pm.a2g (s.data.toList.drop k) 10 3).2.1),.int .i64 (Pm.a3e 16 8 (Pm.a2g (s.data.toList.drop k) 10 3).2.1)])/\w'=w1):=Zq _ _ hxs;clear hxs hx;by_cases h0:(Pm.a2g (s.data.toList.drop k) 10 3).1=0
 ·rw[if_pos h0]at HN HE;by_cases hE:Pm.a3e 16 8 (Pm.a2g (s.data.toList.drop k) 10 3).2.1=0
  ·rw[if_pos hE]at HE;go_wp2_with fail;refine HX2.out.mono ?_;rintro e w2 ⟨rfl,rfl⟩;go_wp2
   go_ret2
   exact⟨Lr HN.out.symm HE.out.symm,HX.out,hk1⟩
  ·rw[if_neg hE]at HE;have hE1:Pm.a3e 16 8 (Pm.a2g (s.data.toList.drop k) 10 3).2.1=1/\Pm.a3h 16 8 (Pm.a2g (s.data.toList.drop k) 10 3).2.1=0:=by
    unfold Pm.a3e at hE ⊢;unfold Pm.a3h;split
    ·rename_i h;rw[if_pos h]at hE;exact absurd rfl hE
    ·exact⟨rfl,rfl⟩
   rw[hE1.2]at HN;obtain⟨hE2,_⟩:=hE1;clear hE;go_wp2_with fail;refine HX2.out.mono ?_;rintro e w2 ⟨rfl,rfl⟩;go_wp2
   go_ret2
   exact⟨Lr HN.out.symm HE.out.symm,HX.out,hk1⟩
 ·rw[if_neg h0]at HN HE;have hne:((Pm.a2g (s.data.toList.drop k) 10 3).1 != 0)=true:=by rw[bne_iff_ne];exact h0
  clear h0;go_wp2
  go_ret2
  exact⟨Lr HN.out.symm HE.out.symm,HX.out,hk1⟩
def Br(l:L8)(size:Nat)(room:Int):Int×L8×Nat:=
 if room<size then(4,[],0)
 else if l.length<size+2 then(2,[],0)
 else if Lib.hasSuffix (l.take (size+2)) [13,10]=true then(0,Lib.trimSuffix (l.take (size+2)) [13,10],size+2)
 else(3,[],size+2)
theorem b0J(b:Nat)(hd bd:Int)(s:By)(k n:Nat)(room:Int)(w:World)(hr:Cy b hd bd s k w)(hs:s.size<=maxLen)(hk:k<=s.size)(hn:n<=68719476736):
  Calls prog 299 #[.pointer (some ⟨b,0,none⟩),.int .i64 n,.int .i64 room] w λr w'=>
   r=.returned (.tuple #[.string ⟨(Br (s.data.toList.drop k) n room).2.1.toArray⟩,.int .i64 (Br (s.data.toList.drop k) n room).1]) /\
   Cy b hd bd s (k+(Br (s.data.toList.drop k) n room).2.2) w'/\Kp b w w':=by
 have HR:Hid (Cy b hd bd s k w):=hr;clear hr;have hll:(s.data.toList.drop k).length=s.size-k:=by simp
 by_cases h1:room<n
 ·have HS:Hid (Br (s.data.toList.drop k) n room=(4,[],0)):=by unfold Hid Br;rw[if_pos h1]
  go_enter func299,ntmps299;go_wp2
  go_ret2
  exact⟨Cn (by rw[HS.out]) (by rw[HS.out]),by rw[HS.out];exact HR.out,Kp.refl _ _⟩
 ·by_cases h2:s.size-k<n+2
  ·have HS:Hid (Br (s.data.toList.drop k) n room=(2,[],0)):=by unfold Hid Br;rw[if_neg h1,if_pos (by rw[hll];exact h2)]
   have hb:=Qd b hd bd s k (n+2) w HR.out hs hk h2 (by omega);rw[show((n+2:Nat):Int)=(n:Int)+2 from by omega]at hb;have HB:=hid hb;clear hb hll;go_enter func299,ntmps299;go_wp2_with fail;refine HB.out.mono ?_;rintro e w1 ⟨rfl,hr1,hk1⟩;go_wp2
   go_ret2
   exact⟨Cn (by rw[HS.out]) (by rw[HS.out]),by rw[HS.out];exact hr1,hk1⟩
  ·have hb:=Si b hd bd s k (n+2) w HR.out hs hk (by omega) (by omega);rw[show((n+2:Nat):Int)=(n:Int)+2 from by omega]at hb;have HB:=hid hb;have hex:(s.extract k (k+(n+2))).data.toList=(s.data.toList.drop k).take (n+2):=by rw[Lib.extract_data,show k+(n+2)-k=n+2 from by omega]
   have hsx:(s.extract k (k+(n+2))).size<=9223372036854775807:=by unfold maxLen at hs;simp;omega
   clear hb
   cases h3:Lib.hasSuffix ((s.data.toList.drop k).take (n+2)) [13,10]
   focus
    have HS:Hid (Br (s.data.toList.drop k) n room=(3,[],n+2)):=by unfold Hid Br;rw[if_neg h1,if_neg (by rw[hll];exact h2),if_neg (by rw[h3];decide)]
    have HQ:Hid (Lib.hasSuffix (s.extract k (k+(n+2))).data.toList [13,10]=false):=by unfold Hid;rw[hex];exact h3
   rotate_left
   focus
    have HS:Hid (Br (s.data.toList.drop k) n room=(0,Lib.trimSuffix ((s.data.toList.drop k).take (n+2)) [13,10],n+2)):=by unfold Hid Br;rw[if_neg h1,if_neg (by rw[hll];exact h2),if_pos h3]
    have HQ:Hid (Lib.hasSuffix (s.extract k (k+(n+2))).data.toList [13,10]=true):=by unfold Hid;rw[hex];exact h3
   all_goals
    clear hll hex h3;go_enter func299,ntmps299;go_wp2_with fail;refine HB.out.mono ?_;rintro e w1 ⟨rfl,hr1,hk1⟩;go_wp2_with fail;refine(Tryz.strings_CutSuffix _ _ _ hsx).mono ?_;rintro e w2 ⟨rfl,rfl⟩;rw[show(⟨#[13,10]⟩:By).data.toList=[13,10]from rfl,HQ.out];go_wp2
    go_ret2
    exact⟨Cn (by rw[HS.out]) (by rw[HS.out]),by rw[HS.out];exact hr1,hk1⟩
def Ih(fs:List Pm.Fld):List Value:=fs.flatMap λf=>[.string ⟨f.1.toArray⟩,.string ⟨f.2.toArray⟩]
theorem Vr(fs:List Pm.Fld)(f:Pm.Fld):Ih (fs++[f])=Ih fs++[.string ⟨f.1.toArray⟩,.string ⟨f.2.toArray⟩]:=by simp[Ih]
def RqB(g:Nat)(m t:L8)(v:Value)(w:World):Prop:=w.heap[g]?=some (.cells #[.string ⟨m.toArray⟩,.string ⟨t.toArray⟩,v,.string ⟨#[]⟩] 47 (0,0))
theorem Kp.block{b:Nat}{w w':World}(h:Kp b w w'){j:Nat}{o:Obj}(hj:w.heap[j]?=some o)(hb:j≠b):w'.heap[j]?=some o:=by
 have hlt:j<w.heap.size:=by
  rcases B8z j w.heap.size with h'|h'
  ·exact h'
  ·simp[Array.getElem?_eq_none h']at hj
 rw[h.2.2.2.2 j hlt hb];exact hj
theorem Kp.owns{b:Nat}{w w':World}(h:Kp b w w'){B:Nat}{e:TypeId}{sz:Nat}{v:Value}{n:Nat}{xs:List Value}(ho:w.ownsRow B e sz v n xs)(hb:b<B):w'.ownsRow B e sz v n xs:=by
 obtain⟨h1,h2⟩:=ho;refine⟨h1,?_⟩;rcases h2 with h2|⟨g,cap,cur,hv,hB,hg,h3⟩
 ·exact .inl h2
 ·exact .inr ⟨g,cap,cur,hv,hB,h.block hg (by omega),h3⟩
theorem Bt{w:World}{B B':Nat}{e:TypeId}{sz:Nat}{v:Value}{n:Nat}{xs:List Value}(ho:w.ownsRow B e sz v n xs)(hb:B'<=B):w.ownsRow B' e sz v n xs:=by
 obtain⟨h1,h2⟩:=ho;refine⟨h1,?_⟩;rcases h2 with h2|⟨g,cap,cur,hv,hB,hg,h3⟩
 ·exact .inl h2
 ·exact .inr ⟨g,cap,cur,hv,by omega,hg,h3⟩
theorem Kp.cell{b:Nat}{w w':World}(h:Kp b w w'){a:Addr}{v:Value}(hc:w.cell? a=some v)(hb:a.block≠b):w'.cell? a=some v:=by
 have:=h.2.2.2.2 a.block (Ap hc) hb;rw[Au (w:=w) this];exact hc
theorem RqB.cells{g:Nat}{m t:L8}{v:Value}{w:World}(h:RqB g m t v w):
  w.cell? ⟨g,0,none⟩=some (.string ⟨m.toArray⟩)/\w.cell? ⟨g,1,none⟩=some (.string ⟨t.toArray⟩)/\w.cell? ⟨g,2,none⟩=some v/\w.cell? ⟨g,3,none⟩=some (.string ⟨#[]⟩):=by
 refine⟨?_,?_,?_,?_⟩<;>(rw[Ab h];rfl)
theorem RqB.free{g:Nat}{m t:L8}{v:Value}{w:World}(h:RqB g m t v w)(j:Nat):w.frozen? ⟨g,j,none⟩=false:=Ai h j
theorem RqB.lt{g:Nat}{m t:L8}{v:Value}{w:World}(h:RqB g m t v w):g<w.heap.size:=Ap h.cells.1
theorem RqB.below{g:Nat}{m t:L8}{v:Value}{w w':World}(h:RqB g m t v w)(hb:Bw w w'):RqB g m t v w':=by
 have:=hb.block g h.lt;unfold RqB at *;rw[this];exact h
theorem RqB.kp{g b:Nat}{m t:L8}{v:Value}{w w':World}(h:RqB g m t v w)(hk:Kp b w w')(hb:g≠b):RqB g m t v w':=hk.block h hb
theorem Dc(f:Nat)(first:Bool)(l:L8)(lim:Nat)(m t:L8)(fs:List Pm.Fld)(u:Nat):
    Pm.a1o (f+1) first l lim m t fs u=if(Pm.a2g l lim 5).1≠0 then Pm.a1n (Pm.a2g l lim 5).1
    else if first=true then
      (if(Pm.a1f (Pm.a2g l lim 5).2.1).1≠0 then Pm.a1n (Pm.a1f (Pm.a2g l lim 5).2.1).1
       else Pm.a1o f false (l.drop (Pm.a2g l lim 5).2.2) (lim-(Pm.a2g l lim 5).2.2) (Pm.a1f (Pm.a2g l lim 5).2.1).2.1 (Pm.a1f (Pm.a2g l lim 5).2.1).2.2 fs (u+(Pm.a2g l lim 5).2.2))
    else if(Pm.a2g l lim 5).2.1=[]then(0,m,t,fs,u+(Pm.a2g l lim 5).2.2)
    else match Pm.a1d (Pm.a2g l lim 5).2.1 with
      |none=>Pm.a1n 3
      |some f'=>Pm.a1o f false (l.drop (Pm.a2g l lim 5).2.2) (lim-(Pm.a2g l lim 5).2.2) m t (fs++[f']) (u+(Pm.a2g l lim 5).2.2):=rfl
theorem Cy.other{b:Nat}{hd bd:Int}{s:By}{k:Nat}{w:World}(h:Cy b hd bd s k w){g:Nat}(hg:b≠g)(o:Nat)(v:Value):Cy b hd bd s k (w.setCell ⟨g,o,none⟩ v):=by
 unfold Cy at *;rw[heap_setCell_other w ⟨g,o,none⟩ b v hg];exact h
theorem Kp.fresh{b:Nat}{w w1:World}(h:Kp b w w1){g:Nat}(hg:w.heap.size<=g)(o:Nat)(v:Value):Kp b w (w1.setCell ⟨g,o,none⟩ v):=
 ⟨by simpa[World.setCell]using h.1,by simpa[World.setCell]using h.2.1,by simpa[World.setCell]using h.2.2.1,by simpa using h.2.2.2.1,λk hk hb=>by rw[heap_setCell_other w1 ⟨g,o,none⟩ k v (by simp;omega)];exact h.2.2.2.2 k hk hb⟩
theorem RqB.other{g':Nat}{m t:L8}{x:Value}{w:World}(h:RqB g' m t x w){g:Nat}(hg:g'≠g)(o:Nat)(v:Value):RqB g' m t x (w.setCell ⟨g,o,none⟩ v):=by
 unfold RqB at *;rw[heap_setCell_other w ⟨g,o,none⟩ g' v hg];exact h
theorem RqB.set0{g:Nat}{m t:L8}{x:Value}{w:World}(h:RqB g m t x w)(m':L8):RqB g m' t x (w.setCell ⟨g,0,none⟩ (.string ⟨m'.toArray⟩)):=by
 unfold RqB at *;rw[heap_setCell_same w g 0 _ _ _ h];rfl
theorem RqB.set1{g:Nat}{m t:L8}{x:Value}{w:World}(h:RqB g m t x w)(t':L8):RqB g m t' x (w.setCell ⟨g,1,none⟩ (.string ⟨t'.toArray⟩)):=by
 unfold RqB at *;rw[heap_setCell_same w g 1 _ _ _ h];rfl
theorem RqB.set2{g:Nat}{m t:L8}{x:Value}{w:World}(h:RqB g m t x w)(x':Value):RqB g m t x' (w.setCell ⟨g,2,none⟩ x'):=by
 unfold RqB at *;rw[heap_setCell_same w g 2 _ _ _ h];rfl
theorem Di{w:World}{B:Nat}{e:TypeId}{sz:Nat}{x:Value}{n:Nat}{xs:List Value}(ho:w.ownsRow B e sz x n xs){g:Nat}(hg:g<B)(o:Nat)(v:Value):(w.setCell ⟨g,o,none⟩ v).ownsRow B e sz x n xs:=by
 obtain⟨h1,h2⟩:=ho;refine⟨h1,?_⟩;rcases h2 with h2|⟨r,cap,cur,hv,hB,hr,h3⟩
 ·exact .inl h2
 ·exact .inr ⟨r,cap,cur,hv,hB,by rw[heap_setCell_other w ⟨g,o,none⟩ r v (by simp;omega)];exact hr,h3⟩
theorem Lv{w:World}{B:Nat}{e:TypeId}{sz:Nat}{v:Value}{n:Nat}{xs:List Value}(h:w.ownsRow B e sz v n xs):∃a k c,v=.slice a k c:=by
 rcases h.2 with⟨rfl,_⟩|⟨g,cap,cur,rfl,_⟩
 ·exact⟨_,_,_,rfl⟩
 ·exact⟨_,_,_,rfl⟩
theorem Zv{l n v:L8}(h:Pm.a1d l=some (n,v)):n.length+v.length<=l.length:=by
 unfold Pm.a1d at h
 split at h
 ·simp only[Option.some.injEq,Prod.mk.injEq]at h;have h1:=congrArg List.length (Pm.a0c 58 l);rw[A0z]at h1;have h2:=Xe ((Pm.behind 58 l).drop 1);rw[A6z]at h2;rw[<-h.1,<-h.2];omega
 ·cases h
theorem Tryz.info36:(prog.info? 131).map (λi=>(i.zero,i.size,i.bytes))=some (some (.agg #[.string ⟨#[]⟩,.string ⟨#[]⟩]),2,32):=by kernel_rfl
theorem RqB.grown{g:Nat}{m t:L8}{v:Value}{w w':World}{row:Option Nat}(h:RqB g m t v w)(hg:w.grownBy w' row)(hne:row≠some g):RqB g m t v w':=by
 have:=hg.block g h.lt (λh'=>hne h'.symm);unfold RqB at *;rw[this];exact h
theorem Hh{w:World}{B:Nat}{e:TypeId}{sz:Nat}{v:Value}{n:Nat}{xs:List Value}(h:w.ownsRow B e sz v n xs){g:Nat}(hg:g<B):v.ownBlock≠some g:=λh'=>by
 have:=Bx h g h';omega
theorem Sj{w:World}{B:Nat}{e:TypeId}{sz:Nat}{v:Value}{n:Nat}{xs:List Value}(h:w.ownsRow B e sz v n xs){g:Nat}(hg:w.heap.size<=g):v.ownBlock≠some g:=λh'=>by
 rcases h.2 with⟨rfl,_⟩|⟨r,cap,cur,rfl,_,hr,_⟩
 ·cases h'
 ·simp[Value.ownBlock]at h';subst h';simp[Array.getElem?_eq_none hg]at hr
theorem Ez{w w':World}{row:Option Nat}{a:Addr}{v:Value}(hg:w.grownBy w' row)(hc:w.cell? a=some v)(hne:row≠some a.block):w'.cell? a=some v:=by
 rw[Au (w:=w) (hg.block a.block (Ap hc) (λh=>hne h.symm))];exact hc
theorem b4E{w2 w3:World}{o:Obj}{n:Nat}(h:n<w2.heap.size)(hb:Below (w2.alloc o).drew.heap.size (w2.alloc o).drew w3):n<w3.heap.size:=by
 have h1:=hb.size;have h2:(w2.alloc o).drew.heap.size=w2.heap.size+1:=by simp
 omega
theorem Cy.grown{b:Nat}{hd bd:Int}{s:By}{k:Nat}{w w':World}{row:Option Nat}(h:Cy b hd bd s k w)(hg:w.grownBy w' row)(hne:row≠some b):Cy b hd bd s k w':=by
 have:=hg.block b h.lt (λh'=>hne h'.symm);unfold Cy at *;rw[this];exact h
theorem Kp.grown{b:Nat}{w w1 w':World}{row:Option Nat}(h:Kp b w w1)(hg:w1.grownBy w' row)(hr:∀k,row=some k->w.heap.size<=k):Kp b w w':=
 ⟨hg.os.trans h.1,hg.tape.trans h.2.1,hg.output.trans h.2.2.1,Aj h.2.2.2.1 hg.size,λk hk hb=>(hg.block k (Af hk h.2.2.2.1) (λh'=>by have:=hr k h'.symm;omega)).trans (h.2.2.2.2 k hk hb)⟩
structure HInv(w:World)(b hd:Nat)(bd:Int)(s:By)(k:Nat)(g j u:Nat)(m t:L8)(fs:List Pm.Fld)(v:Value)(wr:World):Prop where
 u1:u<=hd
 g1:hd-u+1<=g
 k1:k+u<=s.size
 j1:j<=u
 n1:fs.length<=u
 eq:Pm.a1o (hd+1) true (s.data.toList.drop k) hd [] [] [] 0=Pm.a1o g (decide (j=0)) (s.data.toList.drop (k+u)) (hd-u) m t fs u
 rd:Cy b hd bd s (k+u) wr
 rb:RqB w.heap.size [] [] (.slice none 0 0) wr
 qb:RqB (w.heap.size+1) m t v wr
 ow:wr.ownsRow (w.heap.size+2) 131 2 v fs.length (Ih fs)
 sz:w.heap.size+2<=wr.heap.size
 kp:Kp b w wr
theorem b4F(b:Nat)(hd:Nat)(bd:Int)(s:By)(k:Nat)(mx:Int)(w:World)(hr:Cy b hd bd s k w)(hs:s.size<=1152921504606846976)(hk:k<=s.size)(hh:hd<=500)(hm:w.cell? ⟨0,0,none⟩=some (.int .i64 mx))(hb:b≠0):
  Calls prog 240 #[.pointer (some ⟨b,0,none⟩)] w λr w'=>
   (∃v,r=.returned (.tuple #[.agg #[.string ⟨(Pm.a1o (hd+1) true (s.data.toList.drop k) hd [] [] [] 0).2.1.toArray⟩,.string ⟨(Pm.a1o (hd+1) true (s.data.toList.drop k) hd [] [] [] 0).2.2.1.toArray⟩,v,.string ⟨#[]⟩],.int .i64 (Pm.a1o (hd+1) true (s.data.toList.drop k) hd [] [] [] 0).1])/\w'.ownsRow w.heap.size 131 2 v (Pm.a1o (hd+1) true (s.data.toList.drop k) hd [] [] [] 0).2.2.2.1.length (Ih (Pm.a1o (hd+1) true (s.data.toList.drop k) hd [] [] [] 0).2.2.2.1)) /\
   (∃k',Cy b hd bd s k' w'/\((Pm.a1o (hd+1) true (s.data.toList.drop k) hd [] [] [] 0).1=0->k'=k+(Pm.a1o (hd+1) true (s.data.toList.drop k) hd [] [] [] 0).2.2.2.2))/\Kp b w w':=by
 obtain⟨c0,c1,c2,c3⟩:=hr.cell;obtain⟨i0,hi,hz0,hz1,hz2⟩:=info_parts Tryz.info36;have hbl:=hr.lt;have HR:Hid (Cy b hd bd s k w):=hr;have HM:Hid (w.cell? ⟨0,0,none⟩=some (.int .i64 mx)):=hm;clear hr hm;generalize hH:Pm.a1o (hd+1) true (s.data.toList.drop k) hd [] [] [] 0=H;have HH:Hid (Pm.a1o (hd+1) true (s.data.toList.drop k) hd [] [] [] 0=H):=hH;clear hH;go_enter func240,ntmps240;go_wp2
 go_step3
 go_wp2
 go_quiet (fail)
 go_wp2
 go_step3
 go_wp2
 go_loopg [6,7,8,9,10] (hd+1) (λg j _ _ _ _ wr=>∃(jn u:Nat) (m t:L8) (fs:List Pm.Fld) (v:Value),j=.int .i64 jn/\HInv w b hd bd s k g jn u m t fs v wr)
 case atStart=>
  refine⟨0,0,[],[],[],.slice none 0 0,rfl,?_⟩;have hB:=((below_drewN ((Ad _ w).alloc (Ac _) (.cells #[.string ⟨#[]⟩,.string ⟨#[]⟩,.slice none 0 0,.string ⟨#[]⟩] 47)) nq).alloc (by simp) (.cells #[.string ⟨#[]⟩,.string ⟨#[]⟩,.slice none 0 0,.string ⟨#[]⟩] 47));refine{u1:=by omega,g1:=by omega,k1:=by omega,j1:=by omega,n1:=by simp,eq:=rfl,rd:=HR.out.below hB,rb:=?_,qb:=?_,ow:=Am _ _ _ _,sz:=by simp,kp:=Kp.of hB}
  ·unfold RqB;rw[Ba _ _ _ (by simp)];exact Ag w _
  ·unfold RqB;have:=Ag ((w.alloc (.cells #[.string ⟨#[]⟩,.string ⟨#[]⟩,.slice none 0 0,.string ⟨#[]⟩] 47)).drewN nq) (.cells #[.string ⟨#[]⟩,.string ⟨#[]⟩,.slice none 0 0,.string ⟨#[]⟩] 47);simpa using this
 case round=>
  obtain⟨jn,u,m,t,fs,v,rfl,I⟩:=hrel;obtain⟨av,nv,cv,rfl⟩:=Lv I.ow
  cases gk with
  |zero=>exact absurd I.g1 (by omega)
  |succ f=>
   have hl:=Sf b hd bd s (k+u) (k+hd) 5 wr I.rd (by unfold maxLen;omega) I.k1 (by have:=I.u1;omega) (by omega);rw[show k+hd-(k+u)=hd-u from by omega,show((k+hd:Nat):Int)=(k:Int)+(hd:Int)from by omega]at hl;have HL:=hid hl;clear hl;have HE:Hid _:=HH.out.symm.trans (I.eq.trans (Dc f _ _ _ _ _ _ _));go_wp2_with fail;refine HL.out.mono ?_;rintro e w1 ⟨rfl,hr1,hk1⟩;have rb1:=I.rb.kp hk1 (by omega);have qb1:=I.qb.kp hk1 (by omega);have ow1:=hk1.owns I.ow (by omega);have kp1:=I.kp.trans hk1;have hls:=λh0=>Pm.a2k (l:=s.data.toList.drop (k+u)) (lim:=hd-u) (long:=5) (by decide) h0;have sz1:w.heap.size+2<=w1.heap.size:=Aj I.sz hk1.2.2.2.1;obtain⟨x0,x1,x2,x3⟩:=rb1.cells;have y0:=rb1.free 0;have y1:=rb1.free 1;have y2:=rb1.free 2;have y3:=rb1.free 3;have i1:=I.u1;have i2:=I.g1;have i3:=I.k1;have i4:=I.j1;have i5:=I.n1;clear I HL c0 c1 c2 c3 hk1;generalize Pm.a2g (s.data.toList.drop (k+u)) (hd-u) 5=q at *
   by_cases h0:q.1=0
   ·obtain⟨l1,l2,l3,l4⟩:=hls h0;rw[if_neg (by simp[h0])]at HE;have hqs:(⟨q.2.1.toArray⟩:By).size<=500:=by simp[ByteArray.size];omega
    rw[A6z,show s.data.toList.length=s.size from by simp]at l3;clear hls;by_cases hj:jn=0
    ·subst hj;rw[if_pos (by simp)]at HE;have HF:=hid (Uu ⟨q.2.1.toArray⟩ mx w1 (by omega) (kp1.cell HM.out (by show 0≠b;omega)));have HD:Hid (s.data.toList.drop (k+u+q.2.2)=(s.data.toList.drop (k+u)).drop q.2.2):=by unfold Hid;rw[E2z]
     clear x0 x1 x2 x3 y0 y1 y2 y3;go_wp2_with fail;refine HF.out.mono ?_;rintro e w2 ⟨rfl,hb2⟩;clear HF;have rb2:=rb1.below hb2;have qb2:=qb1.below hb2;have ow2:=Be ow1 hb2;have kp2:=kp1.trans (Kp.of hb2);have rd2:=hr1.below hb2;have sz2:w.heap.size+2<=w2.heap.size:=Aj sz1 hb2.size;obtain⟨x0,x1,x2,x3⟩:=rb2.cells;have y0:=rb2.free 0;have y1:=rb2.free 1;have y2:=rb2.free 2;have y3:=rb2.free 3;obtain⟨z0,z1,z2,z3⟩:=qb2.cells;have v0:=qb2.free 0;have v1:=qb2.free 1;clear hb2 rb1 qb1 ow1 kp1 hr1 sz1;generalize Pm.a1f q.2.1=p at *
     have hbr:b≠w.heap.size:=by omega
     have hbq:b≠w.heap.size+1:=by omega
     by_cases hp:p.1=0
     ·rw[if_neg (by simp[hp])]at HE;go_wp2
      go_roundg f
      case measure=>omega
      case rel=>
       refine⟨1,u+q.2.2,p.2.1,p.2.2,fs,.slice av nv cv,rfl,?_⟩;refine{u1:=by omega,g1:=by omega,k1:=by omega,j1:=by omega,n1:=by omega,eq:=?_,rd:=?_,rb:=(rb2.other (by omega) 0 _).other (by omega) 1 _,qb:=(qb2.set0 _).set1 _,ow:=Di (Di ow2 (by omega) 0 _) (by omega) 1 _,sz:=by simpa using sz2,kp:=(kp2.fresh (by omega) 0 _).fresh (by omega) 1 _}
       ·rw[HH.out,HE.out,show k+(u+q.2.2)=k+u+q.2.2 from by omega,HD.out,show hd-(u+q.2.2)=hd-u-q.2.2 from by omega];rfl
       ·rw[show k+(u+q.2.2)=k+u+q.2.2 from by omega];exact(rd2.other hbq 0 _).other hbq 1 _
     ·rw[if_pos hp]at HE;have hne:(p.1 != 0)=true:=by rw[bne_iff_ne];exact hp
      clear hp;go_wp2
      try rw[Exit.noGoto_ret]
      refine Ae (v:=.tuple #[.agg #[.string ⟨#[]⟩,.string ⟨#[]⟩,.slice none 0 0,.string ⟨#[]⟩],.int .i64 p.1]) (by simp[results,results240,go_sem,x0,x1,x2,x3]) rfl ?_;rw[HE.out];exact⟨⟨_,rfl,Am _ _ _ _⟩,⟨_,(((((rd2.other hbq 0 _).other hbq 1 _).other hbr 0 _).other hbr 1 _).other hbr 2 _).other hbr 3 _,λh=>absurd h (by simpa[Pm.a1n]using hne)⟩,(((((kp2.fresh (by omega) 0 _).fresh (by omega) 1 _).fresh (Ac _) 0 _).fresh (Ac _) 1 _).fresh (Ac _) 2 _).fresh (Ac _) 3 _⟩
    ·rw[if_neg (by simp[hj])]at HE;have hj2:((jn:Int)==0)=false:=by rw[Ar];omega
     have hbr:b≠w.heap.size:=by omega
     have hbq:b≠w.heap.size+1:=by omega
     by_cases hem:q.2.1=[]
     ·rw[if_pos hem]at HE;obtain⟨z0,z1,z2,z3⟩:=qb1.cells;rw[hem];go_wp2
      try rw[Exit.noGoto_ret]
      refine Ae (v:=.tuple #[.agg #[.string ⟨m.toArray⟩,.string ⟨t.toArray⟩,.slice av nv cv,.string ⟨#[]⟩],.int .i64 0]) (by simp[results,results240,go_sem,x0,x1,x2,x3]) rfl ?_;rw[HE.out];refine⟨⟨_,rfl,Bt (Di (Di (Di (Di ow1 (by omega) 0 _) (by omega) 1 _) (by omega) 2 _) (by omega) 3 _) (by omega)⟩,⟨_,(((hr1.other hbr 0 _).other hbr 1 _).other hbr 2 _).other hbr 3 _,λ_=>by simp only;omega⟩,(((kp1.fresh (Ac _) 0 _).fresh (Ac _) 1 _).fresh (Ac _) 2 _).fresh (Ac _) 3 _⟩
     ·rw[if_neg hem]at HE;have hem2:q.2.1.isEmpty=false:=by rw[List.isEmpty_eq_false_iff];exact hem
      have HF:=hid (Kr ⟨q.2.1.toArray⟩ w1 (by unfold maxLen;omega));rw[show(⟨q.2.1.toArray⟩:By).data.toList=q.2.1 from rfl]at HF;have HD:Hid (s.data.toList.drop (k+u+q.2.2)=(s.data.toList.drop (k+u)).drop q.2.2):=by unfold Hid;rw[E2z]
      have HFL:Hid (∀n v,Pm.a1d q.2.1=some (n,v)->n.length<=500/\v.length<=500):=λn v h=>by
       have:=Zv h;omega
      clear x0 x1 x2 x3 y0 y1 y2 y3 hem hj
      cases hfd:Pm.a1d q.2.1 with
      |none=>
       rw[hfd]at HE HF;clear HFL;go_wp2_with fail;refine HF.out.mono ?_;rintro e w2 ⟨rfl,hb2⟩;clear HF;have rb2:=rb1.below hb2;have kp2:=kp1.trans (Kp.of hb2);have rd2:=hr1.below hb2;obtain⟨x0,x1,x2,x3⟩:=rb2.cells;have y0:=rb2.free 0;have y1:=rb2.free 1;have y2:=rb2.free 2;have y3:=rb2.free 3;have sz2:w.heap.size+2<=w2.heap.size:=Aj sz1 hb2.size;have szA:w.heap.size<w2.heap.size:=by omega
       unfold b0I;clear hb2 rb1 qb1 ow1 kp1 hr1 hfd;go_wp2
       try rw[Exit.noGoto_ret]
       refine Ae (v:=.tuple #[.agg #[.string ⟨#[]⟩,.string ⟨#[]⟩,.slice none 0 0,.string ⟨#[]⟩],.int .i64 3]) (by simp[results,results240,go_sem,x0,x1,x2,x3,szA]) rfl ?_;rw[HE.out];refine⟨⟨_,rfl,Am _ _ _ _⟩,⟨_,((((rd2.other hbr 0 _).other hbr 1 _).other hbr 2 _).other hbr 3 _).below (bA _ _),λh=>absurd h (by decide)⟩,((((kp2.fresh (Ac _) 0 _).fresh (Ac _) 1 _).fresh (Ac _) 2 _).fresh (Ac _) 3 _).trans (Kp.of (bA _ _))⟩
      |some fl=>
       obtain⟨fn,fv⟩:=fl;rw[hfd]at HE HF;obtain⟨e1,e2⟩:=HFL.out fn fv hfd;have hn1:(⟨fn.toArray⟩:By).size<=281474976710656:=by simp[ByteArray.size];omega
       have hv1:(⟨fv.toArray⟩:By).size<=281474976710656:=by simp[ByteArray.size];omega
       clear HFL e1 e2;go_wp2_with fail;refine HF.out.mono ?_;rintro e w2 ⟨rfl,hb2⟩;clear HF;have rb2:=rb1.below hb2;have qb2:=qb1.below hb2;have ow2:=Be ow1 hb2;have kp2:=kp1.trans (Kp.of hb2);have rd2:=hr1.below hb2;have sz2:w.heap.size+2<=w2.heap.size:=Aj sz1 hb2.size;have szA:w.heap.size<w2.heap.size:=by omega
       have szB:w.heap.size+1<w2.heap.size:=by omega
       obtain⟨z0,z1,z2,z3⟩:=qb2.cells;have v2:=qb2.free 2;unfold b0I;clear hb2 rb1 qb1 ow1 kp1 hr1 hfd sz1;go_wp2
       go_region_law
        (first|(refine step_append_lies _ (by rfl) _ _ _ (by rfl) (w.heap.size+2) 131 i0 _ 2 32 underlying45 hi hz0 hz1 hz2 rfl (by omega) (.slice av nv cv) fs.length (Ih fs) (by rfl) ((Be ((ow2.alloc _).drew) hb3).alloc _) ⟨w3.heap.size,0,none⟩ 1 1 [.string ⟨fn.toArray⟩,.string ⟨fv.toArray⟩] (by rfl) (by rfl) (World.news_of_block (cs:=#[.string ⟨fn.toArray⟩,.string ⟨fv.toArray⟩]) (t:=131) (fr:=(0,0)) (Ag w3 _)) (by simp[Value.oneCell']) (by omega) (by unfold maxLen;omega) (by omega) (Aj (show w.heap.size+2<=w3.heap.size from s3) (by simp)) (w3.heap.size+1) (by simp) ?_;intro gg cap w4 hown4 hgrow hat hlt;have qb4:=((((qb2.below (bA _ _)).below (Ad _ _).drew).below hb3).below (bA _ _)).grown hgrow (Hh ow2 (by omega));obtain⟨_,_,q42,_⟩:=qb4.cells;have q4f:=qb4.free 2;have g0:=Ez hgrow (Hu k0) (Sj ow2 (Ac _));have g1:=Ez hgrow (Hu k1) (Sj ow2 (Ac _)))|(go_simp;go_at_call 262;refine(a8M _ _ _ hn1 hv1).mono ?_;rintro e w3 ⟨rfl,hb3⟩;have s3:=b4E szB hb3;have k0:=Aa hb3 (a:=⟨w2.heap.size,0,none⟩) (v:=.string ⟨fn.toArray⟩) (by simp);have k1:=Aa hb3 (a:=⟨w2.heap.size,1,none⟩) (v:=.string ⟨fv.toArray⟩) (by simp);have k2:=(((qb2.below (bA _ _)).below (Ad _ _).drew).below hb3).cells.2.2.1))
       all_goals
        go_wp2
        go_roundg f
        case measure=>omega
        case rel=>
         have hA:=bA w2 (.cells #[.string ⟨fn.toArray⟩,.string ⟨fv.toArray⟩] 131);have hC:=Bc hA.drew hb3;have hE5:=Bc hC (bA w3 (.cells #[.string ⟨fn.toArray⟩,.string ⟨fv.toArray⟩] 131));refine⟨jn+1,u+q.2.2,m,t,fs++[(fn,fv)],.slice (some ⟨gg,0,none⟩) (fs.length+1) cap,by go_num,?_⟩;refine{u1:=by omega,g1:=by omega,k1:=by omega,j1:=by omega,n1:=by simp;omega,eq:=?_,rd:=?_,rb:=?_,qb:=qb4.set2 _,ow:=?_,sz:=?_,kp:=?_}
         ·rw[HH.out,HE.out,show k+(u+q.2.2)=k+u+q.2.2 from by omega,HD.out,show hd-(u+q.2.2)=hd-u-q.2.2 from by omega];rfl
         ·rw[show k+(u+q.2.2)=k+u+q.2.2 from by omega];exact((rd2.below hE5).grown hgrow (Hh ow2 (by omega))).other hbq 2 _
         ·exact((rb2.below hE5).grown hgrow (Hh ow2 (by omega))).other (by omega) 2 _
         ·rw[Vr,A0z];exact Di hown4 (by omega) 2 _
         ·have h1:=hgrow.size;have h2:(w3.alloc (.cells #[.string ⟨fn.toArray⟩,.string ⟨fv.toArray⟩] 131)).heap.size=w3.heap.size+1:=by simp
          have h3:(w4.setCell ⟨w.heap.size+1,2,none⟩ (.slice (some ⟨gg,0,none⟩) (fs.length+1) cap)).heap.size=w4.heap.size:=by simp
          omega
         ·exact((kp2.trans (Kp.of hE5)).grown hgrow (λr hr=>by have:=Bx ow2 r hr;omega)).fresh (by omega) 2 _
   ·rw[if_pos h0]at HE;have hne:(q.1 != 0)=true:=by rw[bne_iff_ne];exact h0
    clear h0 hls;go_wp2
    try rw[Exit.noGoto_ret]
    refine Ae (v:=.tuple #[.agg #[.string ⟨#[]⟩,.string ⟨#[]⟩,.slice none 0 0,.string ⟨#[]⟩],.int .i64 q.1]) (by simp[results,results240,go_sem,x0,x1,x2,x3]) rfl ?_;rw[HE.out];have hbr:b≠w.heap.size:=by omega
    exact⟨⟨_,rfl,Am _ _ _ _⟩,⟨_,(((hr1.other hbr 0 _).other hbr 1 _).other hbr 2 _).other hbr 3 _,λh=>absurd h (by simpa[Pm.a1n]using hne)⟩,(((kp1.fresh (Ac _) 0 _).fresh (Ac _) 1 _).fresh (Ac _) 2 _).fresh (Ac _) 3 _⟩
end Go.Proofs.YtbiggccolpchcaaGreatDoor
