/- Joined. -/
import Derived.Test.YtbiggccolpchcaaGreatDoorJoin14
import Derived.Test.YtbiggccolpchcaaGreatDoorRhE
set_option maxRecDepth 100000
set_option maxHeartbeats 2000000
namespace Go.Proofs.YtbiggccolpchcaaGreatDoor
open Go.RowKit _root_.Go.Proofs.Tryz
theorem b9R(hd bd:Int)(rs:List Rt)(ws:List Wr)(ar:Oa)(cr:Nat)(aw:Oa)(cw:Nat)(mx:Int)(w:World)(hR:Da 6 Rt.cells rs ar w)(hW:Da 4 Wr.cells ws aw w)(hro:∀r∈rs,RtOk r)(hwo:∀x∈ws,x.n.size<=281474976710656/\x.v.size<=281474976710656)(hm:w.cell? ⟨0,0,none⟩=some (.int .i64 mx)):
  Calls prog 144 #[.agg #[.int .i64 hd,.int .i64 bd,.slice ar rs.length cr,.slice aw ws.length cw]] w (Ia rs ws (Et hd bd rs ws) w):=by
 unfold Et
 cases h:decide (32<=hd/\hd<=500/\0<=bd/\bd<=200)
 ·rw[if_pos rfl];exact(b9J hd bd ar rs.length cr aw ws.length cw w h).mono λx w' ⟨h1,h2⟩=>Ia.err h1 (by simp) h2
 ·rw[if_neg (by simp)];by_cases hf:24<rs.length\/6<ws.length
  ·rw[if_pos hf];exact(b4W hd bd ar rs.length cr aw ws.length cw w h hf).mono λx w' ⟨h1,h2⟩=>Ia.err h1 (by simp) h2
  ·rw[if_neg hf];exact b4X hd bd rs ws ar cr aw cw mx w h (by omega) (by omega) hR hW hro hwo hm
theorem a5X(l:L8)(es:List Ent):Gb l (es.map Ent.bare)=Gb l es:=by
 unfold Gb
 induction es with
 |nil=>rfl
 |cons e r ih=>
  rw[B1z,List.filter_cons,List.filter_cons];have:(Cj e.bare.ps (l.drop 1) true []).isSome=(Cj e.ps (l.drop 1) true []).isSome:=rfl;rw[this]
  split
  ·rw[B1z,B1z,ih];rfl
  ·exact ih
theorem b1L(l:L8)(es:List Ent):Fd l (es.map Ent.bare)=Fd l es:=by
 unfold Fd Cu;rw[a5X]
theorem b5O(m l:L8)(es:List Ent):otG m l (es.map Ent.bare)=otG m l es:=by
 unfold otG;rw[Sw]
theorem Mb(m t:L8)(es:List Ent):Eu m t (es.map Ent.bare)=Eu m t es:=by
 unfold Eu;rw[Sw,b5O,b1L]
theorem a1N(K:Nat)(sep:L8):∀(l:List (List UInt8)),(∀x∈l,x.length<=K)->(Lib.join l sep).length<=l.length*(K+sep.length)
 |[],_=>by simp[Lib.join,List.intercalate]
 |[x],h=>by
  have:=h x (by simp);simp[Lib.join,List.intercalate];omega
 |x::y::r,h=>by
  have hx:=h x (by simp);have ih:=a1N K sep (y::r) (λz hz=>h z (by simp[hz]));have e:Lib.join (x::y::r) sep=x++(sep++Lib.join (y::r) sep):=by simp[Lib.join,List.intercalate,List.intersperse]
  rw[e];simp only[A0z,A9z]at ih ⊢;rw[F0z];omega
theorem a8Z{l x:L8}{es:List Ent}(h:x∈Fd l es):x=hdL\/∃e∈es,x=e.m.data.toList:=by
 have key:∀y,y∈Cu l es->∃e∈es,y=e.m.data.toList:=λy hy=>by
  unfold Cu srt at hy;rw[List.mem_mergeSort,E5z]at hy;obtain⟨b,hb,rfl⟩:=hy;unfold Gb at hb;rw[E5z]at hb;obtain⟨e,he,rfl⟩:=hb;exact⟨e,(List.mem_filter.1 he).1,rfl⟩
 unfold Fd at h
 split at h
 ·unfold srt at h;rw[List.mem_mergeSort,D3z]at h;rcases h with h|h
  ·exact .inr (key x h)
  ·exact .inl (by simpa using h)
 ·exact .inr (key x h)
theorem a1O(l:L8)(es:List Ent)(h:∀e∈es,e.m.size<=1000)(hf:es.length<=24):(Lib.join (Fd l es) [44,32]).length<=100000:=by
 have h1:=a1N 1000 [44,32] (Fd l es) (λx hx=>by
  rcases a8Z hx with rfl|⟨e,he,rfl⟩
  ·decide
  ·have:=h e he;have e2:e.m.data.toList.length=e.m.size:=by simp
   omega)
 have h2:=a0Z l es;have h3:(Fd l es).length<=25:=by omega
 have h4:(Fd l es).length*(1000+[44,32].length)<=25*(1000+[44,32].length):=D1z _ h3;simp at h4 h1;omega
theorem Nw:∀(rs:List Rt) (es:List Ent) (k:Nat),(Ge rs es k).2=0->∀r∈rs,Pm.a1x r.m.data.toList=true
 |[],_,_,_,r,hr=>absurd hr (by simp)
 |r::rs,es,k,h,q,hq=>by
  rw[Ge]at h;by_cases h0:rtE es r=0
  ·rw[if_pos h0]at h;rcases List.mem_cons.1 hq with rfl|hq
   ·exact(b4U (.inl h0)).1
   ·exact Nw rs _ _ h q hq
  ·rw[if_neg h0]at h;exact absurd h h0
theorem Iv{hd bd:Int}{rs:List Rt}{ws:List Wr}(h:(Et hd bd rs ws).2=0):rs.length<=24/\ws.length<=6/\(Ge rs [] 0).2=0/\(Ml ws 0).2=0:=by
 unfold Et at h;by_cases h1:decide (32<=hd/\hd<=500/\0<=bd/\bd<=200)=false
 ·rw[if_pos h1]at h;simp at h
 ·rw[if_neg h1]at h;by_cases h2:24<rs.length\/6<ws.length
  ·rw[if_pos h2]at h;simp at h
  ·rw[if_neg h2]at h;by_cases h3:(Ge rs [] 0).2=0
   ·rw[if_pos h3]at h;exact⟨by omega,by omega,h3,h⟩
   ·rw[if_neg h3]at h;exact absurd h h3
def pdG(hd bd:Int)(rs:List Rt)(ws:List Wr)(m t:L8):DsR:=
 if(Et hd bd rs ws).2=0 then Eu m t (rs.map Cd)else⟨0,0,[],[],[],(Et hd bd rs ws).2⟩
theorem Nx(gs B:Nat)(es:List Ent)(v:Value)(m t:By)(w:World)(hT:TbAt gs 0 B es v w)(hm:m.size<=maxLen)(ht:t.size<=140737488350000)(hj:(Lib.join (Fd (Pm.ahead 63 t.data.toList) es) [44,32]).length<=140737488355328):
  Calls prog 145 #[.pointer (some ⟨gs,0,none⟩),.string m,.string t] w (Xn (Eu m.data.toList t.data.toList es) w):=by
 by_cases h:Pm.a1x m.data.toList=false\/Pm.a2a t.data.toList=false
 ·have e:Eu m.data.toList t.data.toList es=⟨0,0,[],[],[],3⟩:=if_pos h;rw[e];exact Xo _ m t w hm (by omega) h
 ·have h1:Pm.a1x m.data.toList=true:=by cases q:Pm.a1x m.data.toList;exact absurd (.inl q) h;rfl
  have h2:Pm.a2a t.data.toList=true:=by cases q:Pm.a2a t.data.toList;exact absurd (.inr q) h;rfl
  exact a1A gs B es v m t w hT hm ht h1 h2 hj
theorem Pj{gs B:Nat}{es:List Ent}{hs:List Hn}{ws:List Wr}{v vh vw:Value}{w:World}{rs:List Rt}(l:L8)(hS:StI gs B es hs ws v vh vw w)(he:es.map Ent.bare=rs.map Cd)(hr:(Ge rs [] 0).2=0):(Lib.join (Fd l es) [44,32]).length<=100000:=by
 refine a1O l es (λe hme=>?_) hS.tb.few;have h1:e.bare∈rs.map Cd:=by rw[<-he];exact List.mem_map.2 ⟨e,hme,rfl⟩
 obtain⟨r,hr1,hr2⟩:=List.mem_map.1 h1;have h3:e.m=r.m:=by have:=congrArg Ent.m hr2;simpa[Cd,Ent.bare]using this.symm
 rw[h3];exact Gs (Nw rs [] 0 hr r hr1)
structure An where
 st:Int
 fs:List Prm
 b:By
def stG(n:L8):List Prm->By
 |[]=>⟨#[]⟩
 |p::r=>if p.1.data.toList=n then p.2 else stG n r
def Ew(h:Hn)(qb:By)(ps:List Prm):Option An:=
 if h.k=0 then some ⟨h.st,[],h.t⟩else if h.k=1 then some ⟨h.st,[],qb⟩else if h.k=2 then some ⟨h.st,[],stG h.n.data.toList ps⟩else if h.k=3 then some ⟨h.st,[(h.t,stG h.n.data.toList ps)],⟨#[]⟩⟩else none
def Id:By:=⟨#[115,97,118,101,100]⟩
def Eh(x:Wr)(qf:List Prm)(qb:By)(G:Option An):Option An:=
 if x.k=0 then G.map λa=>⟨a.st,a.fs++[(x.n,x.v)],a.b⟩
 else if x.k=1 then(if x.v.data.toList∈(Bf qf x.n.data.toList).map (λb=>b.data.toList)then G else some ⟨403,[],⟨#[]⟩⟩)
 else if x.k=2 then(if x.lim<(qb.size:Int)then some ⟨413,[],⟨#[]⟩⟩else G)
 else if x.k=3 then(match G with
  |none=>some ⟨500,[],Id⟩
  |some a=>some a)
 else if x.k=4 then G.map λa=>⟨a.st,a.fs++(Bf qf x.n.data.toList).map (λv=>(x.n,v)),a.b⟩
 else G
def Ld(qf:List Prm)(qb:By)(h:Hn)(ps:List Prm):List Wr->Option An
 |[]=>Ew h qb ps
 |x::r=>Eh x qf qb (Ld qf qb h ps r)
def AnB(g:Nat)(st:Int)(vv:Value)(b:By)(cl:Bool)(w:World):Prop:=w.heap[g]?=some (.cells #[.int .i64 st,vv,.string b,.bool cl] 49 (0,0))
theorem AnB.cells{g:Nat}{st:Int}{vv:Value}{b:By}{cl:Bool}{w:World}(h:AnB g st vv b cl w):w.cell? ⟨g,0,none⟩=some (.int .i64 st)/\w.cell? ⟨g,1,none⟩=some vv/\w.cell? ⟨g,2,none⟩=some (.string b)/\w.cell? ⟨g,3,none⟩=some (.bool cl):=by
 refine⟨?_,?_,?_,?_⟩<;>(rw[Ab h];rfl)
theorem AnB.free{g:Nat}{st:Int}{vv:Value}{b:By}{cl:Bool}{w:World}(h:AnB g st vv b cl w)(j:Nat):w.frozen? ⟨g,j,none⟩=false:=Ai h j
theorem AnB.lt{g:Nat}{st:Int}{vv:Value}{b:By}{cl:Bool}{w:World}(h:AnB g st vv b cl w):g<w.heap.size:=Ap h.cells.1
theorem AnB.below{g:Nat}{st:Int}{vv:Value}{b:By}{cl:Bool}{w w':World}(h:AnB g st vv b cl w)(hb:Bw w w'):AnB g st vv b cl w':=by
 have:=hb.block g h.lt;unfold AnB at *;rw[this];exact h
def setA(g:Nat)(st:Int)(vv:Value)(b:By)(cl:Bool)(w:World):World:=(((w.setCell ⟨g,0,none⟩ (.int .i64 st)).setCell ⟨g,1,none⟩ vv).setCell ⟨g,2,none⟩ (.string b)).setCell ⟨g,3,none⟩ (.bool cl)
theorem AnB.set{g:Nat}{st:Int}{vv:Value}{b:By}{cl:Bool}{w:World}(h:AnB g st vv b cl w)(st':Int)(vv':Value)(b':By)(cl':Bool):AnB g st' vv' b' cl' (setA g st' vv' b' cl' w):=by
 unfold AnB setA at *
 rw[heap_setCell_same _ g 3 _ _ _ (heap_setCell_same _ g 2 _ _ _ (heap_setCell_same _ g 1 _ _ _ (heap_setCell_same _ g 0 _ _ _ h)))];rfl
theorem Bm{g B:Nat}{st:Int}{vv:Value}{b:By}{cl:Bool}{w w':World}(h:Below B w w')(hB:B<=g):Below B w (setA g st vv b cl w'):=
 (((h.setCell hB _).setCell hB _).setCell hB _).setCell hB _
theorem Cg{g B:Nat}{e:TypeId}{sz n:Nat}{v:Value}{xs:List Value}{st:Int}{vv:Value}{b:By}{cl:Bool}{w:World}(h:w.ownsRow B e sz v n xs)(hn:v.ownBlock≠some g):(setA g st vv b cl w).ownsRow B e sz v n xs:=
 Bv (Bv (Bv (Bv h hn 0 _) hn 1 _) hn 2 _) hn 3 _
structure Rn where
 qm:By
 qt:By
 qb:By
 fs:List Prm
 fa:Oa
 fc:Nat
 ps:List Prm
 pa:Oa
 pc:Nat
 h:Hn
def Rn.vals(r:Rn):Array Value:=#[.string r.qm,.string r.qt,.slice r.fa r.fs.length r.fc,.string r.qb,.slice r.pa r.ps.length r.pc,.int .i64 r.h.k,.int .i64 r.h.st,.string r.h.t,.string r.h.n]
structure RnAt(r:Rn)(w:World):Prop where
 f:Df r.fs r.fa w
 p:Df r.ps r.pa w
 nf:r.fs.length<=1000000
 np:r.ps.length<=1000000
 zf:∀i (h:i<r.fs.length),r.fs[i].1.size<=maxLen
theorem RnAt.below{r:Rn}{w w':World}(h:RnAt r w)(hb:Bw w w'):RnAt r w':=⟨h.f.below hb,h.p.below hb,h.nf,h.np,h.zf⟩
def RnB(g:Nat)(r:Rn)(w:World):Prop:=w.heap[g]?=some (.cells r.vals 330 (0,0))
theorem RnB.cells{g:Nat}{r:Rn}{w:World}(h:RnB g r w):w.cell? ⟨g,0,none⟩=some (.string r.qm)/\w.cell? ⟨g,1,none⟩=some (.string r.qt)/\w.cell? ⟨g,2,none⟩=some (.slice r.fa r.fs.length r.fc)/\w.cell? ⟨g,3,none⟩=some (.string r.qb)/\w.cell? ⟨g,4,none⟩=some (.slice r.pa r.ps.length r.pc)/\w.cell? ⟨g,5,none⟩=some (.int .i64 r.h.k)/\w.cell? ⟨g,6,none⟩=some (.int .i64 r.h.st)/\w.cell? ⟨g,7,none⟩=some (.string r.h.t)/\w.cell? ⟨g,8,none⟩=some (.string r.h.n):=by
 refine⟨?_,?_,?_,?_,?_,?_,?_,?_,?_⟩<;>(rw[Ab h];rfl)
theorem RnB.lt{g:Nat}{r:Rn}{w:World}(h:RnB g r w):g<w.heap.size:=Ap h.cells.1
theorem RnB.below{g:Nat}{r:Rn}{w w':World}(h:RnB g r w)(hb:Bw w w'):RnB g r w':=by
 have:=hb.block g h.lt;unfold RnB at *;rw[this];exact h
theorem b1M(r:Rn)(n:By)(w:World)(hr:RnAt r w):
  Calls prog 350 #[.agg r.vals,.string n] w λx w'=>x=.returned (.string (stG n.data.toList r.ps))/\Bw w w':=by
 have hA:=bA w (.cells r.vals 330);have hg:RnB w.heap.size r (w.alloc (.cells r.vals 330)):=Ag w _;have HP:=hid hr.p;have hnp:=hr.np;generalize hRES:stG n.data.toList r.ps=RES;have HRES:Hid (stG n.data.toList (r.ps.drop 0)=RES):=hRES;obtain⟨c0,c1,c2,c3,c4,c5,c6,c7,c8⟩:=hg.cells;have l0:=hg.lt;clear hr hg hRES;obtain⟨qm,qt,qb,fs,fa,fc,ps,pa,pc,h⟩:=r;simp only[Rn.vals]at *
 go_enter func350,ntmps350;go_wp2_with fail;generalize w.alloc (.cells #[.string qm,.string qt,.slice fa fs.length fc,.string qb,.slice pa ps.length pc,.int .i64 h.k,.int .i64 h.st,.string h.t,.string h.n] 330)=w1 at *
 clear c0 c1 c2 c3 c4 c5 c6 c7 c8
 go_loopw [10] (λi wr=>∃k:Nat,k<=ps.length/\i=.int .i64 k/\Hid (stG n.data.toList (ps.drop k)=RES)/\Bw w wr) (λi _=>ps.length-(intOf i).toNat)
 case atStart=>exact⟨0,Ah _,rfl,HRES,hA⟩
 case round=>
  obtain⟨k,hk,rfl,HK,hbw⟩:=hrel;by_cases hlt:k<ps.length
  ·obtain⟨g,rfl,hg,hc1,hc2⟩:=(HP.out.below hbw) k hlt;have hs:=HK.out;rw[<-Ax hlt,stG]at hs;have HS:=hid hs;generalize ps[k]=p at *
   obtain⟨pn,pv⟩:=p;simp only at hc1 hc2 HS;have hbe:=Fi pn n;have hB:=hbw.alloc hbw.size (.cells #[.string pn,.string pv] 129);clear hs HK HRES;by_cases he:pn.data.toList=n.data.toList
   ·have hs:=HS.out;rw[if_pos he]at hs;subst hs;rw[Ak he]at hbe;clear HS;go_wp2_with fail;go_ret;exact⟨rfl,hB⟩
   ·have hs:=HS.out;rw[if_neg he]at hs;have HS2:=hid hs;rw[Ao he]at hbe;clear HS hs;go_wp2_with fail;exact⟨⟨k+1,by omega,by go_num,HS2,hB⟩,by simp[intOf];omega⟩
  ·have hne:¬(k:Int)<(ps.length:Int):=by omega
   have hs:=HK.out;rw[Az (by omega),stG]at hs;subst hs;clear HK HRES;go_wp2_with fail;go_ret;exact⟨rfl,hbw⟩
def Le:By:=⟨#[99,108,111,115,101]⟩
theorem a5Y(x:By)(w:World)(hx:x.size<=maxLen):
  Calls prog 261 #[.string x] w λe w'=>e=.returned (.bool (Pm.a0d x.data.toList Le.data.toList))/\Bw w w':=by
 have HC:=hid (Ek x Le w hx);unfold Le at HC;unfold Le;generalize Pm.a0d x.data.toList (ByteArray.mk #[99,108,111,115,101]).data.toList=B at *
 go_enter func261,ntmps261;go_wp2_with (go_at_call 246;refine HC.out.mono ?_;rintro e w1 ⟨rfl,hb1⟩);go_ret;exact⟨rfl,hb1⟩
theorem b1N(l:List By)(a:Oa)(c:Nat)(p:By->Bool)(w:World)(h:Dg l a w)(hl:l.length<=1000000)(HP:∀W i (hi:i<l.length),Bw w W->Calls prog 261 #[.string l[i]] W λe w'=>e=.returned (.bool (p l[i]))/\Bw W w'):
  Calls prog 312 #[.slice a l.length c,.func (.func 261) #[] #[]] w λe w'=>(∃k:Int,e=.returned (.int .i64 k)/\decide (0<=k)=l.any p/\-1<=k/\k<=1000000)/\Bw w w':=by
 have HS:=hid h;have HPP:=hid HP;have HD:=hid (show(l.drop 0).any p=l.any p by rw[D6z]);clear h HP;go_enter func312,ntmps312;go_wp2_with fail
 go_loopw [8] (λi wr=>∃k:Nat,k<=l.length/\i=.int .i64 k/\Hid ((l.drop k).any p=l.any p)/\Bw w wr) (λi _=>l.length-(intOf i).toNat)
 case atStart=>exact⟨0,Ah _,rfl,HD,Ad _ _⟩
 case round=>
  obtain⟨k,hk,rfl,HK,hbw⟩:=hrel;by_cases hlt:k<l.length
  ·obtain⟨g,rfl,hg,hc⟩:=(HS.out.below hbw) k hlt;have HC:=hid (HPP.out wr k hlt hbw);have hs:=HK.out;rw[<-Ax hlt,List.any_cons]at hs;have HN:=hid hs;generalize l[k]=x at *
   clear hs HK
   cases hp:p x
   ·have e:=HN.out;rw[hp,D8z]at e;have HE:=hid e;rw[hp]at HC;clear e HN;go_wp2_with (go_at_call 261;refine HC.out.mono ?_;rintro e w1 ⟨rfl,hb1⟩);exact⟨⟨k+1,by omega,by go_num,HE,Bc hbw hb1⟩,by simp[intOf];omega⟩
   ·have e:=HN.out;rw[hp,D5z]at e;have HE:=hid e;rw[hp]at HC;clear e HN;go_wp2_with (go_at_call 261;refine HC.out.mono ?_;rintro e w1 ⟨rfl,hb1⟩);go_ret;exact⟨⟨k,rfl,by rw[<-HE.out];simp,by omega,by omega⟩,Bc hbw hb1⟩
  ·have e:=HK.out;rw[List.drop_of_length_le (by omega),List.any_nil]at e;have HE:=hid e;clear e HK;have hne:¬(k:Int)<(l.length:Int):=by omega
   go_wp2_with fail;go_ret;exact⟨⟨-1,rfl,by rw[<-HE.out];simp,by omega,by omega⟩,hbw⟩
theorem Xt(l:List By)(a:Oa)(c:Nat)(p:By->Bool)(w:World)(h:Dg l a w)(hl:l.length<=1000000)(HP:∀W i (hi:i<l.length),Bw w W->Calls prog 261 #[.string l[i]] W λe w'=>e=.returned (.bool (p l[i]))/\Bw W w'):
  Calls prog 259 #[.slice a l.length c,.func (.func 261) #[] #[]] w λe w'=>e=.returned (.bool (l.any p))/\Bw w w':=by
 have HI:=hid (b1N l a c p w h hl HP);generalize l.any p=B at *
 clear h HP;go_enter func259,ntmps259;go_wp2_with (go_at_call 312;refine HI.out.mono ?_;rintro e w1 ⟨⟨k,rfl,hk,h1,h2⟩,hb1⟩);go_ret;refine⟨?_,hb1⟩
 first
  |(subst hk;rfl)
  |(subst hk;congr 2;simp)
def Mq:By:=⟨#[67,111,110,110,101,99,116,105,111,110]⟩
def Re(fs:List Prm):Bool:=(Bf fs Mq.data.toList).any λx=>Pm.a0d x.data.toList Le.data.toList
theorem b5P(qm qt qb:By)(fs:List Prm)(fa:Oa)(fc:Nat)(w:World)(hf:Df fs fa w)(hl:fs.length<=1000000)(hz:∀i (h:i<fs.length),fs[i].1.size<=maxLen)(hz2:∀x∈Bf fs Mq.data.toList,x.size<=maxLen):
  Calls prog 215 #[.agg #[.string qm,.string qt,.slice fa fs.length fc,.string qb]] w λe w'=>e=.returned (.bool (Re fs))/\Bw w w':=by
 have hA:=bA w (.cells #[.string qm,.string qt,.slice fa fs.length fc,.string qb] 47);have HV:=hid (Hw fs fa fc Mq _ (hf.below hA) hl hz);have hvl:(Bf fs Mq.data.toList).length<=1000000:=Aj (Co _ _) hl;unfold Re;generalize Bf fs Mq.data.toList=vs at *
 have HC:=hid (λ(va:Oa) (vc:Nat) (W:World) (hs:Dg vs va W)=>Xt vs va vc (λx=>Pm.a0d x.data.toList Le.data.toList) W hs hvl (λV i hi _=>a5Y vs[i] V (hz2 _ (As hi))));generalize (vs.any λx=>Pm.a0d x.data.toList Le.data.toList)=B at *
 unfold Mq at HV;clear hf hz hz2;go_enter func215,ntmps215;go_wp2_with (first
  |(go_at_call 260;refine HV.out.mono ?_;rintro e w1 ⟨⟨va,vc,rfl,hs⟩,hb1⟩;have HQ:=hid (HC.out va vc w1 hs);clear hs)
  |(go_at_call 259;refine HQ.out.mono ?_;rintro e w2 ⟨rfl,hb2⟩))
 go_ret;exact⟨rfl,Bc hA (Bc hb1 hb2)⟩
theorem b5Q{w:World}{B:Nat}{e:TypeId}{v:Value}{ps:List Prm}(h:w.ownsRow B e 2 v ps.length (Bg ps)):∃a cap,v=.slice a ps.length cap/\Df ps a w:=by
 have get:∀(fs:List Prm) (i:Nat) (h:i<fs.length),(Bg fs)[i*2]?=some (.string fs[i].1)/\(Bg fs)[i*2+1]?=some (.string fs[i].2):=by
  intro fs
  induction fs with
  |nil=>intro i h;simp at h
  |cons f fs ih=>
   intro i h;have e:Bg (f::fs)=(.string f.1)::(.string f.2)::Bg fs:=by simp[Bg]
   match i,h with
   |0,_=>rw[e];exact⟨rfl,rfl⟩
   |i+1,h=>
    have:=ih i (by simpa using h);rw[e,show(i+1)*2=i*2+1+1 from by omega,B6z,B6z,show i*2+1+1+1=(i*2+1)+1+1 from by omega,B6z,B6z];exact this
 obtain⟨h1,h2⟩:=h;rcases h2 with⟨h2,h3⟩|⟨g,cap,cur,hv,hB,hg,hc,hm,hsz,ht⟩
 ·refine⟨none,0,?_,λi hi=>?_⟩
  ·rw[h3];exact h2
  ·omega
 ·refine⟨some ⟨g,0,none⟩,cap,hv,λi hi=>⟨g,rfl,?_,?_,?_⟩⟩
  ·rcases B8z g w.heap.size with h'|h'
   ·exact h'
   ·simp[Array.getElem?_eq_none h']at hg
  all_goals
   obtain⟨m1,m2⟩:=get ps i hi;rw[<-ht,D0z]at m1 m2;rw[Ab hg]
  ·split at m1
   ·simpa using m1
   ·cases m1
  ·split at m2
   ·simpa using m2
   ·cases m2
theorem Lf{s:L8}{p:List (Int×By)}(h:Bo s=some p):p=(pcs s).map pcB/\Gt (pcs s)/\pcs s≠[]/\s.length<=64:=by
 have ht:((pcs s).map λx=>(⟨x.toArray⟩:By)).map (·.data.toList)=pcs s:=by rw[E6z];simp[Function.comp_def]
 by_cases hg:Wa s ((pcs s).map λx=>(⟨x.toArray⟩:By))
 ·have h2:=Ib ht hg;rw[h]at h2;obtain⟨g1,g2,g3⟩:=hg;exact⟨Option.some.inj h2,Qm ht g3,b5K g2,g1⟩
 ·rw[It ht hg]at h;cases h
theorem a5Z(s:By)(w:World)(hs:s.size<=4398046511104):
  Calls prog 104 #[.string s] w λr w'=>r=.returned (.bool (Bo s.data.toList).isSome)/\Bw w w':=by
 refine(Sy s w hs).mono ?_;rintro e w1 ⟨⟨b,ts,rfl,h1,hiff⟩,hb1⟩;have hsl:s.data.toList.length=s.size:=by simp
 refine⟨?_,hb1⟩
 cases b
 ·have hbad:¬Wa s.data.toList ts:=λh=>by
   have:=hiff.mpr (by unfold Wa at h;rw[hsl]at h;exact h)
   cases this
  rw[It h1 hbad];rfl
 ·obtain⟨g1,g2,g3⟩:=hiff.mp rfl;rw[Ib h1 ⟨by rw[hsl];exact g1,g2,g3⟩];rfl
theorem b5R(s t:By)(p q:List (Int×By))(w:World)(hs:Bo s.data.toList=some p)(ht:Bo t.data.toList=some q):
  Calls prog 105 #[.string s,.string t] w λr w'=>(∃b:By,r=.returned (.string b)/\b.toList.isEmpty=!(ovl p q))/\Bw w w':=by
 obtain⟨rfl,a2,a3,a4⟩:=Lf hs;obtain⟨rfl,b2,b3,b4⟩:=Lf ht;have hsl:s.data.toList.length=s.size:=by simp
 have htl:t.data.toList.length=t.size:=by simp
 rw[<-a1G a3 b3 a2 b2];exact a1M s t w (by omega) (by omega) a3 b3
theorem c1R(s t:By)(p:List (Int×By))(w:World)(hs:Bo s.data.toList=some p)(hp:Pm.a1z t.data.toList=true)(ht:t.size<=4398046511104):
  Calls prog 108 #[.string s,.string t] w λr w'=>a5K (Cj p (t.data.toList.drop 1) true []) w.heap.size r w'/\Bw w w':=by
 obtain⟨rfl,a2,a3,a4⟩:=Lf hs;have hsl:s.data.toList.length=s.size:=by simp
 rw[Th a2.1 hp];exact Ti s t w (by omega) ht
structure TrAt(gt B:Nat)(es:List Prm)(v:Value)(w:World):Prop where
 cel:w.cell? ⟨gt,0,none⟩=some v
 fre:w.frozen? ⟨gt,0,none⟩=false
 row:w.ownsRow B 179 2 v es.length (Bg es)
 own:v.ownBlock≠some gt
 few:es.length<=24
 pat:∀e∈es,(Bo e.2.data.toList).isSome=true
theorem TrAt.lt{gt B:Nat}{es:List Prm}{v:Value}{w:World}(h:TrAt gt B es v w):gt<w.heap.size:=Ap h.cel
theorem TrAt.below{gt B:Nat}{es:List Prm}{v:Value}{w w':World}(h:TrAt gt B es v w)(hb:Bw w w'):TrAt gt B es v w':=
 ⟨Aa hb h.cel,by rw[hb.frozen h.lt];exact h.fre,Be h.row hb,h.own,h.few,h.pat⟩
def Bz(e:Prm):Ent:=⟨e.1,(Bo e.2.data.toList).getD [],none,0⟩
theorem Vb(w:World):Calls prog 33 #[] w λr w'=>r=.returned (.pointer (some ⟨w.heap.size,0,none⟩))/\TrAt w.heap.size w.heap.size [] (.slice none 0 0) w'/\Bw w w'/\w'.heap.size=w.heap.size+1:=by
 have hb:=Ag w (.cells #[.slice none 0 0] 176);have HT:Hid (TrAt w.heap.size w.heap.size [] (.slice none 0 0) (w.alloc (.cells #[.slice none 0 0] 176))/\Bw w (w.alloc (.cells #[.slice none 0 0] 176))/\(w.alloc (.cells #[.slice none 0 0] 176)).heap.size=w.heap.size+1):=
  ⟨⟨by rw[Ab hb];rfl,Ai hb 0,Am _ _ _ _,(λh=>by cases h),by simp,λe he=>absurd he (by simp)⟩,bA _ _,by simp⟩
 clear hb;go_enter func33,ntmps33;go_wp2;go_ret;exact⟨rfl,HT.out.1,HT.out.2.1,HT.out.2.2⟩
def adE(m s:L8)(es:List Ent):Int×Int:=
 if Pm.a1x m=false then(0,1)else match Bo s with
  |none=>(0,8)
  |some p=>if 24<=es.length then(0,10)else match Fj m p es 0 with
   |some j=>((j:Nat),9)
   |none=>((es.length:Nat),0)
def CfB(g:Nat)(hd bd:Int)(vr vw:Value)(w:World):Prop:=w.heap[g]?=some (.cells #[.int .i64 hd,.int .i64 bd,vr,vw] 44 (0,0))
theorem CfB.cells{g:Nat}{hd bd:Int}{vr vw:Value}{w:World}(h:CfB g hd bd vr vw w):w.cell? ⟨g,0,none⟩=some (.int .i64 hd)/\w.cell? ⟨g,1,none⟩=some (.int .i64 bd)/\w.cell? ⟨g,2,none⟩=some vr/\w.cell? ⟨g,3,none⟩=some vw:=by
 refine⟨?_,?_,?_,?_⟩<;>(rw[Ab h];rfl)
theorem CfB.free{g:Nat}{hd bd:Int}{vr vw:Value}{w:World}(h:CfB g hd bd vr vw w)(j:Nat):w.frozen? ⟨g,j,none⟩=false:=Ai h j
theorem CfB.lt{g:Nat}{hd bd:Int}{vr vw:Value}{w:World}(h:CfB g hd bd vr vw w):g<w.heap.size:=Ap h.cells.1
theorem CfB.below{g:Nat}{hd bd:Int}{vr vw:Value}{w w':World}(h:CfB g hd bd vr vw w)(hb:Bw w w'):CfB g hd bd vr vw w':=by
 have:=hb.block g h.lt;unfold CfB at *;rw[this];exact h
def setC(g:Nat)(hd bd:Int)(vr vw:Value)(w:World):World:=(((w.setCell ⟨g,0,none⟩ (.int .i64 hd)).setCell ⟨g,1,none⟩ (.int .i64 bd)).setCell ⟨g,2,none⟩ vr).setCell ⟨g,3,none⟩ vw
theorem CfB.set{g:Nat}{hd bd:Int}{vr vw:Value}{w:World}(h:CfB g hd bd vr vw w)(hd' bd':Int)(vr' vw':Value):CfB g hd' bd' vr' vw' (setC g hd' bd' vr' vw' w):=by
 unfold CfB setC at *
 rw[heap_setCell_same _ g 3 _ _ _ (heap_setCell_same _ g 2 _ _ _ (heap_setCell_same _ g 1 _ _ _ (heap_setCell_same _ g 0 _ _ _ h)))];rfl
theorem a6A{g B:Nat}{hd bd:Int}{vr vw:Value}{w w':World}(h:Below B w w')(hB:B<=g):Below B w (setC g hd bd vr vw w'):=
 (((h.setCell hB _).setCell hB _).setCell hB _).setCell hB _
end Go.Proofs.YtbiggccolpchcaaGreatDoor
