/- Joined. -/
import Derived.Test.YtbiggccolpchcaaGreatDoorJoin12
set_option maxRecDepth 100000
set_option maxHeartbeats 8000000
namespace Go.Proofs.YtbiggccolpchcaaGreatDoor
open Go.RowKit _root_.Go.Proofs.Tryz
theorem c2G:(prog.info? 73).map (λi=>(i.zero,i.size,i.bytes))=some (some (.agg #[.int .i64 0,.int .i64 0,.string ⟨#[]⟩,.string ⟨#[]⟩]),4,48):=by kernel_rfl
theorem Ce{w:World}{B:Nat}{e:TypeId}{sz:Nat}{v:Value}{n:Nat}{xs:List Value}(h:w.ownsRow B e sz v n xs):∃a c,v=.slice a n c:=by
 rcases h.2 with⟨h2,h3⟩|⟨g,cap,cur,hv,_⟩
 ·exact⟨none,0,by rw[h3];exact h2⟩
 ·exact⟨_,_,hv⟩
theorem RtB.kept{g gt:Nat}{r:Rt}{v:Value}{w w':World}(h:RtB g r w)(hk:c4Q gt v w w')(h1:g≠gt)(h2:v.ownBlock≠some g):RtB g r w':=by
 have:=hk g h.lt h1 h2;unfold RtB at *;rw[this];exact h
def b9I(gs B:Nat)(es:List Ent)(hs:List Hn)(ws:List Wr)(vw:Value)(r:Rt)(p:List (Int×By))(w w':World):Prop:=
 (∃a c v' vh',StI gs B (es++[⟨r.m,p,a,c⟩]) (hs++[r.h]) ws v' vh' vw w')/\Below B w w'
def Ss(hb:Bool)(gs B:Nat)(es:List Ent)(hs:List Hn)(ws:List Wr)(vw:Value)(r:Rt)(p:List (Int×By))(w:World)(x:Ending)(w':World):Prop:=
 (hb=false->x=.returned (.int .i64 12)/\Below B w w')/\(hb=true->x=.returned (.int .i64 0)/\b9I gs B es hs ws vw r p w w')
theorem Ss.no{gs B:Nat}{es:List Ent}{hs:List Hn}{ws:List Wr}{vw:Value}{r:Rt}{p:List (Int×By)}{w w':World}{x:Ending}(h1:x=.returned (.int .i64 12))(h:Below B w w'):Ss false gs B es hs ws vw r p w x w':=⟨λ_=>⟨h1,h⟩,λe=>by cases e⟩
theorem Ss.yes{gs B:Nat}{es:List Ent}{hs:List Hn}{ws:List Wr}{vw:Value}{r:Rt}{p:List (Int×By)}{w w':World}{x:Ending}(h1:x=.returned (.int .i64 0))(h:b9I gs B es hs ws vw r p w w'):Ss true gs B es hs ws vw r p w x w':=⟨λe=>Bool.noConfusion e,λ_=>⟨h1,h⟩⟩
theorem b4V{gs B:Nat}{es:List Ent}{hs:List Hn}{ws:List Wr}{v' vw:Value}{r:Rt}{p:List (Int×By)}{w w3 W4 w5:World}{ah ea:Oa}{ch ec gg cap:Nat}
  (S3:StI gs B (es++[⟨r.m,p,ea,ec⟩]) hs ws v' (.slice ah hs.length ch) vw w3) (hb:Below B w w3) (hbE:Bw w3 W4) (hg:W4.grownBy w5 (Value.slice ah hs.length ch).ownBlock)
  (ho:w5.ownsRow B 73 4 (.slice (some ⟨gg,0,none⟩) (hs.length+1) cap) (hs.length+1) (hnC hs++r.h.cells)) (hat:(Value.slice ah hs.length ch).ownBlock=some gg\/W4.heap.size<=gg) (hB:B<=gs) (hBw:B<=w3.heap.size) :
  b9I gs B es hs ws vw r p w (w5.setCell ⟨gs,1,none⟩ (.slice (some ⟨gg,0,none⟩) (hs.length+1) cap)):=by
 have S4:=S3.below hbE;exact⟨⟨ea,ec,v',_,S4.hand hg ho hat⟩,(((hb.trans (hbE.mono hBw)).grown hg (Aj hBw hbE.size) (λk hk=>Bx S4.hr k hk)).setCell hB _)⟩
theorem a5L(gs B:Nat)(es:List Ent)(hs:List Hn)(ws:List Wr)(v vh vw:Value)(r:Rt)(mx:Int)(w:World)(hS:StI gs B es hs ws v vh vw w)(hr:RtOk r)(hm:w.cell? ⟨0,0,none⟩=some (.int .i64 mx))(hB:B<=gs)(hBw:B<=w.heap.size)(hl:hs.length<=1000)(p:List (Int×By))(hp:Bo r.p.data.toList=some p)(hme:Pm.a1x r.m.data.toList=true)(hf:es.length<24)(hno:Fj r.m.data.toList p es 0=none):
  Calls prog 198 #[.pointer (some ⟨gs,0,none⟩),r.agg] w (Ss (Jb r.h.k r.h.st r.h.t.data.toList) gs B es hs ws vw r p w):=by
 obtain⟨i0,hi,hz0,hz1,hz2⟩:=info_parts c2G;have lt0:=hS.tb.lt;obtain⟨ah,ch,rfl⟩:=Ce hS.hr;have HA:=hid (λW (hW:Bw w W)=>b4O gs 0 B es v r.m r.p p mx W (hS.tb.below hW) hme (Gs hme) hp (Pc hp) (by have:=Vw hp;omega) (Aa hW hm) hB (Aj hBw hW.size) hf hno);have HR:=hid (λW=>Ow r.h.k r.h.st r.h.t r.h.n W (by have:=hr.t;unfold maxLen;omega));have HC:=hid (λW=>Ox r.h.k r.h.st r.h.t r.h.n W hr.t hr.n);have hA:=bA w r.obj;have h1:RtB w.heap.size r (w.alloc r.obj):=Ag w _;have ltA:gs<(w.alloc r.obj).heap.size:=by simp;omega
 have HS:=hid hS;have hvl:=De hS.tb.row;have HRC:Hid (r.h.cells=[.int .i64 r.h.k,.int .i64 r.h.st,.string r.h.t,.string r.h.n]):=rfl;obtain⟨rm,rp,⟨hk,hst,ht,hn⟩⟩:=r;simp only[Rt.agg,Rt.obj]at *
 generalize hHB:Jb hk hst ht.data.toList=hb at *
 clear hS hm hr hHB;go_enter func198,ntmps198;go_upto_region 1 with fail;generalize w.alloc (.cells #[.string rm,.string rp,.int .i64 hk,.int .i64 hst,.string ht,.string hn] 75)=w1 at *
 obtain⟨c0,c1,c2,c3,c4,c5⟩:=h1.cells;have l1:=h1.lt;simp only at c0 c1 c2 c3 c4 c5;have hA1:=hA.drew;have R1:Hid (RtB w.heap.size ⟨rm,rp,⟨hk,hst,ht,hn⟩⟩ w1.drew):=h1;clear h1
 go_region_held3 (λW=>W.cell? ⟨w.heap.size,0,none⟩=some (.string rm)/\W.cell? ⟨w.heap.size,1,none⟩=some (.string rp)) (go_keep)
  (first|(go_at_call 102;refine(HA.out _ hA1).mono ?_;rintro x w2 ⟨rfl,had0⟩;have had:=hid had0;clear had0;have R2:=hid (R1.out.kept had.out.kp (by omega) (λe=>by have:=hvl _ e;omega));obtain⟨d0,d1,d2,d3,d4,d5⟩:=R2.out.cells;have l2:=R2.out.lt;simp only at d0 d1 d2 d3 d4 d5))
 all_goals
  obtain⟨ea,ec,v',S2⟩:=(HS.out.below hA1).added had.out;have hb2:=had.out.bl;have l2s:gs<w2.heap.size:=S2.tb.lt;clear c0 c1 c2 c3 c4 c5 l1 HA had R1;go_wp2_with fail;refine(HR.out _).mono ?_;rintro x w3 ⟨rfl,hb3⟩;have R3:=hid (R2.out.below hb3);have S3:=hid (S2.below hb3);have hBb:Below B w w3:=((hA1.mono hBw).trans hb2).trans (hb3.mono (Aj (Aj hBw hA1.size) hb2.size))
  cases hb
  ·clear HC S3 S2 R2 R3 HS;go_wp2_with fail;go_ret;exact Ss.no rfl hBb
  ·clear S2 R2 HS d0 d1 d2 d3 d4 d5;obtain⟨d0,d1,d2,d3,d4,d5⟩:=R3.out.cells;simp only at d0 d1 d2 d3 d4 d5;have l3:=R3.out.lt;have cel3:w3.cell? ⟨gs,1,none⟩=some (.slice ah hs.length ch):=by rw[Ab S3.out.blk];rfl
   have fre3:w3.frozen? ⟨gs,1,none⟩=false:=Ai S3.out.blk 1;have lt3:gs<w3.heap.size:=S3.out.tb.lt;have ow3:=S3.out.hr;have hnown:=S3.out.h1;have hBr:B<=w3.heap.size:=Aj hBw hBb.size;clear hb3 R3 l2 l2s;go_wp2_with fail
   go_region_law
    (first
     |(refine step_append_lies _ (by rfl) _ _ _ (by rfl) B 73 i0 _ 4 48 underlying285 hi hz0 hz1 hz2 rfl (by omega) (.slice ah hs.length ch) hs.length (hnC hs) (by rfl) ((Be ow3.drew hb4).alloc _) ⟨w4.heap.size,0,none⟩ 1 1 [.int .i64 hk,.int .i64 hst,.string ht,.string hn] (by rfl) (by rfl) (World.news_of_block (cs:=#[.int .i64 hk,.int .i64 hst,.string ht,.string hn]) (t:=73) (fr:=(0,0)) (Ag w4 _)) (by simp[Value.oneCell']) (by omega) (by unfold maxLen;omega) (by omega) (Aj (Aj hBr hb4.size) (by simp)) (w4.heap.size+1) (by simp) ?_;intro gg cap w5 hown5 hgrow hat hlt5;have c5:=Ez hgrow (Hu k4) hnown;have f5:w5.frozen? ⟨gs,1,none⟩=false:=Mu hgrow hb4 fre3 lt3 hnown;have l5:gs<w5.heap.size:=Af (Af lt3 hb4.size) (Aj (by simp) hgrow.size))
     |(go_simp;go_at_call 250;refine(HC.out _).mono ?_;rintro e w4 ⟨rfl,hb4⟩;have k4:=Aa hb4 (show w3.drew.cell? ⟨gs,1,none⟩=_ from cel3);have l4:gs<w4.heap.size:=Af lt3 hb4.size))
   all_goals
    have hE:Bw w3 (w4.alloc (.cells #[.int .i64 hk,.int .i64 hst,.string ht,.string hn] 73)):=(Bc (Ad w3.heap.size w3).drew hb4).alloc (Bc (Ad w3.heap.size w3).drew hb4).size _;have hAD:Hid (b9I gs B es hs ws vw ⟨rm,rp,⟨hk,hst,ht,hn⟩⟩ p w _):=b4V S3.out hBb hE hgrow hown5 (hat.imp_right (λh=>by rw[h];simp)) hB hBr;clear hE hgrow hown5 hat hlt5;go_wp2;go_ret;exact Ss.yes rfl hAD.out
def Ent.bare(e:Ent):Ent:=⟨e.m,e.ps,none,0⟩
def Cd(r:Rt):Ent:=⟨r.m,(Bo r.p.data.toList).getD [],none,0⟩
theorem Vx(m:L8)(p:List (Int×By)):∀(es:List Ent) (k:Nat),Fj m p (es.map Ent.bare) k=Fj m p es k
 |[],_=>rfl
 |e::r,k=>by
  rw[B1z,Fj,Fj,Vx m p r (k+1)];rfl
theorem a0U(es:List Ent)(r:Rt):rtE (es.map Ent.bare) r=rtE es r:=by
 unfold rtE;simp only[Vx,A8z]
def Ge:List Rt->List Ent->Nat->Nat×Int
 |[],_,_=>(0,0)
 |r::rs,es,k=>if rtE es r=0 then Ge rs (es++[Cd r]) (k+1)else(k,rtE es r)
def Ml:List Wr->Nat->Nat×Int
 |[],_=>(0,0)
 |x::xs,k=>if Jc x.k x.n.data.toList x.v.data.toList x.lim=true then Ml xs (k+1)else(k,13)
def Et(hd bd:Int)(rs:List Rt)(ws:List Wr):Nat×Int:=
 if decide (32<=hd/\hd<=500/\0<=bd/\bd<=200)=false then(0,1)else if 24<rs.length\/6<ws.length then(0,10)else if(Ge rs [] 0).2=0 then Ml ws 0 else Ge rs [] 0
def a5M(gs B:Nat)(es:List Ent)(hs:List Hn)(ws:List Wr)(vw:Value)(r:Rt)(w:World)(x:Ending)(w':World):Prop:=
 x=.returned (.int .i64 (rtE es r))/\Below B w w'/\(rtE es r=0->∃es' v' vh',es'.map Ent.bare=es.map Ent.bare++[Cd r]/\StI gs B es' (hs++[r.h]) ws v' vh' vw w')
theorem a0V(gs B:Nat)(es:List Ent)(hs:List Hn)(ws:List Wr)(v vh vw:Value)(r:Rt)(mx:Int)(w:World)(hS:StI gs B es hs ws v vh vw w)(hr:RtOk r)(hm:w.cell? ⟨0,0,none⟩=some (.int .i64 mx))(hB:B<=gs)(hBw:B<=w.heap.size)(hl:hs.length<=1000):
  Calls prog 198 #[.pointer (some ⟨gs,0,none⟩),r.agg] w (a5M gs B es hs ws vw r w):=by
 by_cases h:rtE es r=0\/rtE es r=12
 ·obtain⟨h1,p,h2,h3,h4,h5⟩:=b4U h;refine(a5L gs B es hs ws v vh vw r mx w hS hr hm hB hBw hl p h2 h1 h3 h4).mono ?_;rintro x w' ⟨k1,k2⟩
  cases hh:Jb r.h.k r.h.st r.h.t.data.toList
  ·have h12:rtE es r=12:=h.resolve_left (λe=>by have:=h5.1 e;rw[hh]at this;cases this);obtain⟨rfl,k⟩:=k1 hh;exact⟨by rw[h12],k,λe=>by omega⟩
  ·obtain⟨rfl,⟨a,c,v',vh',k⟩,k'⟩:=k2 hh;have h0:=h5.2 hh;refine⟨by rw[h0],k',λ_=>⟨_,v',vh',?_,k⟩⟩;rw[B2z];simp[Ent.bare,Cd,h2]
 ·have h0:rtE es r≠0:=λe=>h (.inl e);refine(a0S gs B es v r mx w hS.tb hr hm _ rfl h0 (λe=>h (.inr e))).mono ?_;rintro x w' ⟨rfl,k⟩;exact⟨rfl,k.mono hBw,λe=>absurd e h0⟩
theorem Np{rs:List Rt}{a:Oa}{w:World}(h:Da 6 Rt.cells rs a w){i:Nat}(hi:i<rs.length):∃g o,a=some ⟨g,o,none⟩/\g<w.heap.size/\w.cell? ⟨g,o+i*6,none⟩=some (.string rs[i].m)/\w.cell? ⟨g,o+i*6+1,none⟩=some (.string rs[i].p)/\w.cell? ⟨g,o+i*6+2,none⟩=some (.int .i64 rs[i].h.k)/\w.cell? ⟨g,o+i*6+3,none⟩=some (.int .i64 rs[i].h.st)/\w.cell? ⟨g,o+i*6+4,none⟩=some (.string rs[i].h.t)/\w.cell? ⟨g,o+i*6+5,none⟩=some (.string rs[i].h.n):=by
 obtain⟨g,o,h1,h2,h3⟩:=h i hi;exact⟨g,o,h1,h2,h3 0 _ rfl,h3 1 _ rfl,h3 2 _ rfl,h3 3 _ rfl,h3 4 _ rfl,h3 5 _ rfl⟩
theorem Ky{ws:List Wr}{a:Oa}{w:World}(h:Da 4 Wr.cells ws a w){i:Nat}(hi:i<ws.length):∃g o,a=some ⟨g,o,none⟩/\g<w.heap.size/\w.cell? ⟨g,o+i*4,none⟩=some (.int .i64 ws[i].k)/\w.cell? ⟨g,o+i*4+1,none⟩=some (.string ws[i].n)/\w.cell? ⟨g,o+i*4+2,none⟩=some (.string ws[i].v)/\w.cell? ⟨g,o+i*4+3,none⟩=some (.int .i64 ws[i].lim):=by
 obtain⟨g,o,h1,h2,h3⟩:=h i hi;exact⟨g,o,h1,h2,h3 0 _ rfl,h3 1 _ rfl,h3 2 _ rfl,h3 3 _ rfl⟩
theorem b9J(hd bd:Int)(ar:Oa)(n cr:Nat)(aw:Oa)(m cw:Nat)(w:World)(h:decide (32<=hd/\hd<=500/\0<=bd/\bd<=200)=false):
  Calls prog 144 #[.agg #[.int .i64 hd,.int .i64 bd,.slice ar n cr,.slice aw m cw]] w λx w'=>x=.returned (.tuple #[.pointer none,.int .i64 0,.int .i64 1])/\Bw w w':=by
 have HL:=hid (λW=>Ft hd bd W);rw[h]at HL;have hA:=bA w (.cells #[.int .i64 hd,.int .i64 bd,.slice ar n cr,.slice aw m cw] 44);clear h;go_enter func144,ntmps144;go_wp2_with fail;refine(HL.out _).mono ?_;rintro x w1 ⟨rfl,hb⟩;have hB:=Bc hA hb;go_wp2;refine Ae (v:=.tuple #[.pointer none,.int .i64 0,.int .i64 1]) (by simp[results,results144,go_sem]) rfl ?_;exact⟨rfl,hB⟩
theorem b4W(hd bd:Int)(ar:Oa)(n cr:Nat)(aw:Oa)(m cw:Nat)(w:World)(h:decide (32<=hd/\hd<=500/\0<=bd/\bd<=200)=true)(hf:24<n\/6<m):
  Calls prog 144 #[.agg #[.int .i64 hd,.int .i64 bd,.slice ar n cr,.slice aw m cw]] w λx w'=>x=.returned (.tuple #[.pointer none,.int .i64 0,.int .i64 10])/\Bw w w':=by
 have HL:=hid (λW=>Ft hd bd W);rw[h]at HL;have hA:=bA w (.cells #[.int .i64 hd,.int .i64 bd,.slice ar n cr,.slice aw m cw] 44);have hg:(w.alloc (.cells #[.int .i64 hd,.int .i64 bd,.slice ar n cr,.slice aw m cw] 44)).heap[w.heap.size]?=some _:=Ag w _;clear h;go_enter func144,ntmps144;go_wp2_with fail;refine(HL.out _).mono ?_;rintro x w1 ⟨rfl,hb⟩;have hB:=Bc hA hb;have c2:w1.cell? ⟨w.heap.size,2,none⟩=some (.slice ar n cr):=Aa hb (by rw[Ab hg];rfl);have c3:w1.cell? ⟨w.heap.size,3,none⟩=some (.slice aw m cw):=Aa hb (by rw[Ab hg];rfl);have l1:=Ap c2;clear hb hg hA HL;by_cases h24:24<n
 ·have h1:(24:Int)<(n:Int):=by omega
  go_wp2;refine Ae (v:=.tuple #[.pointer none,.int .i64 0,.int .i64 10]) (by simp[results,results144,go_sem]) rfl ?_;exact⟨rfl,hB⟩
 ·have h1:¬(24:Int)<(n:Int):=by omega
  have h2:(6:Int)<(m:Int):=by omega
  go_wp2;refine Ae (v:=.tuple #[.pointer none,.int .i64 0,.int .i64 10]) (by simp[results,results144,go_sem]) rfl ?_;exact⟨rfl,hB⟩
theorem c2H:(prog.info? 241).map (λi=>(i.zero,i.size,i.bytes))=some (some (.agg #[.int .i64 0,.string ⟨#[]⟩,.string ⟨#[]⟩,.int .i64 0]),4,48):=by kernel_rfl
theorem StI.empty(gs:Nat)(w:World)(h:w.heap[gs]?=some (.cells #[.slice none 0 0,.slice none 0 0,.slice none 0 0] 287 (0,0))):StI gs gs [] [] [] (.slice none 0 0) (.slice none 0 0) (.slice none 0 0) w:=
 ⟨h,⟨by rw[Ab h];rfl,Ai h 0,Am _ _ _ _,λi hi=>absurd hi (by simp),λi hi=>absurd hi (by simp),λi hi=>absurd hi (by simp),by simp[Value.ownBlock],by simp,λi hi=>absurd hi (by simp),λi hi=>absurd hi (by simp)⟩,Am _ _ _ _,Am _ _ _ _,by simp[Value.ownBlock],λr hr=>by simp[Value.ownBlock]at hr,by simp[Value.ownBlock],λr hr=>by simp[Value.ownBlock]at hr⟩
def NwI(gs:Nat)(rs:List Rt)(w1:World)(k:Nat)(wr:World):Prop:=
 (∃es v vh,es.map Ent.bare=(rs.take k).map Cd/\StI gs gs es ((rs.take k).map Rt.h) [] v vh (.slice none 0 0) wr)/\Below gs w1 wr
def NwJ(gs:Nat)(rs:List Rt)(ws:List Wr)(w1:World)(k:Nat)(wr:World):Prop:=
 (∃es v vh vw,es.map Ent.bare=rs.map Cd/\StI gs gs es (rs.map Rt.h) (ws.take k) v vh vw wr)/\Below gs w1 wr
theorem take_snoc{α β:Type}(f:α->β)(l:List α)(k:Nat)(h:k<l.length):(l.take (k+1)).map f=(l.take k).map f++[f l[k]]:=by
 rw[A4z h,B2z];rfl
theorem NwI.next{gs:Nat}{rs:List Rt}{w1 wr wr':World}{k:Nat}{es:List Ent}{x:Ending}{r:Rt}(h:k<rs.length)(hr:rs[k]=r)(he:es.map Ent.bare=(rs.take k).map Cd)(hb:Below gs w1 wr)(hp:a5M gs gs es ((rs.take k).map Rt.h) [] (.slice none 0 0) r wr x wr')(h0:rtE es r=0):NwI gs rs w1 (k+1) wr':=by
 subst hr;obtain⟨-,hb',h3⟩:=hp;obtain⟨es',v',vh',k1,k2⟩:=h3 h0;refine⟨⟨es',v',vh',?_,?_⟩,hb.trans hb'⟩
 ·rw[k1,he,take_snoc Cd rs k h]
 ·rw[take_snoc Rt.h rs k h];exact k2
theorem b9K{rs:List Rt}{k:Nat}{es:List Ent}{r:Rt}{RR:Nat×Int}(h:k<rs.length)(hr:rs[k]=r)(he:es.map Ent.bare=(rs.take k).map Cd)(hI:Ge (rs.drop k) ((rs.take k).map Cd) k=RR)(h0:rtE es r=0):Ge (rs.drop (k+1)) ((rs.take (k+1)).map Cd) (k+1)=RR:=by
 subst hr;rw[<-Ax h,Ge,<-he,a0U,if_pos h0,he,<-take_snoc Cd rs k h]at hI;exact hI
theorem b0Y{rs:List Rt}{k:Nat}{es:List Ent}{r:Rt}{RR:Nat×Int}(h:k<rs.length)(hr:rs[k]=r)(he:es.map Ent.bare=(rs.take k).map Cd)(hI:Ge (rs.drop k) ((rs.take k).map Cd) k=RR)(h0:rtE es r≠0):RR=(k,rtE es r):=by
 subst hr;rw[<-Ax h,Ge,<-he,a0U,if_neg h0]at hI;exact hI.symm
theorem NwI.wares{gs:Nat}{rs:List Rt}{w1 wr:World}{k:Nat}(ws:List Wr)(h:NwI gs rs w1 k wr)(hk:¬k<rs.length):NwJ gs rs ws w1 0 wr:=by
 obtain⟨⟨es,v,vh,h1,h2⟩,h3⟩:=h;rw[Aq (by omega)]at h1 h2;exact⟨⟨es,v,vh,_,h1,by simpa using h2⟩,h3⟩
theorem NwJ.next{gs:Nat}{rs:List Rt}{ws:List Wr}{w1 wr W4 w5:World}{k gg cap:Nat}{x:Wr}{es:List Ent}{v vh vw:Value}(h:k<ws.length)(hx:ws[k]=x)(he:es.map Ent.bare=rs.map Cd)(hb:Below gs w1 wr)(S:StI gs gs es (rs.map Rt.h) (ws.take k) v vh vw wr)(hbE:Bw wr W4)(hg:W4.grownBy w5 vw.ownBlock)
  (ho:w5.ownsRow gs 241 4 (.slice (some ⟨gg,0,none⟩) ((ws.take k).length+1) cap) ((ws.take k).length+1) (wrC (ws.take k)++x.cells)) (hat:vw.ownBlock=some gg\/W4.heap.size<=gg) :
  NwJ gs rs ws w1 (k+1) (w5.setCell ⟨gs,2,none⟩ (.slice (some ⟨gg,0,none⟩) ((ws.take k).length+1) cap)):=by
 have S4:=S.below hbE;have hl:=S.tb.lt;subst hx;refine⟨⟨es,v,vh,.slice (some ⟨gg,0,none⟩) ((ws.take k).length+1) cap,he,?_⟩,(((hb.trans (hbE.mono (by omega))).grown hg (by have:=hbE.size;omega) (λk hk=>Bx S4.wr k hk)).setCell (Ac _) _)⟩;have e:ws.take (k+1)=ws.take k++[ws[k]]:=A4z h;rw[e];exact S4.ware hg ho hat
theorem b9L{ws:List Wr}{k:Nat}{x:Wr}{E:Nat×Int}(h:k<ws.length)(hx:ws[k]=x)(hI:Ml (ws.drop k) k=E):(Jc x.k x.n.data.toList x.v.data.toList x.lim=true->Ml (ws.drop (k+1)) (k+1)=E)/\(Jc x.k x.n.data.toList x.v.data.toList x.lim=false->E=(k,13)):=by
 subst hx;rw[<-Ax h,Ml]at hI;refine⟨λe=>?_,λe=>?_⟩
 ·rw[if_pos e]at hI;exact hI
 ·rw[e,if_neg (by simp)]at hI;exact hI.symm
def Ia(rs:List Rt)(ws:List Wr)(E:Nat×Int)(w:World)(x:Ending)(w':World):Prop:=
 (E.2≠0->x=.returned (.tuple #[.pointer none,.int .i64 E.1,.int .i64 E.2]))/\(E.2=0->∃gs es v vh vw,x=.returned (.tuple #[.pointer (some ⟨gs,0,none⟩),.int .i64 0,.int .i64 0])/\w.heap.size<gs/\es.map Ent.bare=rs.map Cd/\StI gs gs es (rs.map Rt.h) ws v vh vw w')/\Bw w w'
theorem Ia.err{rs:List Rt}{ws:List Wr}{E:Nat×Int}{w w':World}{x:Ending}(h:x=.returned (.tuple #[.pointer none,.int .i64 E.1,.int .i64 E.2]))(h0:E.2≠0)(hb:Bw w w'):Ia rs ws E w x w':=⟨λ_=>h,λe=>absurd e h0,hb⟩
theorem Ia.ok{rs:List Rt}{ws:List Wr}{E:Nat×Int}{w w1 w':World}{x:Ending}{gs:Nat}(h:x=.returned (.tuple #[.pointer (some ⟨gs,0,none⟩),.int .i64 0,.int .i64 0]))(h0:E.2=0)(hg:w.heap.size<gs)(hj:NwJ gs rs ws w1 ws.length w')(hb:Bw w w1):Ia rs ws E w x w':=by
 obtain⟨⟨es,v,vh,vw,h1,h2⟩,h3⟩:=hj;rw[E8z]at h2;exact⟨λe=>absurd h0 e,λ_=>⟨gs,es,v,vh,vw,h,hg,h1,h2⟩,hb.trans (h3.mono (by omega))⟩
theorem b4X(hd bd:Int)(rs:List Rt)(ws:List Wr)(ar:Oa)(cr:Nat)(aw:Oa)(cw:Nat)(mx:Int)(w:World)(h:decide (32<=hd/\hd<=500/\0<=bd/\bd<=200)=true)(hn:rs.length<=24)(hw:ws.length<=6)(hR:Da 6 Rt.cells rs ar w)(hW:Da 4 Wr.cells ws aw w)(hro:∀r∈rs,RtOk r)(hwo:∀x∈ws,x.n.size<=281474976710656/\x.v.size<=281474976710656)(hm:w.cell? ⟨0,0,none⟩=some (.int .i64 mx)):
  Calls prog 144 #[.agg #[.int .i64 hd,.int .i64 bd,.slice ar rs.length cr,.slice aw ws.length cw]] w (Ia rs ws (if(Ge rs [] 0).2=0 then Ml ws 0 else Ge rs [] 0) w):=by
 obtain⟨i0,hi,hz0,hz1,hz2⟩:=info_parts c2H;have HL:=hid (λW=>Ft hd bd W);rw[h]at HL;have hA:=bA w (.cells #[.int .i64 hd,.int .i64 bd,.slice ar rs.length cr,.slice aw ws.length cw] 44);have hg:(w.alloc (.cells #[.int .i64 hd,.int .i64 bd,.slice ar rs.length cr,.slice aw ws.length cw] 44)).heap[w.heap.size]?=some _:=Ag w _;have h1:¬(24:Int)<(rs.length:Int):=by omega
 have h2:¬(6:Int)<(ws.length:Int):=by omega
 have HRw:=hid hR;have HWw:=hid hW;have HRO:=hid hro;have HWO:=hid hwo;generalize hRR:Ge rs [] 0=RR;have HRR:=hid hRR;clear hRR;generalize hEE:(if RR.2=0 then Ml ws 0 else RR)=EE;have HEE:=hid hEE;clear h hR hW hro hwo hEE;go_enter func144,ntmps144;go_wp2_with fail;refine(HL.out _).mono ?_;rintro x w1 ⟨rfl,hb⟩;have hB:=Bc hA hb;have c2:w1.cell? ⟨w.heap.size,2,none⟩=some (.slice ar rs.length cr):=Aa hb (by rw[Ab hg];rfl);have c3:w1.cell? ⟨w.heap.size,3,none⟩=some (.slice aw ws.length cw):=Aa hb (by rw[Ab hg];rfl);have l1:=Ap c2;clear hb hg hA HL;have hA2:=bA w1 (.cells #[.slice none 0 0,.slice none 0 0,.slice none 0 0] 287);have S0:=hid (StI.empty w1.heap.size _ (Ag w1 (.cells #[.slice none 0 0,.slice none 0 0,.slice none 0 0] 287)));have e2:=Aa hA2 c2;have e3:=Aa hA2 c3;have el:w.heap.size<(w1.alloc (.cells #[.slice none 0 0,.slice none 0 0,.slice none 0 0] 287)).heap.size:=by simp;exact Nat.lt_succ_of_lt l1
 have I0:Hid (NwI w1.heap.size rs w1 0 (w1.alloc (.cells #[.slice none 0 0,.slice none 0 0,.slice none 0 0] 287))):=⟨⟨[],_,_,rfl,S0.out⟩,hA2⟩;go_wp2_with fail;clear e2 e3 el S0 hA2
 go_loopw [30] (λi wr=>∃k:Nat,k<=rs.length/\i=.int .i64 k/\Hid (NwI w1.heap.size rs w1 k wr)/\Hid (Ge (rs.drop k) ((rs.take k).map Cd) k=RR)) (λi _=>rs.length-(intOf i).toNat)
 case atStart=>exact⟨0,Ah _,rfl,I0,HRR⟩
 case round=>
  obtain⟨k,hk,rfl,HI,HK⟩:=hrel;obtain⟨⟨es,v,vh,hes,S⟩,hbw⟩:=HI.out;have lgs:=S.tb.lt;have hbW:Bw w wr:=hB.trans (hbw.mono (by omega));have c3r:wr.cell? ⟨w.heap.size,3,none⟩=some (.slice aw ws.length cw):=by rw[Au (hbw.block w.heap.size l1)];exact c3
  have lr:w.heap.size<wr.heap.size:=by omega
  by_cases hlt:k<rs.length
  ·obtain⟨g,o,rfl,hg,q0,q1,q2,q3,q4,q5⟩:=Np (HRw.out.below hbW) hlt;have hro:=HRO.out _ (As hlt);generalize hrk:rs[k]=r at *
   have hmr:=Aa hbW hm;have HSA:=hid (λW (hW:Bw wr W)=>a0V w1.heap.size w1.heap.size es _ [] v vh _ r mx W (S.below hW) hro (Aa hW hmr) (Ac _) (Aj (F6z lgs) hW.size) (by rw[A8z,B0z];omega));have hAr:=bA wr r.obj;have HS:=hid S;have HN:=hid (λW x W' (hW:Bw wr W) (hp:a5M w1.heap.size w1.heap.size es ((rs.take k).map Rt.h) [] (.slice none 0 0) r W x W') (h0:rtE es r=0)=>NwI.next hlt hrk hes (hbw.trans (hW.mono (by omega))) hp h0);have HG:=hid (λh0:rtE es r=0=>b9K hlt hrk hes HK.out h0);have HT:=hid (λh0:rtE es r≠0=>b0Y hlt hrk hes HK.out h0);obtain⟨rm,rp,⟨rk,rst,rt,rn⟩⟩:=r;simp only[Rt.agg,Rt.obj]at *
   clear S hes hro hrk HK HI hmr;go_wp2_with fail;refine(HSA.out _ hAr).mono ?_;intro x w2 hpost;obtain⟨rfl,hb2,-⟩:=id hpost;have HP:=hid hpost;clear hpost HSA;generalize rtE es ⟨rm,rp,⟨rk,rst,rt,rn⟩⟩=ee at *
   by_cases h0:ee=0
   ·subst h0;have HN':=hid (HN.out _ _ _ hAr HP.out rfl);have HG':=hid (HG.out rfl);clear HN HG HT HP;go_wp2;exact⟨⟨k+1,by omega,by go_num,HN',HG'⟩,by simp[intOf];omega⟩
   ·have HT':=HT.out h0;subst HT';have hB2:Bw w w2:=(hbW.trans (hAr.mono (by omega))).trans (hb2.mono (by omega));clear HN HG HT HP;go_wp2
    try rw[Exit.noGoto_ret]
    refine Ae (v:=.tuple #[.pointer none,.int .i64 k,.int .i64 ee]) (by simp[results,results144,go_sem]) rfl ?_;have hE:=HEE.out;rw[if_neg h0]at hE;subst hE;exact Ia.err rfl h0 hB2
  ·have HJ0:=hid (HI.out.wares ws hlt);have hke:rs.drop k=[]:=Az (by omega);rw[hke,Ge]at HK;have hR0:RR.2=0:=by rw[<-HK.out]
   have HW0:Hid (Ml (ws.drop 0) 0=EE):=by have:=HEE.out;rw[if_pos hR0]at this;exact this
   clear HK HRR HEE I0 S hes HI hke HRO HRw;have hne:¬(k:Int)<(rs.length:Int):=by omega
   go_wp2_with fail;clear c3r
   go_loopw [46] (λi wr=>∃k:Nat,k<=ws.length/\i=.int .i64 k/\Hid (NwJ w1.heap.size rs ws w1 k wr)/\Hid (Ml (ws.drop k) k=EE)) (λi _=>ws.length-(intOf i).toNat)
   case atStart=>exact⟨0,Ah _,rfl,HJ0,HW0⟩
   case round=>
    clear HJ0 HW0 hbW lr hbw lgs;obtain⟨k,hk,rfl,HI,HK⟩:=hrel;obtain⟨⟨es,v,vh,vw,hes,S⟩,hbw⟩:=HI.out;have lgs:=S.tb.lt;have hbW:Bw w wr:=hB.trans (hbw.mono (by omega));by_cases hlt:k<ws.length
    ·obtain⟨g,o,rfl,hg,q0,q1,q2,q3⟩:=Ky (HWw.out.below hbW) hlt;obtain⟨hx1,hx2⟩:=HWO.out _ (As hlt);generalize hrk:ws[k]=r at *
     obtain⟨HG1,HG2⟩:=b9L hlt hrk HK.out;have HRW:=hid (λW=>Ut r.k r.lim r.n r.v W (by unfold maxLen;omega));have HCW:=hid (λW=>Uy r.k r.lim r.n r.v W hx1 hx2);obtain⟨aq,cq,rfl⟩:=Ce S.wr;have hAr:=bA wr (.cells #[.int .i64 r.k,.string r.n,.string r.v,.int .i64 r.lim] 241);have hgr:=Ag wr (.cells #[.int .i64 r.k,.string r.n,.string r.v,.int .i64 r.lim] 241);have HNX:=hid (λW4 w5 gg cap=>NwJ.next (W4:=W4) (w5:=w5) (gg:=gg) (cap:=cap) hlt hrk hes hbw S);have hxc:r.cells=[.int .i64 r.k,.string r.n,.string r.v,.int .i64 r.lim]:=rfl;rw[hxc]at HNX;have htl:(ws.take k).length<=6:=by rw[B0z];omega
     generalize ws.take k=WT at *
     generalize hBW:Jc r.k r.n.data.toList r.v.data.toList r.lim=bw at *
     obtain⟨xk,xn,xv,xl⟩:=r;simp only at *
     have HS:=hid S;have HG1':=hid HG1;have HG2':=hid HG2;clear S hes hrk HK HI hx1 hx2 hxc HG1 HG2 hBW;go_wp2_with fail;refine(HRW.out _).mono ?_;rintro x w2 ⟨rfl,hb2⟩;have hB2:=Bc hAr hb2;have d0:w2.cell? ⟨wr.heap.size,0,none⟩=some (.int .i64 xk):=Aa hb2 (by rw[Ab hgr];rfl);have d1:w2.cell? ⟨wr.heap.size,1,none⟩=some (.string xn):=Aa hb2 (by rw[Ab hgr];rfl);have d2:w2.cell? ⟨wr.heap.size,2,none⟩=some (.string xv):=Aa hb2 (by rw[Ab hgr];rfl);have d3:w2.cell? ⟨wr.heap.size,3,none⟩=some (.int .i64 xl):=Aa hb2 (by rw[Ab hgr];rfl);have dl:=Ap d0;have hBb:Bw w w2:=Bc hbW hB2;clear hb2 hgr hAr HRW q0 q1 q2 q3
     cases bw
     ·have hE:=HG2'.out rfl;subst hE;clear HG1' HG2' HNX HS HCW;go_wp2
      try rw[Exit.noGoto_ret]
      refine Ae (v:=.tuple #[.pointer none,.int .i64 k,.int .i64 13]) (by simp[results,results144,go_sem]) rfl ?_;exact Ia.err rfl (by simp) hBb
     ·have HG:=hid (HG1'.out rfl);have S2:=hid (HS.out.below hB2);have cel3:w2.cell? ⟨w1.heap.size,2,none⟩=some (.slice aq WT.length cq):=by rw[Ab S2.out.blk];rfl
      have fre3:w2.frozen? ⟨w1.heap.size,2,none⟩=false:=Ai S2.out.blk 2;have lt3:w1.heap.size<w2.heap.size:=S2.out.tb.lt;have ow3:=S2.out.wr;have hnown:=S2.out.w1;clear HG1' HG2' HS;go_wp2_with fail
      go_region_law
       (first
        |(refine step_append_lies _ (by rfl) _ _ _ (by rfl) w1.heap.size 241 i0 _ 4 48 underlying42 hi hz0 hz1 hz2 rfl (by omega) (.slice aq WT.length cq) WT.length (wrC WT) (by rfl) ((Be ow3.drew hb4).alloc _) ⟨w4.heap.size,0,none⟩ 1 1 [.int .i64 xk,.string xn,.string xv,.int .i64 xl] (by rfl) (by rfl) (World.news_of_block (cs:=#[.int .i64 xk,.string xn,.string xv,.int .i64 xl]) (t:=241) (fr:=(0,0)) (Ag w4 _)) (by simp[Value.oneCell']) (by omega) (by unfold maxLen;omega) (by omega) (Aj (Aj (F6z lt3) hb4.size) (by simp)) (w4.heap.size+1) (by simp) ?_;intro gg cap w5 hown5 hgrow hat hlt5;have c5:=Ez hgrow (Hu k4) hnown;have f5:w5.frozen? ⟨w1.heap.size,2,none⟩=false:=Mu hgrow hb4 fre3 lt3 hnown;have l5:w1.heap.size<w5.heap.size:=Af (Af lt3 hb4.size) (Aj (by simp) hgrow.size))
        |(go_simp;go_at_call 200;refine(HCW.out _).mono ?_;rintro e w4 ⟨rfl,hb4⟩;have k4:=Aa hb4 (show w2.drew.cell? ⟨w1.heap.size,2,none⟩=_ from cel3);have l4:w1.heap.size<w4.heap.size:=Af lt3 hb4.size))
      all_goals
       have hE:=Bc (Bc hB2 (Ad w2.heap.size w2).drew) hb4;have hE2:Bw wr (w4.alloc (.cells #[.int .i64 xk,.string xn,.string xv,.int .i64 xl] 241)):=hE.alloc hE.size _;have hAD:=hid (HNX.out _ _ _ _ hE2 hgrow hown5 (hat.imp_right (λh=>by rw[h];simp)));clear hE hE2 hgrow hown5 hat hlt5 HNX;go_wp2;exact⟨⟨k+1,by omega,by go_num,hAD,HG⟩,by simp[intOf];omega⟩
    ·have hke:ws.drop k=[]:=Az (by omega);rw[hke,Ml]at HK;have hkk:k=ws.length:=by omega
     have hE0:EE.2=0:=by rw[<-HK.out]
     have HF:Hid (NwJ w1.heap.size rs ws w1 ws.length wr):=by rw[<-hkk];exact HI.out
     clear HK HI S hes hke HWO HWw;have hne:¬(k:Int)<(ws.length:Int):=by omega
     go_wp2
     try rw[Exit.noGoto_ret]
     refine Ae (v:=.tuple #[.pointer (some ⟨w1.heap.size,0,none⟩),.int .i64 0,.int .i64 0]) (by simp[results,results144,go_sem]) rfl ?_;exact Ia.ok rfl hE0 l1 HF.out hB
end Go.Proofs.YtbiggccolpchcaaGreatDoor
