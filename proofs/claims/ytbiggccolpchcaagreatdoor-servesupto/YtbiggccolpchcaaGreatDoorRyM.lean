/- What comes of a request that leads to a route, by the reference. -/
import Derived.Test.YtbiggccolpchcaaGreatDoorJoin39
set_option maxRecDepth 100000
set_option maxHeartbeats 16000000
namespace Go.Proofs.YtbiggccolpchcaaGreatDoor
open Go.RowKit _root_.Go.Proofs.Tryz
def Yy(F:Rp)(w:World)(x:Ending)(w':World):Prop:=
 (∃vv,x=.returned (.agg #[.int .i64 F.st,vv,.string F.b,.bool F.cl])/\w'.ownsRow w.heap.size 131 2 vv F.fs.length (Bg F.fs))/\Bw w w'
theorem Ui{w wr:World}{h b rv wv q0 q1 q2 q3 s0 s1 s2 s3 s4 vv v2 v3 v4 v5:Value}{ga g k:Nat}{st:Int}{bb:By}(I:RoI w #[h,b,rv,wv] #[q0,q1,q2,q3] #[s0,s1,s2,s3,s4] ga st vv bb wr)(p2:w.cell? ⟨g,k+2,none⟩=some v2)(p3:w.cell? ⟨g,k+3,none⟩=some v3)(p4:w.cell? ⟨g,k+4,none⟩=some v4)(p5:w.cell? ⟨g,k+5,none⟩=some v5):
  wr.cell? ⟨w.heap.size,2,none⟩=some rv/\wr.cell? ⟨w.heap.size+1+1,1,none⟩=some s1/\wr.cell? ⟨w.heap.size+1+1,2,none⟩=some s2/\wr.cell? ⟨g,k+2,none⟩=some v2/\wr.cell? ⟨g,k+3,none⟩=some v3/\wr.cell? ⟨g,k+4,none⟩=some v4/\wr.cell? ⟨g,k+5,none⟩=some v5/\wr.cell? ⟨w.heap.size+1,0,none⟩=some q0/\wr.cell? ⟨w.heap.size+1,1,none⟩=some q1/\wr.cell? ⟨w.heap.size+1,2,none⟩=some q2/\wr.cell? ⟨w.heap.size+1,3,none⟩=some q3:=
 ⟨(I.c.cell 2).trans rfl,(I.f.cell 1).trans rfl,(I.f.cell 2).trans rfl,Aa I.bl p2,Aa I.bl p3,Aa I.bl p4,Aa I.bl p5,(I.q.cell 0).trans rfl,(I.q.cell 1).trans rfl,(I.q.cell 2).trans rfl,(I.q.cell 3).trans rfl⟩
theorem a3G(hd bd:Int)(rs:List Rt)(ws:List Wr)(ar:Oa)(cr:Nat)(aw:Oa)(cw:Nat)(qm qt qb:By)(fs:List Prm)(fa:Oa)(fc:Nat)(st:Int)(ro:Nat)(ps:List Prm)(pa:Oa)(pc:Nat)(ua ul:By)(w:World)
  (hR:Da 6 Rt.cells rs ar w) (hW:Da 4 Wr.cells ws aw w) (hwl:ws.length<=6) (hcw:ws.length<=cw) (hro:ro<rs.length) (hf:Nc fs fa w) (hl:fs.length<=1000000) (hz:∀i (h:i<fs.length),fs[i].1.size<=maxLen) (hz2:∀p∈fs,p.2.size<=2000000) (hwn:∀x∈ws,x.n.size<=1048576/\x.v.size<=1048576) (hp:Df ps pa w) (hpl:ps.length<=1000000)
  (hsm:∀a,Ld fs qb (Fk rs ro) ps ws=some a->SmA 4000000 a) :
  Calls prog 217 #[.agg #[.int .i64 hd,.int .i64 bd,.slice ar rs.length cr,.slice aw ws.length cw],.agg #[.string qm,.string qt,.slice fa fs.length fc,.string qb],.agg #[.int .i64 st,.int .i64 ro,.slice pa ps.length pc,.string ua,.string ul]] w (Yy (Gp (Re fs) (Ld fs qb (Fk rs ro) ps ws)) w):=by
 obtain⟨hA,C0,Q0,F0,R0⟩:=a9L #[.int .i64 hd,.int .i64 bd,.slice ar rs.length cr,.slice aw ws.length cw] #[.string qm,.string qt,.slice fa fs.length fc,.string qb] #[.int .i64 st,.int .i64 ro,.slice pa ps.length pc,.string ua,.string ul] w;have HCL:=hid (λW (hb:Bw w W)=>Ok qm qt qb fs fa fc W (hf.below hb) hl hz (λx hx=>by
  obtain⟨p,hp,rfl⟩:=Rr hx;have:=hz2 p hp;unfold maxLen;omega))
 have hwm:∀x∈ws,x.n.size<=maxLen:=λx hx=>by have:=hwn x hx;unfold maxLen;omega
 have HDP:=hid (λW (hb:Bw w W)=>b2M ws aw cw qm qt qb fs fa fc W (hW.below hb) (by omega) (hf.below hb) hl hz hwm);have hdl:=a9B fs qb ws;have htd:=a1W fs qb (Fk rs ro) ps ws;have HHD:=hid (λW (hb:Bw w W)=>Yw (Fk rs ro).k (Fk rs ro).st (Fk rs ro).t (Fk rs ro).n qm qt qb fa fs.length fc ps pa pc W (hp.below hb) hpl);have hgl:∀a,(if(Dz fs qb ws).2=0 then Ew (Fk rs ro) qb ps else some ⟨(Dz fs qb ws).2,[],⟨#[]⟩⟩)=some a->a.fs.length<=1:=λa h=>by
  split at h
  ·exact a1V h
  ·cases h;simp
 have hbig:∀n k a,Ha fs (if(Dz fs qb ws).2=0 then Ew (Fk rs ro) qb ps else some ⟨(Dz fs qb ws).2,[],⟨#[]⟩⟩) ((ws.take n).drop k)=some a->a.fs.length<=50000000:=λn k a h=>by
  have h1:=b6D fs _ 1 hgl _ a h;have h2:((ws.take n).drop k).length<=6:=by simp;omega
  have h3:((ws.take n).drop k).length*(fs.length+1)<=6*(fs.length+1):=D1z _ h2;omega
 have HAR:=hid (λ(W:World) (n:Nat) (st:Int) (b:By) (f0:List Prm) (v0:Value) (up:Bool) (hb:Bw w W) ho hG hup=>a3F (ws.take n) aw cw qm qt qb fs fa fc st b f0 v0 up (if(Dz fs qb ws).2=0 then Ew (Fk rs ro) qb ps else some ⟨(Dz fs qb ws).2,[],⟨#[]⟩⟩) w W hb ho hG hup (c0X hW n) (by simp;omega) hf hl hz (λx hx=>hwm x (List.mem_of_mem_take hx)) (hbig n));obtain⟨gR,oR,hgR⟩:∃gR oR,ar=some ⟨gR,oR,none⟩:=by
  obtain⟨g,o,h1,_⟩:=hR ro hro;exact⟨g,o,h1⟩
 subst hgR;obtain⟨g',o',e',hg0,-,-,p2,p3,p4,p5⟩:=Np hR hro;simp only[Option.some.injEq,Addr.mk.injEq,and_true]at e';obtain⟨rfl,rfl⟩:=e';have hhd:Fk rs ro=rs[ro].h:=by unfold Fk;rw[Av hro]
 rw[<-hhd]at p2 p3 p4 p5;have hsm2:=hsm;rw[htd]at hsm2 ⊢;generalize hDD:Dz fs qb ws=DD at *
 obtain⟨n,stop⟩:=DD;simp only at *
 generalize Fk rs ro=hx at *
 obtain⟨xk,xst,xt,xn⟩:=hx;simp only at *
 have hnn:(ws.take n).length=n:=by rw[B0z];omega
 have HAR2:=hid (λW st b f0 v0 up hb ho hG hup=>HAR.out W n st b f0 v0 up hb ho hG hup);rw[hnn]at HAR2;generalize Re fs=sh at *
 have HSM:=hid hsm2;have HLE:=hid (λa (h:Ha fs (if stop=0 then Ew ⟨xk,xst,xt,xn⟩ qb ps else some ⟨stop,[],⟨#[]⟩⟩) (ws.take n)=some a)=>Aj (hbig n 0 a (by rw[D6z];exact h)) (show 50000000<=100000000 by decide));clear HAR hR hW hf hz hz2 hwn hp hpl hsm hsm2 htd hbig hgl hwm hhd hDD;generalize hGG:(if stop=0 then Ew ⟨xk,xst,xt,xn⟩ qb ps else some ⟨stop,[],⟨#[]⟩⟩:Option An)=GG at *
 have HGG:=hid hGG;clear hGG;generalize Ew ⟨xk,xst,xt,xn⟩ qb ps=HG at *
 have hFIN:∀G2,Ha fs GG (ws.take n)=G2->Gp sh (Ha fs GG (ws.take n))=Gp sh G2:=λ_ h=>by rw[h]
 generalize hG2:Ha fs GG (ws.take n)=G2 at *
 clear hFIN hG2;go_enter func217,ntmps217;go_wp2_with fail;generalize (((w.alloc (.cells #[.int .i64 hd,.int .i64 bd,.slice (some ⟨gR,oR,none⟩) rs.length cr,.slice aw ws.length cw] 44)).alloc (.cells #[.string qm,.string qt,.slice fa fs.length fc,.string qb] 47)).alloc (.cells #[.int .i64 st,.int .i64 ro,.slice pa ps.length pc,.string ua,.string ul] 158)).alloc (.cells #[.int .i64 0,.slice none 0 0,.string ⟨#[]⟩,.bool false] 49)=w1 at *
 refine(HCL.out _ hA).mono ?_;rintro x w2 ⟨rfl,hb2⟩;have hB2:=Bc hA hb2;have C2:=C0.below hb2;have Q2:=Q0.below hb2;have F2:=F0.below hb2;have R2:=R0.below hb2;have c3:w2.cell? ⟨w.heap.size,3,none⟩=some (.slice aw ws.length cw):=(C2.cell 3).trans rfl;have q0:w2.cell? ⟨w.heap.size+1,0,none⟩=some (.string qm):=(Q2.cell 0).trans rfl;have q1:w2.cell? ⟨w.heap.size+1,1,none⟩=some (.string qt):=(Q2.cell 1).trans rfl;have q2:w2.cell? ⟨w.heap.size+1,2,none⟩=some (.slice fa fs.length fc):=(Q2.cell 2).trans rfl;have q3:w2.cell? ⟨w.heap.size+1,3,none⟩=some (.string qb):=(Q2.cell 3).trans rfl;have lc:=C2.lt;have lq:=Q2.lt;clear HCL C0 Q0 F0 R0;go_wp2_with fail;refine(HDP.out _ hB2).mono ?_;rintro x w3 ⟨rfl,hb3⟩;have hB3:=Bc hB2 hb3;have b4:=bA w3 (.cells #[.int .i64 stop,.slice none 0 0,.string ⟨#[]⟩,.bool false] 49);have R3:=R2.below hb3;have l3:=R3.lt;have A4:AnB w3.heap.size stop (.slice none 0 0) ⟨#[]⟩ false (w3.alloc (.cells #[.int .i64 stop,.slice none 0 0,.string ⟨#[]⟩,.bool false] 49)):=Ag w3 _;have I4:RoI w #[.int .i64 hd,.int .i64 bd,.slice (some ⟨gR,oR,none⟩) rs.length cr,.slice aw ws.length cw] #[.string qm,.string qt,.slice fa fs.length fc,.string qb] #[.int .i64 st,.int .i64 ro,.slice pa ps.length pc,.string ua,.string ul] w3.heap.size stop (.slice none 0 0) ⟨#[]⟩ _:=⟨(C2.below hb3).below b4,(Q2.below hb3).below b4,(F2.below hb3).below b4,R3.below b4,A4,l3,Bc hB3 b4⟩;have HI4:=hid I4;clear HDP C2 Q2 F2 R2 R3 A4 b4 c3 q0 q1 q2 q3 I4
 go_upto_if 26 with fail
 generalize w3.alloc (.cells #[.int .i64 stop,.slice none 0 0,.string ⟨#[]⟩,.bool false] 49)=w4 at *
 go_cut [11]from 27 (λok wx=>Hid (RoG w #[.int .i64 hd,.int .i64 bd,.slice (some ⟨gR,oR,none⟩) rs.length cr,.slice aw ws.length cw] #[.string qm,.string qt,.slice fa fs.length fc,.string qb] #[.int .i64 st,.int .i64 ro,.slice pa ps.length pc,.string ua,.string ul] w3.heap.size GG ok wx))
 case first=>
  by_cases h0:stop=0
  ·have e0:(stop==0)=true:=by simpa using h0
   have hg:=HGG.out;rw[if_pos h0]at hg;subst hg;obtain⟨x1,x2,x3,x4,x5,x6,x7,x8,x9,x10,x11⟩:=Ui HI4.out p2 p3 p4 p5;have lc4:=HI4.out.c.lt;have lq4:=HI4.out.q.lt;have lf4:=HI4.out.f.lt;have la4:=HI4.out.a.lt;have hg4:gR<w4.heap.size:=Af hg0 HI4.out.bl.size;have HP:=hid (And.intro p2 (And.intro p3 (And.intro p4 p5)));have hbd:=HI4.out.bl.drew;clear HGG HAR2 HSM p2 p3 p4 p5 e0;subst h0
   cases HG with
   |none=>
    go_wp2_with fail
    go_region_held3 (λW=>W.cell? ⟨w.heap.size,2,none⟩=some (.slice (some ⟨gR,oR,none⟩) rs.length cr)/\W.cell? ⟨w.heap.size+1+1,1,none⟩=some (.int .i64 ro)/\W.cell? ⟨w.heap.size+1+1,2,none⟩=some (.slice pa ps.length pc)/\W.cell? ⟨gR,oR+ro*6+2,none⟩=some (.int .i64 xk)/\W.cell? ⟨gR,oR+ro*6+3,none⟩=some (.int .i64 xst)/\W.cell? ⟨gR,oR+ro*6+4,none⟩=some (.string xt)/\W.cell? ⟨gR,oR+ro*6+5,none⟩=some (.string xn)/\W.cell? ⟨w.heap.size+1,0,none⟩=some (.string qm)/\W.cell? ⟨w.heap.size+1,1,none⟩=some (.string qt)/\W.cell? ⟨w.heap.size+1,2,none⟩=some (.slice fa fs.length fc)/\W.cell? ⟨w.heap.size+1,3,none⟩=some (.string qb)) (first|exact HKEEP.out|go_keep)
     (first|(go_at_call 264;refine(HHD.out _ hbd).mono ?_;rintro x w5 ⟨rfl,hb5⟩;have I5:=HI4.out.below (Bc (Ad w4.heap.size w4).drew hb5);have J5:=I5.set 0 (.slice none 0 0) ⟨#[]⟩;have HJ5:=hid J5;have HKEEP:=hid (Ui J5 HP.out.1 HP.out.2.1 HP.out.2.2.1 HP.out.2.2.2);obtain⟨y1,y2,y3,y4,y5,y6,y7,y8,y9,y10,y11⟩:=Ui I5 HP.out.1 HP.out.2.1 HP.out.2.2.1 HP.out.2.2.2;obtain⟨m0,m1,m2,m3⟩:=I5.a.cells;have n0:=I5.a.free 0;have n1:=I5.a.free 1;have n2:=I5.a.free 2;have n3:=I5.a.free 3;have l5:=I5.a.lt;unfold setA at HKEEP HJ5;clear I5 J5 hb5))
    all_goals
     go_wp2_with fail
     go_meet
     exact⟨rfl,HJ5.out⟩
   |some an=>
    go_wp2_with fail
    go_region_held3 (λW=>W.cell? ⟨w.heap.size,2,none⟩=some (.slice (some ⟨gR,oR,none⟩) rs.length cr)/\W.cell? ⟨w.heap.size+1+1,1,none⟩=some (.int .i64 ro)/\W.cell? ⟨w.heap.size+1+1,2,none⟩=some (.slice pa ps.length pc)/\W.cell? ⟨gR,oR+ro*6+2,none⟩=some (.int .i64 xk)/\W.cell? ⟨gR,oR+ro*6+3,none⟩=some (.int .i64 xst)/\W.cell? ⟨gR,oR+ro*6+4,none⟩=some (.string xt)/\W.cell? ⟨gR,oR+ro*6+5,none⟩=some (.string xn)/\W.cell? ⟨w.heap.size+1,0,none⟩=some (.string qm)/\W.cell? ⟨w.heap.size+1,1,none⟩=some (.string qt)/\W.cell? ⟨w.heap.size+1,2,none⟩=some (.slice fa fs.length fc)/\W.cell? ⟨w.heap.size+1,3,none⟩=some (.string qb)) (first|exact HKEEP.out|go_keep)
     (first|(go_at_call 264;refine(HHD.out _ hbd).mono ?_;rintro x w5 ⟨⟨vv,rfl,ow5⟩,hb5⟩;obtain⟨ax,cx,rfl⟩:=Ce ow5;have I5:=HI4.out.below (Bc (Ad w4.heap.size w4).drew hb5);have J5:=I5.set an.st (.slice ax an.fs.length cx) an.b;have hno:∀g,(Value.slice ax an.fs.length cx).ownBlock=some g->w3.heap.size<g:=λg e=>Af la4 (Bx ow5 g e);have HJ5:=hid (And.intro J5 (And.intro (Cg (g:=w3.heap.size) (st:=an.st) (vv:=.slice ax an.fs.length cx) (b:=an.b) (cl:=false) (Bt ow5 hbd.size) (λe=>Nat.lt_irrefl _ (hno _ e))) hno));have HKEEP:=hid (Ui J5 HP.out.1 HP.out.2.1 HP.out.2.2.1 HP.out.2.2.2);obtain⟨y1,y2,y3,y4,y5,y6,y7,y8,y9,y10,y11⟩:=Ui I5 HP.out.1 HP.out.2.1 HP.out.2.2.1 HP.out.2.2.2;obtain⟨m0,m1,m2,m3⟩:=I5.a.cells;have n0:=I5.a.free 0;have n1:=I5.a.free 1;have n2:=I5.a.free 2;have n3:=I5.a.free 3;have l5:=I5.a.lt;unfold setA at HKEEP HJ5;clear I5 J5 hb5 ow5 hno))
    all_goals
     go_wp2_with fail
     go_meet
     exact⟨rfl,_,HJ5.out⟩
  ·have e0:(stop==0)=false:=by simpa using h0
   have hg:=HGG.out;rw[if_neg h0]at hg;subst hg;clear HGG HAR2 HSM HHD;go_wp2_with fail
   go_meet
   exact⟨rfl,_,HI4.out,Am _ _ _ _,λg e=>by simp[Value.ownBlock]at e⟩
 case rest=>
  clear HHD HGG HI4 p2 p3 p4 p5 hg0;go_upto_region 7 with fail;go_cut [12]from 41 (λup wx=>Hid (RuG w #[.int .i64 hd,.int .i64 bd,.slice (some ⟨gR,oR,none⟩) rs.length cr,.slice aw ws.length cw] #[.string qm,.string qt,.slice fa fs.length fc,.string qb] #[.int .i64 st,.int .i64 ro,.slice pa ps.length pc,.string ua,.string ul] w3.heap.size G2 up wx))
  case first=>
   cases GG with
   |none=>
    obtain⟨rfl,I⟩:=hcut.out;have c3:wc.cell? ⟨w.heap.size,3,none⟩=some (.slice aw ws.length cw):=(I.c.cell 3).trans rfl;have q0:wc.cell? ⟨w.heap.size+1,0,none⟩=some (.string qm):=(I.q.cell 0).trans rfl;have q1:wc.cell? ⟨w.heap.size+1,1,none⟩=some (.string qt):=(I.q.cell 1).trans rfl;have q2:wc.cell? ⟨w.heap.size+1,2,none⟩=some (.slice fa fs.length fc):=(I.q.cell 2).trans rfl;have q3:wc.cell? ⟨w.heap.size+1,3,none⟩=some (.string qb):=(I.q.cell 3).trans rfl;obtain⟨m0,m1,m2,m3⟩:=I.a.cells;have lc5:=I.c.lt;have lq5:=I.q.lt;have la5:=I.a.lt;have hga:=I.g;have hnw:(n:Int)<=(cw:Int):=by omega
    have HI:=hid I;have HAC:=hid (HAR2.out wc.drew 0 ⟨#[]⟩ [] (.slice none 0 0) true I.bl.drew (Am _ _ _ _) (by rfl) (λ_=>⟨rfl,rfl,rfl,rfl⟩));clear HAR2 hcut I HSM
    cases G2 with
    |none=>
     go_region_with (first|(go_at_call 265;refine HAC.out.mono ?_;rintro x w6 ⟨rfl,hb6,hz6,hk6⟩;have I6:=HI.out.keep (w':=w6) (λg hg=>hk6 g (F7z hg la5) (by simp[Value.ownBlock])) hb6;obtain⟨r0,r1,r2,r3⟩:=I6.a.cells;have n0:=I6.a.free 0;have n1:=I6.a.free 1;have n2:=I6.a.free 2;have n3:=I6.a.free 3;have l6:=I6.a.lt;have HJ:=hid (I6.set 0 (.slice none 0 0) ⟨#[]⟩);unfold setA at HJ;clear I6 hk6))
     all_goals
      go_wp2_with fail
      go_meet
      exact⟨rfl,HJ.out⟩
    |some an2=>
     go_region_with (first|(go_at_call 265;refine HAC.out.mono ?_;rintro x w6 ⟨⟨vv6,rfl,ow6,nk6⟩,hb6,hz6,hk6⟩;obtain⟨ax,cx,rfl⟩:=Ce ow6;have I6:=HI.out.keep (w':=w6) (λg hg=>hk6 g (F7z hg la5) (by simp[Value.ownBlock])) hb6;obtain⟨r0,r1,r2,r3⟩:=I6.a.cells;have n0:=I6.a.free 0;have n1:=I6.a.free 1;have n2:=I6.a.free 2;have n3:=I6.a.free 3;have l6:=I6.a.lt;have hno6:∀g,g<=w3.heap.size->(Value.slice ax an2.fs.length cx).ownBlock≠some g:=λg hg=>nk6 g (F7z hg la5) (by simp[Value.ownBlock]);have HJ:=hid (And.intro (I6.set an2.st (.slice ax an2.fs.length cx) an2.b) (And.intro (Cg (g:=w3.heap.size) (st:=an2.st) (vv:=.slice ax an2.fs.length cx) (b:=an2.b) (cl:=false) ow6 (hno6 _ (Ac _))) hno6));unfold setA at HJ;clear I6 hk6 nk6 ow6))
     all_goals
      go_wp2_with fail
      go_meet
      exact⟨rfl,_,HJ.out⟩
   |some an=>
    obtain⟨rfl,vv0,I,ow,hno⟩:=hcut.out;obtain⟨a0,e0,rfl⟩:=Ce ow;have c3:wc.cell? ⟨w.heap.size,3,none⟩=some (.slice aw ws.length cw):=(I.c.cell 3).trans rfl;have q0:wc.cell? ⟨w.heap.size+1,0,none⟩=some (.string qm):=(I.q.cell 0).trans rfl;have q1:wc.cell? ⟨w.heap.size+1,1,none⟩=some (.string qt):=(I.q.cell 1).trans rfl;have q2:wc.cell? ⟨w.heap.size+1,2,none⟩=some (.slice fa fs.length fc):=(I.q.cell 2).trans rfl;have q3:wc.cell? ⟨w.heap.size+1,3,none⟩=some (.string qb):=(I.q.cell 3).trans rfl;obtain⟨m0,m1,m2,m3⟩:=I.a.cells;have lc5:=I.c.lt;have lq5:=I.q.lt;have la5:=I.a.lt;have hga:=I.g;have hnw:(n:Int)<=(cw:Int):=by omega
    have HI:=hid I;have HAC:=hid (HAR2.out wc.drew an.st an.b an.fs (.slice a0 an.fs.length e0) false I.bl.drew ow.drew (by simp) (λh=>by cases h));have hn0:∀g,g<=w3.heap.size->(Value.slice a0 an.fs.length e0).ownBlock≠some g:=λg hg e=>by have:=hno g e;omega
    clear HAR2 hcut I HSM ow hno
    cases G2 with
    |none=>
     go_region_with (first|(go_at_call 265;refine HAC.out.mono ?_;rintro x w6 ⟨rfl,hb6,hz6,hk6⟩;have I6:=HI.out.keep (w':=w6) (λg hg=>hk6 g (F7z hg la5) (hn0 g hg)) hb6;obtain⟨r0,r1,r2,r3⟩:=I6.a.cells;have n0:=I6.a.free 0;have n1:=I6.a.free 1;have n2:=I6.a.free 2;have n3:=I6.a.free 3;have l6:=I6.a.lt;have HJ:=hid (I6.set 0 (.slice none 0 0) ⟨#[]⟩);unfold setA at HJ;clear I6 hk6))
     all_goals
      go_wp2_with fail
      go_meet
      exact⟨rfl,HJ.out⟩
    |some an2=>
     go_region_with (first|(go_at_call 265;refine HAC.out.mono ?_;rintro x w6 ⟨⟨vv6,rfl,ow6,nk6⟩,hb6,hz6,hk6⟩;obtain⟨ax,cx,rfl⟩:=Ce ow6;have I6:=HI.out.keep (w':=w6) (λg hg=>hk6 g (F7z hg la5) (hn0 g hg)) hb6;obtain⟨r0,r1,r2,r3⟩:=I6.a.cells;have n0:=I6.a.free 0;have n1:=I6.a.free 1;have n2:=I6.a.free 2;have n3:=I6.a.free 3;have l6:=I6.a.lt;have hno6:∀g,g<=w3.heap.size->(Value.slice ax an2.fs.length cx).ownBlock≠some g:=λg hg=>nk6 g (F7z hg la5) (hn0 g hg);have HJ:=hid (And.intro (I6.set an2.st (.slice ax an2.fs.length cx) an2.b) (And.intro (Cg (g:=w3.heap.size) (st:=an2.st) (vv:=.slice ax an2.fs.length cx) (b:=an2.b) (cl:=false) ow6 (hno6 _ (Ac _))) hno6));unfold setA at HJ;clear I6 hk6 nk6 ow6))
     all_goals
      go_wp2_with fail
      go_meet
      exact⟨rfl,_,HJ.out⟩
  case rest=>
   clear HAR2
   cases G2 with
   |none=>
    obtain⟨rfl,I⟩:=hcut.out;obtain⟨c0,c1,c2,c3⟩:=I.r.cells;have f0:=I.r.free 0;have f1:=I.r.free 1;have f2:=I.r.free 2;have f3:=I.r.free 3;have lr:=I.r.lt;obtain⟨d0,d1,d2,d3⟩:=(I.r.set 500 (.slice none 0 0) ⟨#[]⟩ true).cells;have HB:=hid (Bm (g:=w.heap.size+1+1+1) (st:=500) (vv:=.slice none 0 0) (b:=⟨#[]⟩) (cl:=true) I.bl (by omega));unfold setA at d0 d1 d2 d3 HB;clear I hcut HSM;go_wp2_with fail;refine Ae (v:=.agg #[.int .i64 500,.slice none 0 0,.string ⟨#[]⟩,.bool true]) (by simp[results,results217,go_sem,d0,d1,d2,d3]) rfl ?_;exact⟨⟨_,rfl,Am _ _ _ _⟩,HB.out⟩
   |some an=>
    obtain⟨rfl,vv,I,ow,hno⟩:=hcut.out;obtain⟨ax,cx,rfl⟩:=Ce ow;have hsm:=HSM.out an rfl;have HCL:=hid (a7N an.fs ax cx wc (Nb ow) (HLE.out an rfl) (λi hi=>by have:=(hsm.2 _ (As hi)).2;unfold maxLen;omega));have hFIN1:an.fs.any (λp=>Hk p.2)=true->Gp sh (some an)=⟨500,[],⟨#[]⟩,sh,0⟩:=λh=>a9C h an rfl sh;have hFIN2:an.fs.any (λp=>Hk p.2)=false->Gp sh (some an)=⟨an.st,an.fs,an.b,sh,0⟩:=λh=>Ts h an rfl sh;have HF1:=hid hFIN1;have HF2:=hid hFIN2;generalize Gp sh (some an)=FIN at *
    generalize an.fs.any (λp=>Hk p.2)=EB at *
    obtain⟨x0,x1,x2,x3⟩:=I.a.cells;have la:=I.a.lt;have HI:=hid I;have HOW:=hid ow;have HNO:=hid hno;clear I ow hno hcut HSM hFIN1 hFIN2 hsm HLE;go_wp2_with fail;refine HCL.out.mono ?_;rintro x w8 ⟨rfl,hb8⟩;have I8:=HI.out.below hb8;have ow8:=Be HOW.out hb8;clear HCL x0 x1 x2 x3;have hg8:=I8.g
    cases EB with
    |true=>
     have hf:=HF1.out rfl;subst hf;obtain⟨c0,c1,c2,c3⟩:=I8.r.cells;have f0:=I8.r.free 0;have f1:=I8.r.free 1;have f2:=I8.r.free 2;have f3:=I8.r.free 3;have lr:=I8.r.lt;obtain⟨d0,d1,d2,d3⟩:=(I8.r.set 500 (.slice none 0 0) ⟨#[]⟩ sh).cells;have HB:=hid (Bm (g:=w.heap.size+1+1+1) (st:=500) (vv:=.slice none 0 0) (b:=⟨#[]⟩) (cl:=sh) I8.bl (by omega));unfold setA at d0 d1 d2 d3 HB;clear I8 HI HF1 HF2 HOW HNO ow8;go_wp2_with fail;refine Ae (v:=.agg #[.int .i64 500,.slice none 0 0,.string ⟨#[]⟩,.bool sh]) (by simp[results,results217,go_sem,d0,d1,d2,d3]) rfl ?_;exact⟨⟨_,rfl,Am _ _ _ _⟩,HB.out⟩
    |false=>
     have hf:=HF2.out rfl;subst hf;have t3:=I8.a.free 3;obtain⟨z0,z1,z2,z3⟩:=I8.a.cells;have la8:=I8.a.lt;have A9:AnB w3.heap.size an.st (.slice ax an.fs.length cx) an.b sh (w8.setCell ⟨w3.heap.size,3,none⟩ (.bool sh)):=by
      have:=I8.a;unfold AnB at *
      rw[heap_setCell_same _ w3.heap.size 3 _ _ _ this];rfl
     have R9:=I8.r.bl.other (show w.heap.size+1+1+1≠w3.heap.size by omega) 3 (.bool sh);have R9':AnB (w.heap.size+1+1+1) 0 (.slice none 0 0) ⟨#[]⟩ false _:=R9;have hB9:=I8.bl.setCell (p:=⟨w3.heap.size,3,none⟩) (show w.heap.size<=w3.heap.size by omega) (.bool sh);obtain⟨y0,y1,y2,y3⟩:=A9.cells;obtain⟨c0,c1,c2,c3⟩:=R9'.cells;have f0:=R9'.free 0;have f1:=R9'.free 1;have f2:=R9'.free 2;have f3:=R9'.free 3;have lr:=R9'.lt;have l9:=A9.lt;obtain⟨d0,d1,d2,d3⟩:=(R9'.set an.st (.slice ax an.fs.length cx) an.b sh).cells;have HB:=hid (Bm (g:=w.heap.size+1+1+1) (st:=an.st) (vv:=.slice ax an.fs.length cx) (b:=an.b) (cl:=sh) hB9 (by omega));have HO:=hid (Cg (g:=w.heap.size+1+1+1) (st:=an.st) (vv:=.slice ax an.fs.length cx) (b:=an.b) (cl:=sh) (Bv ow8 (HNO.out _ (Ac _)) 3 (.bool sh)) (HNO.out _ (by omega)));unfold setA at d0 d1 d2 d3 HB HO;clear I8 HI HF1 HF2 HOW HNO ow8 A9 R9 R9' hB9;go_wp2_with fail;refine Ae (v:=.agg #[.int .i64 an.st,.slice ax an.fs.length cx,.string an.b,.bool sh]) (by simp[results,results217,go_sem,d0,d1,d2,d3]) rfl ?_;exact⟨⟨_,rfl,HO.out⟩,HB.out⟩
end Go.Proofs.YtbiggccolpchcaaGreatDoor
