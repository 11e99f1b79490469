/- Joined. -/
import Derived.Test.YtbiggccolpchcaaGreatDoorJoin18
set_option maxRecDepth 100000
set_option maxHeartbeats 4000000
namespace Go.Proofs.YtbiggccolpchcaaGreatDoor
open Go.RowKit _root_.Go.Proofs.Tryz
def b9S:List PanicEntry:=[{v:=.iface 396 (.agg #[]),recovered:=false}]
def Cz(G:Option An)(w:World)(x:Ending)(w':World):Prop:=
 (match G with
  |none=>x=.panicked b9S
  |some a=>∃vv,x=.returned (.agg #[.int .i64 a.st,vv,.string a.b,.bool false])/\w'.ownsRow w.heap.size 131 2 vv a.fs.length (Bg a.fs))/\Bw w w'
theorem Hq(a b:By)(B:Nat)(w:World)(hB:B<=w.heap.size):(w.alloc (.cells #[.string a,.string b] 131)).ownsRow B 131 2 (.slice (some ⟨w.heap.size,0,none⟩) 1 1) [(a,b)].length (Bg [(a,b)]):=
 ⟨by simp[Bg],.inr ⟨w.heap.size,1,#[.string a,.string b],rfl,hB,Ag w _,by simp,by unfold maxLen;omega,by simp,by simp[Bg]⟩⟩
theorem Bh{g b j:Nat}{st:Int}{vv:Value}{bb:By}{cl:Bool}{w:World}(h:b≠g):(setA g st vv bb cl w).cell? ⟨b,j,none⟩=w.cell? ⟨b,j,none⟩:=by
 unfold setA;have hx:∀(k:Nat) (x:Value) (W:World),(W.setCell ⟨g,k,none⟩ x).cell? ⟨b,j,none⟩=W.cell? ⟨b,j,none⟩:=λk x W=>by
  rw[World.cell?_setCell_other _ _ _ _ (λe=>by simp only[Addr.mk.injEq]at e;first|exact h e.1|exact h e.1.symm)]
 rw[hx,hx,hx,hx]
theorem a6B(r:Rn)(w:World)(hr:RnAt r w):
  Calls prog 308 #[.agg r.vals] w (Cz (Ew r.h r.qb r.ps) w):=by
 have HPR:=hid (λW (hW:Bw w W)=>b1M r r.h.n W (hr.below hW));have hA1:=bA w (.cells r.vals 330);have hA2:=hA1.alloc hA1.size (.cells #[.int .i64 0,.slice none 0 0,.string ⟨#[]⟩,.bool false] 49);have hA:=hA2.alloc hA2.size (.cells #[.int .i64 r.h.k,.int .i64 r.h.st,.string r.h.t,.string r.h.n] 73);have z1:(w.alloc (.cells r.vals 330)).heap.size=w.heap.size+1:=by simp
 have z2:((w.alloc (.cells r.vals 330)).alloc (.cells #[.int .i64 0,.slice none 0 0,.string ⟨#[]⟩,.bool false] 49)).heap.size=w.heap.size+1+1:=by simp
 have b1:Below (w.alloc (.cells r.vals 330)).heap.size (w.alloc (.cells r.vals 330)) ((w.alloc (.cells r.vals 330)).alloc (.cells #[.int .i64 0,.slice none 0 0,.string ⟨#[]⟩,.bool false] 49)):=bA _ _;have b2:Below ((w.alloc (.cells r.vals 330)).alloc (.cells #[.int .i64 0,.slice none 0 0,.string ⟨#[]⟩,.bool false] 49)).heap.size ((w.alloc (.cells r.vals 330)).alloc (.cells #[.int .i64 0,.slice none 0 0,.string ⟨#[]⟩,.bool false] 49)) (((w.alloc (.cells r.vals 330)).alloc (.cells #[.int .i64 0,.slice none 0 0,.string ⟨#[]⟩,.bool false] 49)).alloc (.cells #[.int .i64 r.h.k,.int .i64 r.h.st,.string r.h.t,.string r.h.n] 73)):=bA _ _;have R0:RnB w.heap.size r (w.alloc (.cells r.vals 330)):=Ag w _;have A0:AnB (w.heap.size+1) 0 (.slice none 0 0) ⟨#[]⟩ false ((w.alloc (.cells r.vals 330)).alloc (.cells #[.int .i64 0,.slice none 0 0,.string ⟨#[]⟩,.bool false] 49)):=by
  have h:=Ag (w.alloc (.cells r.vals 330)) (.cells #[.int .i64 0,.slice none 0 0,.string ⟨#[]⟩,.bool false] 49);rw[z1]at h;exact h
 have H0:(((w.alloc (.cells r.vals 330)).alloc (.cells #[.int .i64 0,.slice none 0 0,.string ⟨#[]⟩,.bool false] 49)).alloc (.cells #[.int .i64 r.h.k,.int .i64 r.h.st,.string r.h.t,.string r.h.n] 73)).heap[w.heap.size+1+1]?=some (.cells #[.int .i64 r.h.k,.int .i64 r.h.st,.string r.h.t,.string r.h.n] 73):=by
  have h:=Ag ((w.alloc (.cells r.vals 330)).alloc (.cells #[.int .i64 0,.slice none 0 0,.string ⟨#[]⟩,.bool false] 49)) (.cells #[.int .i64 r.h.k,.int .i64 r.h.st,.string r.h.t,.string r.h.n] 73);rw[z2]at h;exact h
 have R1:=(R0.below b1).below b2;have A1:=A0.below b2;have hG:Ew r.h r.qb r.ps=if r.h.k=0 then some ⟨r.h.st,[],r.h.t⟩else if r.h.k=1 then some ⟨r.h.st,[],r.qb⟩else if r.h.k=2 then some ⟨r.h.st,[],stG r.h.n.data.toList r.ps⟩else if r.h.k=3 then some ⟨r.h.st,[(r.h.t,stG r.h.n.data.toList r.ps)],⟨#[]⟩⟩else none:=rfl
 generalize Ew r.h r.qb r.ps=G at *
 generalize stG r.h.n.data.toList r.ps=SV at *
 have HG:=hid hG;obtain⟨r0,r1,r2,r3,r4,r5,r6,r7,r8⟩:=R1.cells;have lr:=R1.lt;clear hr hG R0 R1 A0 b1 b2 z1 z2 hA1 hA2;obtain⟨qm,qt,qb,fs,fa,fc,ps,pa,pc,⟨hk,hst,ht,hn⟩⟩:=r;simp only[Rn.vals]at *
 go_enter func308,ntmps308;go_upto_region 2 with fail;generalize ((w.alloc (.cells #[.string qm,.string qt,.slice fa fs.length fc,.string qb,.slice pa ps.length pc,.int .i64 hk,.int .i64 hst,.string ht,.string hn] 330)).alloc (.cells #[.int .i64 0,.slice none 0 0,.string ⟨#[]⟩,.bool false] 49)).alloc (.cells #[.int .i64 hk,.int .i64 hst,.string ht,.string hn] 73)=w1 at *
 have e0:w1.cell? ⟨w.heap.size+1+1,0,none⟩=some (.int .i64 hk):=by rw[Ab H0];rfl
 have e1:w1.cell? ⟨w.heap.size+1+1,1,none⟩=some (.int .i64 hst):=by rw[Ab H0];rfl
 have e2:w1.cell? ⟨w.heap.size+1+1,2,none⟩=some (.string ht):=by rw[Ab H0];rfl
 have e3:w1.cell? ⟨w.heap.size+1+1,3,none⟩=some (.string hn):=by rw[Ab H0];rfl
 have le:=Ap e0;obtain⟨c0,c1,c2,c3⟩:=A1.cells;have f0:=A1.free 0;have f1:=A1.free 1;have f2:=A1.free 2;have f3:=A1.free 3;have la:=A1.lt;have hhead:∀k:Int,k=0\/k=1\/k=2\/k=3\/(k≠0/\k≠1/\k≠2/\k≠3):=λk=>by omega
 clear H0;rcases hhead hk with rfl|rfl|rfl|rfl|⟨n0,n1,n2,n3⟩
 ·have hg:=HG.out;simp at hg;subst hg;obtain⟨d0,d1,d2,d3⟩:=(A1.set hst (.slice none 0 0) ht false).cells;unfold setA at d0 d1 d2 d3;clear HG HPR;go_wp2_with fail;refine Ae (v:=.agg #[.int .i64 hst,.slice none 0 0,.string ht,.bool false]) (by simp[results,results308,go_sem,d0,d1,d2,d3]) rfl ?_;exact⟨⟨_,rfl,Am _ _ _ _⟩,Bm hA (Al _)⟩
 ·have hg:=HG.out;simp at hg;subst hg;obtain⟨d0,d1,d2,d3⟩:=(A1.set hst (.slice none 0 0) qb false).cells;unfold setA at d0 d1 d2 d3;clear HG HPR;go_wp2_with fail;refine Ae (v:=.agg #[.int .i64 hst,.slice none 0 0,.string qb,.bool false]) (by simp[results,results308,go_sem,d0,d1,d2,d3]) rfl ?_;exact⟨⟨_,rfl,Am _ _ _ _⟩,Bm hA (Al _)⟩
 ·have hg:=HG.out;simp at hg;subst hg;have hb2:=Ad w1.heap.size w1;have HPP:=hid (λW (hW:Bw w1 W)=>HPR.out W (Bc hA hW));obtain⟨d0,d1,d2,d3⟩:=(A1.set hst (.slice none 0 0) SV false).cells;have HA:=hid A1;clear HG HPR;go_upto_region 8 with fail
  go_region_held3 (λW=>W.cell? ⟨w.heap.size,0,none⟩=some (.string qm)/\W.cell? ⟨w.heap.size,1,none⟩=some (.string qt)/\W.cell? ⟨w.heap.size,2,none⟩=some (.slice fa fs.length fc)/\W.cell? ⟨w.heap.size,3,none⟩=some (.string qb)/\W.cell? ⟨w.heap.size,4,none⟩=some (.slice pa ps.length pc)/\W.cell? ⟨w.heap.size,5,none⟩=some (.int .i64 2)/\W.cell? ⟨w.heap.size,6,none⟩=some (.int .i64 hst)/\W.cell? ⟨w.heap.size,7,none⟩=some (.string ht)/\W.cell? ⟨w.heap.size,8,none⟩=some (.string hn)/\W.cell? ⟨w.heap.size+1+1,1,none⟩=some (.int .i64 hst)/\W.cell? ⟨w.heap.size+1+1,3,none⟩=some (.string hn)) (first|go_keep|exact⟨(Bh ne1).trans q0,(Bh ne1).trans q1,(Bh ne1).trans q2,(Bh ne1).trans q3,(Bh ne1).trans q4,(Bh ne1).trans q5,(Bh ne1).trans q6,(Bh ne1).trans q7,(Bh ne1).trans q8,(Bh ne2).trans g1,(Bh ne2).trans g3⟩)
   (first
    |(go_at_call 350;refine(HPP.out _ hb2.drew).mono ?_;rintro x wA ⟨rfl,hbA⟩;have hbB:=Bc hb2.drew hbA;have q0:=Aa hbB r0;have q1:=Aa hbB r1;have q2:=Aa hbB r2;have q3:=Aa hbB r3;have q4:=Aa hbB r4;have q5:=Aa hbB r5;have q6:=Aa hbB r6;have q7:=Aa hbB r7;have q8:=Aa hbB r8;have g1:=Aa hbB e1;have g3:=Aa hbB e3;have AA:=HA.out.below hbB;obtain⟨y0,y1,y2,y3⟩:=AA.cells;have h0:=AA.free 0;have h1:=AA.free 1;have h2:=AA.free 2;have h3:=AA.free 3;have lA:=AA.lt;have ne1:w.heap.size≠w.heap.size+1:=Nat.ne_of_lt (E1z _);have ne2:w.heap.size+1+1≠w.heap.size+1:=Nat.succ_ne_self _;obtain⟨d0,d1,d2,d3⟩:=(AA.set hst (.slice none 0 0) SV false).cells;unfold setA at d0 d1 d2 d3;have hBA:=Bc hA hbB;clear hbA AA))
  all_goals
   go_wp2_with fail;refine Ae (v:=.agg #[.int .i64 hst,.slice none 0 0,.string SV,.bool false]) (by simp[results,results308,go_sem,d0,d1,d2,d3]) rfl ?_;exact⟨⟨_,rfl,Am _ _ _ _⟩,Bm hBA (Al _)⟩
 ·have hg:=HG.out;simp at hg;subst hg;have hb2:=Ad w1.heap.size w1;have HPP:=hid (λW (hW:Bw w1 W)=>HPR.out W (Bc hA hW));have HA:=hid A1;clear HG HPR;go_upto_region 10 with fail
  go_region_held3 (λW=>W.cell? ⟨w.heap.size,0,none⟩=some (.string qm)/\W.cell? ⟨w.heap.size,1,none⟩=some (.string qt)/\W.cell? ⟨w.heap.size,2,none⟩=some (.slice fa fs.length fc)/\W.cell? ⟨w.heap.size,3,none⟩=some (.string qb)/\W.cell? ⟨w.heap.size,4,none⟩=some (.slice pa ps.length pc)/\W.cell? ⟨w.heap.size,5,none⟩=some (.int .i64 3)/\W.cell? ⟨w.heap.size,6,none⟩=some (.int .i64 hst)/\W.cell? ⟨w.heap.size,7,none⟩=some (.string ht)/\W.cell? ⟨w.heap.size,8,none⟩=some (.string hn)/\W.cell? ⟨w.heap.size+1+1,1,none⟩=some (.int .i64 hst)/\W.cell? ⟨w.heap.size+1+1,2,none⟩=some (.string ht)/\W.cell? ⟨w.heap.size+1+1,3,none⟩=some (.string hn)) (first|go_keep|exact⟨(Bh ne1).trans p0,(Bh ne1).trans p1,(Bh ne1).trans p2,(Bh ne1).trans p3,(Bh ne1).trans p4,(Bh ne1).trans p5,(Bh ne1).trans p6,(Bh ne1).trans p7,(Bh ne1).trans p8,(Bh ne2).trans k1,(Bh ne2).trans k2,(Bh ne2).trans k3⟩)
   (first
    |(go_at_call 350;refine(HPP.out _ hb2.drew).mono ?_;rintro x wA ⟨rfl,hbA⟩;have hbB:=Bc hb2.drew hbA;have q0:=Aa hbB r0;have q1:=Aa hbB r1;have q2:=Aa hbB r2;have q3:=Aa hbB r3;have q4:=Aa hbB r4;have q5:=Aa hbB r5;have q6:=Aa hbB r6;have q7:=Aa hbB r7;have q8:=Aa hbB r8;have g1:=Aa hbB e1;have g3:=Aa hbB e3;have g2:=Aa hbB e2;have bF:=bA wA (.cells #[.string ht,.string SV] 131);have p0:=Aa bF q0;have p1:=Aa bF q1;have p2:=Aa bF q2;have p3:=Aa bF q3;have p4:=Aa bF q4;have p5:=Aa bF q5;have p6:=Aa bF q6;have p7:=Aa bF q7;have p8:=Aa bF q8;have k1:=Aa bF g1;have k2:=Aa bF g2;have k3:=Aa bF g3;have AA:=(HA.out.below hbB).below bF;obtain⟨y0,y1,y2,y3⟩:=AA.cells;have h0:=AA.free 0;have h1:=AA.free 1;have h2:=AA.free 2;have h3:=AA.free 3;have lA:=AA.lt;have ne1:w.heap.size≠w.heap.size+1:=Nat.ne_of_lt (E1z _);have ne2:w.heap.size+1+1≠w.heap.size+1:=Nat.succ_ne_self _;obtain⟨d0,d1,d2,d3⟩:=(AA.set hst (.slice (some ⟨wA.heap.size,0,none⟩) 1 1) ⟨#[]⟩ false).cells;unfold setA at d0 d1 d2 d3;have hBA:=Bc (Bc hA hbB) bF;have OW:=hid (Hq ht SV w.heap.size wA (Aj hA.size hbB.size));have neF:wA.heap.size≠w.heap.size+1:=λe=>Nat.lt_irrefl _ (e ▸ (HA.out.below hbB).lt);clear hbA AA))
  all_goals
   go_wp2_with fail;refine Ae (v:=.agg #[.int .i64 hst,.slice (some ⟨wA.heap.size,0,none⟩) 1 1,.string ⟨#[]⟩,.bool false]) (by simp[results,results308,go_sem,d0,d1,d2,d3]) rfl ?_;exact⟨⟨_,rfl,Cg OW.out (by simpa[Value.ownBlock]using neF)⟩,Bm hBA (Al _)⟩
 ·have hg:=HG.out;rw[if_neg n0,if_neg n1,if_neg n2,if_neg n3]at hg;subst hg;have m0:(hk==0)=false:=by simpa using n0
  have m1:(hk==1)=false:=by simpa using n1
  have m2:(hk==2)=false:=by simpa using n2
  have m3:(hk==3)=false:=by simpa using n3
  clear HG HPR n0 n1 n2 n3;go_wp2_with fail;exact⟨rfl,rfl,hA⟩
def Lg:By:=⟨#[76,111,99,97,116,105,111,110]⟩
def Fz:By:=⟨#[65,108,108,111,119]⟩
def El(st:Int)(al lo:By):An:=if st=301\/st=308 then⟨st,[(Lg,lo)],⟨#[]⟩⟩else if st=405 then⟨st,[(Fz,al)],⟨#[]⟩⟩else⟨st,[],⟨#[]⟩⟩
theorem a1P(p:Oa)(qm qt qb:By)(fa:Oa)(fn fc:Nat)(st rt:Int)(pa:Oa)(pn pc:Nat)(al lo:By)(w:World)(h2:st≠200):
  Calls prog 212 #[.pointer p,.agg #[.string qm,.string qt,.slice fa fn fc,.string qb],.agg #[.int .i64 st,.int .i64 rt,.slice pa pn pc,.string al,.string lo]] w (Cz (some (El st al lo)) w):=by
 have hb1:=bA w (.cells #[.string qm,.string qt,.slice fa fn fc,.string qb] 47);have hb2:=hb1.alloc hb1.size (.cells #[.int .i64 st,.int .i64 rt,.slice pa pn pc,.string al,.string lo] 158);have m2:(st==200)=false:=by simpa using h2
 by_cases h3:st=301
 ·subst h3;have eG:El 301 al lo=⟨301,[(Lg,lo)],⟨#[]⟩⟩:=by unfold El;simp
  rw[eG];have hb3:=hb2.alloc hb2.size (.cells #[.int .i64 301,.slice (some ⟨w.heap.size+1+1+1,0,none⟩) 1 1,.string ⟨#[]⟩,.bool false] 49);have hb4:=hb3.alloc hb3.size (.cells #[.string Lg,.string lo] 131);have ho:=Hq Lg lo w.heap.size _ hb3.size;rw[show(((w.alloc (.cells #[.string qm,.string qt,.slice fa fn fc,.string qb] 47)).alloc (.cells #[.int .i64 301,.int .i64 rt,.slice pa pn pc,.string al,.string lo] 158)).alloc (.cells #[.int .i64 301,.slice (some ⟨w.heap.size+1+1+1,0,none⟩) 1 1,.string ⟨#[]⟩,.bool false] 49)).heap.size=w.heap.size+1+1+1 by simp]at ho;have HF:=hid (And.intro ho hb4);clear ho hb4 hb3 hb2 hb1;go_enter func212,ntmps212;go_wp2_with fail;refine Ae (v:=.agg #[.int .i64 301,.slice (some ⟨w.heap.size+1+1+1,0,none⟩) 1 1,.string ⟨#[]⟩,.bool false]) (by simp[results,results212,go_sem]) rfl ?_;exact⟨⟨_,rfl,HF.out.1⟩,HF.out.2⟩
 by_cases h4:st=308
 ·subst h4;have eG:El 308 al lo=⟨308,[(Lg,lo)],⟨#[]⟩⟩:=by unfold El;simp
  rw[eG];have hb3:=hb2.alloc hb2.size (.cells #[.int .i64 308,.slice (some ⟨w.heap.size+1+1+1,0,none⟩) 1 1,.string ⟨#[]⟩,.bool false] 49);have hb4:=hb3.alloc hb3.size (.cells #[.string Lg,.string lo] 131);have ho:=Hq Lg lo w.heap.size _ hb3.size;rw[show(((w.alloc (.cells #[.string qm,.string qt,.slice fa fn fc,.string qb] 47)).alloc (.cells #[.int .i64 308,.int .i64 rt,.slice pa pn pc,.string al,.string lo] 158)).alloc (.cells #[.int .i64 308,.slice (some ⟨w.heap.size+1+1+1,0,none⟩) 1 1,.string ⟨#[]⟩,.bool false] 49)).heap.size=w.heap.size+1+1+1 by simp]at ho;have HF:=hid (And.intro ho hb4);clear ho hb4 hb3 hb2 hb1;go_enter func212,ntmps212;go_wp2_with fail;refine Ae (v:=.agg #[.int .i64 308,.slice (some ⟨w.heap.size+1+1+1,0,none⟩) 1 1,.string ⟨#[]⟩,.bool false]) (by simp[results,results212,go_sem]) rfl ?_;exact⟨⟨_,rfl,HF.out.1⟩,HF.out.2⟩
 by_cases h5:st=405
 ·subst h5;have eG:El 405 al lo=⟨405,[(Fz,al)],⟨#[]⟩⟩:=by unfold El;simp
  rw[eG];have hb3:=hb2.alloc hb2.size (.cells #[.int .i64 405,.slice (some ⟨w.heap.size+1+1+1,0,none⟩) 1 1,.string ⟨#[]⟩,.bool false] 49);have hb4:=hb3.alloc hb3.size (.cells #[.string Fz,.string al] 131);have ho:=Hq Fz al w.heap.size _ hb3.size;rw[show(((w.alloc (.cells #[.string qm,.string qt,.slice fa fn fc,.string qb] 47)).alloc (.cells #[.int .i64 405,.int .i64 rt,.slice pa pn pc,.string al,.string lo] 158)).alloc (.cells #[.int .i64 405,.slice (some ⟨w.heap.size+1+1+1,0,none⟩) 1 1,.string ⟨#[]⟩,.bool false] 49)).heap.size=w.heap.size+1+1+1 by simp]at ho;have HF:=hid (And.intro ho hb4);clear ho hb4 hb3 hb2 hb1;go_enter func212,ntmps212;go_wp2_with fail;refine Ae (v:=.agg #[.int .i64 405,.slice (some ⟨w.heap.size+1+1+1,0,none⟩) 1 1,.string ⟨#[]⟩,.bool false]) (by simp[results,results212,go_sem]) rfl ?_;exact⟨⟨_,rfl,HF.out.1⟩,HF.out.2⟩
 have eG:El st al lo=⟨st,[],⟨#[]⟩⟩:=by unfold El;simp[h3,h4,h5]
 rw[eG];have m3:(st==301)=false:=by simpa using h3
 have m4:(st==308)=false:=by simpa using h4
 have m5:(st==405)=false:=by simpa using h5
 have hb3:=hb2.alloc hb2.size (.cells #[.int .i64 st,.slice none 0 0,.string ⟨#[]⟩,.bool false] 49);clear hb1 hb2 h2 h3 h4 h5;go_enter func212,ntmps212;go_wp2_with fail;refine Ae (v:=.agg #[.int .i64 st,.slice none 0 0,.string ⟨#[]⟩,.bool false]) (by simp[results,results212,go_sem]) rfl ?_;exact⟨⟨_,rfl,Am _ _ _ _⟩,hb3⟩
end Go.Proofs.YtbiggccolpchcaaGreatDoor
