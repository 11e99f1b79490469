/- The server's count. -/
import Derived.Test.YtbiggccolpchcaaGreatDoorJoin08
import Derived.Deep.Cut
set_option maxRecDepth 100000
set_option maxHeartbeats 4000000
namespace Go.Proofs.YtbiggccolpchcaaGreatDoor
open Go.RowKit Go.MuLone _root_.Go.Proofs.Tryz
theorem c4P{s gs q:Nat}{qm qt:By}{w1 W:World}(h1:w1.cell? ⟨s,2,none⟩=some (.pointer (some ⟨gs,0,none⟩)))(h2:w1.cell? ⟨q,0,none⟩=some (.string qm))(h3:w1.cell? ⟨q,1,none⟩=some (.string qt))(hb:Bw w1 W):Bw w1 W/\W.cell? ⟨s,2,none⟩=some (.pointer (some ⟨gs,0,none⟩))/\W.cell? ⟨q,0,none⟩=some (.string qm)/\W.cell? ⟨q,1,none⟩=some (.string qt):=
 ⟨hb,Aa hb h1,Aa hb h2,Aa hb h3⟩
theorem Fc{w1 w2:World}{o:Obj}(hb:Below (w1.alloc o).heap.size (w1.alloc o) w2):w2.heap[w1.heap.size]?=some o:=by
 rw[hb.block w1.heap.size (by simp)];exact Ag w1 o
abbrev fnZ:Array Value:=#[.int .i64 0,.int .i64 0,.slice none 0 0,.string ⟨#[]⟩,.string ⟨#[]⟩]
theorem So{w1 w2:World}(hb:Below (w1.drew.alloc (.cells fnZ 158)).heap.size (w1.drew.alloc (.cells fnZ 158)) w2):w2.cell? ⟨w1.heap.size,0,none⟩=some (.int .i64 0)/\w2.cell? ⟨w1.heap.size,1,none⟩=some (.int .i64 0)/\w2.cell? ⟨w1.heap.size,2,none⟩=some (.slice none 0 0)/\w2.cell? ⟨w1.heap.size,3,none⟩=some (.string ⟨#[]⟩)/\w2.cell? ⟨w1.heap.size,4,none⟩=some (.string ⟨#[]⟩)/\w2.frozen? ⟨w1.heap.size,0,none⟩=false/\w2.frozen? ⟨w1.heap.size,1,none⟩=false/\w2.frozen? ⟨w1.heap.size,2,none⟩=false/\w2.frozen? ⟨w1.heap.size,3,none⟩=false/\w2.frozen? ⟨w1.heap.size,4,none⟩=false:=by
 have h:w2.heap[w1.heap.size]?=some (.cells fnZ 158 (0,0)):=Fc (w1:=w1.drew) hb;refine⟨?_,?_,?_,?_,?_,Ai h 0,Ai h 1,Ai h 2,Ai h 3,Ai h 4⟩<;>(rw[Ab h];rfl)
theorem Ly{w1 w2:World}(h:Bw w1 w2)(a b c d e:Value):Bw w1 (((((w2.setCell ⟨w1.heap.size,0,none⟩ a).setCell ⟨w1.heap.size,1,none⟩ b).setCell ⟨w1.heap.size,2,none⟩ c).setCell ⟨w1.heap.size,3,none⟩ d).setCell ⟨w1.heap.size,4,none⟩ e):=
 ((((h.setCell (Ac _) _).setCell (Ac _) _).setCell (Ac _) _).setCell (Ac _) _).setCell (Ac _) _
structure FuI(st:Int)(ro:Nat)(w1:World)(fb:Nat)(W:World):Prop where
 b:Bw w1 W
 c0:W.cell? ⟨fb,0,none⟩=some (.int .i64 st)
 c1:W.cell? ⟨fb,1,none⟩=some (.int .i64 ro)
 ge:w1.heap.size<=fb
theorem c2A{st:Int}{ro:Nat}{w1 w2:World}{c d e:Value}(h:Bw w1 w2):FuI st ro w1 w2.heap.size (w2.alloc (.cells #[.int .i64 st,.int .i64 ro,c,d,e] 158)):=by
 have b:=Ag w2 (.cells #[.int .i64 st,.int .i64 ro,c,d,e] 158);exact⟨h.alloc h.size _,by rw[Ab b];rfl,by rw[Ab b];rfl,h.size⟩
theorem c2B{st:Int}{ro:Nat}{w1 w2:World}{c d e:Value}(h:Bw w1 w2)(hf:w2.heap[w1.heap.size]?=some (.cells fnZ 158 (0,0))):FuI st ro w1 w1.heap.size (((((w2.setCell ⟨w1.heap.size,0,none⟩ (.int .i64 st)).setCell ⟨w1.heap.size,1,none⟩ (.int .i64 ro)).setCell ⟨w1.heap.size,2,none⟩ c).setCell ⟨w1.heap.size,3,none⟩ d).setCell ⟨w1.heap.size,4,none⟩ e):=by
 have b:=Bj (Bj (Bj (Bj (Bj hf 0 (.int .i64 st)) 1 (.int .i64 ro)) 2 c) 3 d) 4 e;exact⟨Ly h _ _ _ _ _,by rw[Ab b];rfl,by rw[Ab b];rfl,Ac _⟩
theorem b4M(V:Sv)(hs:List Int)(qm qt qb:By)(fa:Oa)(fn fc:Nat)(st e:Int)(ro:Nat)(w:World)(I:SvI V hs w)(hro:st=200->ro<hs.length)(hb:∀x∈hs,0<=x/\x<=4611686018427387904)
  (HD:∀W,Bw w W->Calls prog 145 #[.pointer (some ⟨V.gs,0,none⟩),.string qm,.string qt] W λx w'=>(∃pa,∃pn pc:Nat,∃ua ul:By,x=.returned (.tuple #[.agg #[.int .i64 st,.int .i64 ro,.slice pa pn pc,.string ua,.string ul],.int .i64 e]))/\Bw W w') :
  Calls prog 233 #[.pointer (some ⟨V.s,0,none⟩),.agg #[.string qm,.string qt,.slice fa fn fc,.string qb]] w λx w'=>x=.returned (.tuple #[])/\SvI V (Fo st ro hs) w'/\Kx [V.s,V.h] w w':=by
 have hA:=bA w (.cells #[.string qm,.string qt,.slice fa fn fc,.string qb] 47);have b1:=Ag w (.cells #[.string qm,.string qt,.slice fa fn fc,.string qb] 47);have I1:=I.below hA;have ls:=I1.ls;have q0:(w.alloc (.cells #[.string qm,.string qt,.slice fa fn fc,.string qb] 47)).cell? ⟨w.heap.size,0,none⟩=some (.string qm):=by rw[Ab b1];rfl
 have q1:(w.alloc (.cells #[.string qm,.string qt,.slice fa fn fc,.string qb] 47)).cell? ⟨w.heap.size,1,none⟩=some (.string qt):=by rw[Ab b1];rfl
 obtain⟨-,-,s2,-,-,-⟩:=I1.cells;have HDD:=hid HD;have HI1:=hid I1;clear HD I1 b1
 go_enter_defers func233,ntmps233
 go_upto_region 1 with fail;generalize w.alloc (.cells #[.string qm,.string qt,.slice fa fn fc,.string qb] 47)=w1 at *
 go_cut [4]from 5 (λp wx=>∃fb,p=.pointer (some ⟨fb,0,none⟩)/\Hid (FuI st ro w1 fb wx))
 case first=>
  go_region_held3 (λW=>Bw w1 W/\W.cell? ⟨V.s,2,none⟩=some (.pointer (some ⟨V.gs,0,none⟩))/\W.cell? ⟨w.heap.size,0,none⟩=some (.string qm)/\W.cell? ⟨w.heap.size,1,none⟩=some (.string qt)) ((refine c4P s2 q0 q1 ?_;first|exact(Ad _ _).drew|(have hh:=(‹_/\_/\_/\_›).1;first|exact hh.alloc hh.size _|exact hh.drew|exact hB2|exact hB2.alloc hB2.size _|exact Ly hB2 _ _ _ _ _))) (first|(go_at_call 145;refine(HDD.out (w1.drew.alloc (.cells fnZ 158)) (Bc hA (‹_/\_/\_/\_›).1)).mono ?_;rintro x w2 ⟨⟨pa,pn,pc,ua,ul,rfl⟩,hb2⟩;have hB2:=Bc (‹_/\_/\_/\_›).1 hb2;have F2:=Fc (w1:=w1.drew) hb2;obtain⟨f0,f1,f2,f3,f4,z0,z1,z2,z3,z4⟩:=So hb2)|(go_at_call 145;refine(HDD.out w1.drew (Bc hA (‹_/\_/\_/\_›).1)).mono ?_;rintro x w2 ⟨⟨pa,pn,pc,ua,ul,rfl⟩,hb2⟩;have hB2:=Bc (‹_/\_/\_/\_›).1 hb2))
  all_goals (go_wp2_with fail;go_meet)
  all_goals first|exact⟨_,rfl,c2A hB2⟩|exact⟨_,rfl,c2B hB2 F2⟩
 case rest=>
  obtain⟨fb,rfl,HFU⟩:=hcut;obtain⟨hB,c0,c1,hge⟩:=HFU.out;have Ic:=HI1.out.below hB;have lsc:=Ic.ls;obtain⟨-,-,-,s3,-,s5⟩:=Ic.cells;have z3:wc.frozen? ⟨V.s,3,none⟩=false:=Ai Ic.blk 3;have hK:Kx [V.s,V.h] w wc:=(Kx.of (Bc hA hB));clear HI1 HFU HDD;by_cases hst:st=200
  ·have hk:=hro hst;have hsb:(st != 200)=false:=by rw[hst];rfl
   have hv0:wc.cell? ⟨V.h,ro,none⟩=some (.int .i64 ((hs[ro]?).getD 0)):=by rw[Ab Ic.hit];exact Rm hk
   obtain⟨x,hx⟩:∃x,(hs[ro]?).getD 0=x:=⟨_,rfl⟩;have hxb:0<=x/\x<=4611686018427387904:=by
    rw[<-hx,Av hk];exact hb _ (As hk)
   have zh:wc.frozen? ⟨V.h,ro,none⟩=false:=Ai Ic.hit ro;rw[hx]at hv0;have r0:(0:Int)<=(ro:Int):=by omega
   have r1:(ro:Int)<(hs.length:Int):=by omega
   have hne:=Ic.ne;have hnf:V.s≠fb:=by omega
   have t5:=(World.cell?_setCell_other wc ⟨V.s,3,none⟩ ⟨V.s,5,none⟩ (.int .i32 1) (by simp)).trans s5;have t1:=(World.cell?_setCell_other wc ⟨V.s,3,none⟩ ⟨fb,1,none⟩ (.int .i32 1) (by simp<;>omega)).trans c1;have th:=(World.cell?_setCell_other wc ⟨V.s,3,none⟩ ⟨V.h,ro,none⟩ (.int .i32 1) (by simp<;>omega)).trans hv0;have zt:(wc.setCell ⟨V.s,3,none⟩ (.int .i32 1)).frozen? ⟨V.h,ro,none⟩=false:=by simp[zh]
   have hres:Fo st ro hs=hs.set ro (x+1):=by unfold Fo;rw[if_pos hst,hx]
   obtain⟨R1,R2⟩:=b0S Ic ro (x+1);go_wp2_with (go_at_call 168;refine(lock_free Tryz.muLib ⟨V.s,3,none⟩ _ s3 z3).mono ?_;rintro e w' ⟨rfl,rfl⟩);refine wp_region_noPanic ?_
   go_region
   refine NoPanic.normal ?_;refine leaves_cons (f:=169) (args:=#[.pointer (some ⟨V.s,3,none⟩)]) (by simp) (by simp[go_sem]) ?_;refine(unlock_deferred Tryz.muLib ⟨V.s,3,none⟩ .returning _ ?_ ?_).mono ?_
   ·exact(World.cell?_setCell_other _ ⟨V.h,ro,none⟩ ⟨V.s,3,none⟩ _ (by simp<;>omega)).trans (World.cell?_setCell_same wc ⟨V.s,3,none⟩ (.int .i32 1) s3)
   ·simp[z3]
   rintro e u' w'' ⟨rfl,rfl,rfl⟩;rw[hres];exact⟨_,results_none rfl _ _ _,rfl,R1,hK.trans R2 (λb hb=>.inl hb)⟩
  ·have hsb:(st != 200)=true:=by simpa using hst
   have hres:Fo st ro hs=hs:=if_neg hst;go_wp2_with fail;rw[hres];exact⟨_,results_none rfl _ _ _,rfl,Ic,hK⟩
end Go.Proofs.YtbiggccolpchcaaGreatDoor
