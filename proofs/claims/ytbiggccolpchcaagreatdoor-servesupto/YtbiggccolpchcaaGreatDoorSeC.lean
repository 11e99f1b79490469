/- The reference's play: what comes of all bytes. -/
import Derived.Test.YtbiggccolpchcaaGreatDoorJoin42
set_option maxRecDepth 100000
set_option maxHeartbeats 20000000
namespace Go.Proofs.YtbiggccolpchcaaGreatDoor
open Go.RowKit _root_.Go.Proofs.Tryz
abbrev fdA(D:DsR)(pa:Oa)(pc:Nat)(ua ul:By):Array Value:=#[.int .i64 D.st,.int .i64 D.ro,.slice pa D.ps.length pc,.string ua,.string ul]
theorem c3Q{s gs q:Nat}{qm qt:By}{w1 W:World}(h1:w1.cell? ⟨s,4,none⟩=some (.pointer (some ⟨gs,0,none⟩)))(h2:w1.cell? ⟨q,0,none⟩=some (.string qm))(h3:w1.cell? ⟨q,1,none⟩=some (.string qt))(hb:Bw w1 W):Bw w1 W/\W.cell? ⟨s,4,none⟩=some (.pointer (some ⟨gs,0,none⟩))/\W.cell? ⟨q,0,none⟩=some (.string qm)/\W.cell? ⟨q,1,none⟩=some (.string qt):=
 ⟨hb,Aa hb h1,Aa hb h2,Aa hb h3⟩
structure FdI(D:DsR)(w1:World)(fb:Nat)(W:World):Prop where
 b:Bw w1 W
 ge:w1.heap.size<=fb
 x:∃pa pc,∃ua ul:By,W.heap[fb]?=some (.cells (fdA D pa pc ua ul) 158 (0,0))/\ua.data.toList=D.al/\ul.data.toList=D.lo/\Df D.ps pa W/\∀g o,pa=some ⟨g,o,none⟩->w1.heap.size<=g
theorem c3R{D:DsR}{w1 w2:World}{B:Nat}{pa:Oa}{pc:Nat}{ua ul:By}(h:Bw w1 w2)(hBB:w1.heap.size<=B)(ho:w2.ownsRow B 129 2 (.slice pa D.ps.length pc) D.ps.length (Bg D.ps))(hua:ua.data.toList=D.al)(hul:ul.data.toList=D.lo):FdI D w1 w2.heap.size (w2.alloc (.cells (fdA D pa pc ua ul) 158)):=
 ⟨h.alloc h.size _,h.size,pa,pc,ua,ul,Ag w2 _,hua,hul,(Nb ho).below (bA _ _),λg o e=>Aj hBB (Bx ho g (by rw[e];rfl))⟩
theorem c3S{D:DsR}{w1 w2:World}{pa:Oa}{pc:Nat}{ua ul:By}(h:Bw w1 w2)(hf:w2.heap[w1.heap.size]?=some (.cells fnZ 158 (0,0)))(ho:w2.ownsRow (w1.heap.size+1) 129 2 (.slice pa D.ps.length pc) D.ps.length (Bg D.ps))(hua:ua.data.toList=D.al)(hul:ul.data.toList=D.lo):FdI D w1 w1.heap.size (((((w2.setCell ⟨w1.heap.size,0,none⟩ (.int .i64 D.st)).setCell ⟨w1.heap.size,1,none⟩ (.int .i64 D.ro)).setCell ⟨w1.heap.size,2,none⟩ (.slice pa D.ps.length pc)).setCell ⟨w1.heap.size,3,none⟩ (.string ua)).setCell ⟨w1.heap.size,4,none⟩ (.string ul)):=by
 have b:=Bj (Bj (Bj (Bj (Bj hf 0 (.int .i64 D.st)) 1 (.int .i64 D.ro)) 2 (.slice pa D.ps.length pc)) 3 (.string ua)) 4 (.string ul);have hno:∀r,(Value.slice pa D.ps.length pc).ownBlock=some r->r≠w1.heap.size:=λr hr=>by have:=(Fl ho hr).1;omega
 refine⟨Ly h _ _ _ _ _,Ac _,pa,pc,ua,ul,b,hua,hul,Nb (B:=w1.heap.size+1) (T:=129) (c:=pc) (Es ho (λr hr=>?_)),λg o e=>by have:=Bx ho g (by rw[e];rfl);omega⟩;rw[Aw _ _ _ _ (hno r hr),Aw _ _ _ _ (hno r hr),Aw _ _ _ _ (hno r hr),Aw _ _ _ _ (hno r hr),Aw _ _ _ _ (hno r hr)]
theorem c1A{s q f:Nat}{s0 s1 s2 s3 q0 q1 q2 q3 f0 f1 f2 f3 f4:Value}{w1 W:World}(a0:w1.cell? ⟨s,0,none⟩=some s0)(a1:w1.cell? ⟨s,1,none⟩=some s1)(a2:w1.cell? ⟨s,2,none⟩=some s2)(a3:w1.cell? ⟨s,3,none⟩=some s3)(b0:w1.cell? ⟨q,0,none⟩=some q0)(b1:w1.cell? ⟨q,1,none⟩=some q1)(b2:w1.cell? ⟨q,2,none⟩=some q2)(b3:w1.cell? ⟨q,3,none⟩=some q3)(c0:w1.cell? ⟨f,0,none⟩=some f0)(c1:w1.cell? ⟨f,1,none⟩=some f1)(c2:w1.cell? ⟨f,2,none⟩=some f2)(c3:w1.cell? ⟨f,3,none⟩=some f3)(c4:w1.cell? ⟨f,4,none⟩=some f4)(hb:Bw w1 W):
  Bw w1 W/\W.cell? ⟨s,0,none⟩=some s0/\W.cell? ⟨s,1,none⟩=some s1/\W.cell? ⟨s,2,none⟩=some s2/\W.cell? ⟨s,3,none⟩=some s3/\W.cell? ⟨q,0,none⟩=some q0/\W.cell? ⟨q,1,none⟩=some q1/\W.cell? ⟨q,2,none⟩=some q2/\W.cell? ⟨q,3,none⟩=some q3/\W.cell? ⟨f,0,none⟩=some f0/\W.cell? ⟨f,1,none⟩=some f1/\W.cell? ⟨f,2,none⟩=some f2/\W.cell? ⟨f,3,none⟩=some f3/\W.cell? ⟨f,4,none⟩=some f4:=
 ⟨hb,Aa hb a0,Aa hb a1,Aa hb a2,Aa hb a3,Aa hb b0,Aa hb b1,Aa hb b2,Aa hb b3,Aa hb c0,Aa hb c1,Aa hb c2,Aa hb c3,Aa hb c4⟩
def Nh(C:Cf)(B:L8)(w:World)(x:Ending)(w':World):Prop:=
 (∃vr rts,x=.returned (.agg (plA (Bk C B).out (Bk C B).rq (Bk C B).held.length (Bk C B).cl vr))/\w'.ownsRow w.heap.size 3 1 vr rts.length (Zc rts)/\(Bk C B).hs=Fm C.rs.length rts/\rts.length<=B.length/\∀r∈rts,r<C.rs.length)/\Bw w w'
theorem Jm{C:Cf}{sr gt:Nat}{ar:Oa}{cr:Nat}{aw:Oa}{cw:Nat}{vc:Value}{es:List Prm}{v:Value}(l:L8)(w:World)(h:RsI C sr gt ar cr aw cw vc es v w)(hl:l.length<=2000000):
  Calls prog 118 #[.pointer (some ⟨sr,0,none⟩),.string ⟨l.toArray⟩] w (Nh C l w):=by
 obtain⟨i0,hi,hz0,hz1,hz2⟩:=info_parts Yz;unfold Nh;generalize hFIN:Bk C l=FIN;have HFIN:Hid (Ch C (l.length+1) ⟨l,[],0,false,Fm C.rs.length []⟩=FIN):=by rw[b8C];exact hFIN
 have HI0:=hid (c3P w);have HH:=hid h;have HOK:=hid h.ok;clear h hFIN;go_enter func118,ntmps118;go_wp2_with fail
 go_loopg [1,6,7,8,9,10] (l.length+1) (λg inn _ _ _ _ _ wr=>∃(R out:L8) (rq:Nat) (rts:List Nat) (vr:Value),inn=.string ⟨R.toArray⟩/\R.length+1<=g/\Ch C g ⟨R,out,rq,false,Fm C.rs.length rts⟩=FIN/\out.length+R.length*34000000<=l.length*34000000/\rq+R.length<=l.length/\rts.length<=rq/\(∀r∈rts,r<C.rs.length)/\PlI w out rq 0 false rts vr wr)
 case atStart=>exact⟨l,[],0,[],_,rfl,Ac _,HFIN.out,by simp,by simp,by simp,by simp,HI0.out⟩
 case round=>
  obtain⟨R,out,rq,rts,vr,rfl,hg,hS,ho,hn,hrt,hrl,I⟩:=hrel;obtain⟨va,vc2,rfl⟩:=Ce I.own
  cases gk with
  |zero=>exact absurd hg (by omega)
  |succ f=>
   have hRl:R.length<=2000000:=by omega
   have HW:=hid (HH.out.below I.bel);obtain⟨c0,c1,c2,c3,c4,c5⟩:=HW.out.cells;have lI:=I.lt;have lsr:=HW.out.lt;have HF:=hid (a3M C.hd C.bd R wr hRl);have HE:=hid (c0R R C.hd C.bd (Mi HOK.out.E));have HSM:=hid (Dh R C.hd C.bd);have HAS:=hid (Uk HOK.out R hRl);have HDS:=hid (λW (hb:Bw wr W) h0=>a7V (HW.out.below hb) R hRl h0);have HRP:=hid (λW (hb:Bw w W) h0=>a7W (HH.out.below hb) R hRl h0);have HOKD:Hid ((Bi R C.hd C.bd).1=0->(Eg C (Bi R C.hd C.bd)).st=200->(Eg C (Bi R C.hd C.bd)).ro<C.rs.length):=λh0 hst=>c3O HW.out R h0 hst;have HFN:=hid (Kc (Mi HOK.out.E));rw[Ch,if_neg (by simp)]at hS;have HRN:Hid (R=[]->(Bi R C.hd C.bd).1=2):=λe=>by subst e;exact HFN.out
   simp only at hS;generalize hFF:Bi R C.hd C.bd=F at *
   clear hFF HFN;have HI:=hid I;have HS:=hid hS;clear I hS;go_wp2_with fail;refine HF.out.mono ?_;rintro x w2 ⟨⟨fa,cap,rfl,hfl,hfar⟩,hb2⟩;have HQ:=hid (b7G (F:=F) (cap:=cap) hb2 hfl hfar (Ac _));clear hfl hfar HF;go_upto_region 3 with fail;generalize w2.alloc (.cells (rqF F fa cap) 47)=wq at *
   generalize w2.heap.size=qb at *
   have IC:=HI.out.below HQ.out.bel;obtain⟨x0,x1,x2,x3,x4⟩:=IC.xcells;obtain⟨r0,r1,r2,r3,r4⟩:=IC.rcells;have lC:=IC.lt;have lC0:w.heap.size<wq.heap.size:=by omega
   have fr0:=Ai IC.rb 0;have fr1:=Ai IC.rb 1;have fr2:=Ai IC.rb 2;have fr3:=Ai IC.rb 3;have fr4:=Ai IC.rb 4;have fx2:=Ai IC.xb 2;have HIC:=hid IC;by_cases h2:F.1=2
   ·have b2:(F.1==2)=true:=by rw[h2];rfl
    rw[if_pos h2]at HS;have HS2:=HS.out;subst HS2;have hsz:(ByteArray.mk R.toArray).size=R.length:=by show R.toArray.size=_;simp
    have IL:=IC.left R.length;clear IC HIC HRP HDS HQ HSM HAS HE HOKD c0 c1 c2 c3 c4 c5;go_upto_region 5 with fail;generalize wq.setCell ⟨w.heap.size+1,2,none⟩ (.int .i64 (R.length:Int))=W3 at *
    obtain⟨s0,s1,s2,s3,s4⟩:=IL.xcells;obtain⟨t0,t1,t2,t3,t4⟩:=IL.rcells;have l3:=IL.lt;have l30:w.heap.size<W3.heap.size:=by omega
    have zr0:=Ai IL.rb 0;have zr1:=Ai IL.rb 1;have zr2:=Ai IL.rb 2;have zr3:=Ai IL.rb 3;have zr4:=Ai IL.rb 4;have FI:=hid IL.fin;clear IL;go_wp2_with fail;obtain⟨f1,f2,f3⟩:=FI.out;unfold plW at f1 f2 f3;generalize (((((W3.setCell ⟨w.heap.size,0,none⟩ (.string ⟨out.toArray⟩)).setCell ⟨w.heap.size,1,none⟩ (.int .i64 (rq:Int))).setCell ⟨w.heap.size,2,none⟩ (.int .i64 (R.length:Int))).setCell ⟨w.heap.size,3,none⟩ (.bool false)).setCell ⟨w.heap.size,4,none⟩ (Value.slice va rts.length vc2))=wf at *
    have e0:=(Ab f1 (j:=0)).trans (show _=some (Value.string ⟨out.toArray⟩)from rfl);have e1:=(Ab f1 (j:=1)).trans (show _=some (Value.int .i64 (rq:Int))from rfl);have e2:=(Ab f1 (j:=2)).trans (show _=some (Value.int .i64 (R.length:Int))from rfl);have e3:=(Ab f1 (j:=3)).trans (show _=some (Value.bool false)from rfl);have e4:=(Ab f1 (j:=4)).trans (show _=some (Value.slice va rts.length vc2)from rfl)
    try rw[Exit.noGoto_ret]
    refine Ae (v:=.agg (plA out rq R.length false (Value.slice va rts.length vc2))) ?_ ?_ ?_
    ·simp[results,results118,go_sem,e0,e1,e2,e3,e4]
    ·rfl
    first|exact⟨⟨_,rts,rfl,f2,rfl,by omega,hrl⟩,f3⟩|exact⟨⟨_,rfl,rts,f2,rfl,by omega,hrl⟩,f3⟩
   rw[if_neg h2]at HS;have b2:(F.1==2)=false:=by simpa using h2
   have hne:1<=R.length:=by
    rcases Nat.eq_zero_or_pos R.length with q|q
    ·exact absurd (HRN.out (Ay q)) h2
    ·exact q
   by_cases h0:F.1=0
   ·have b0:(F.1 != 0)=false:=by rw[h0];rfl
    rw[if_pos h0]at HS;have hsm:=HSM.out h0;have hu:=hsm.u;have hv:=hsm.v;obtain⟨hAB,hAL⟩:=HAS.out h0;have HRO:=hid (HOKD.out h0);have HD2:=hid (λW hb=>HDS.out W hb h0);have HR2:=hid (λW hb=>HRP.out W hb h0);have q0:wq.cell? ⟨qb,0,none⟩=some (.string ⟨F.2.1.toArray⟩):=by rw[Ab HQ.out.blk];rfl
    have q1:wq.cell? ⟨qb,1,none⟩=some (.string ⟨F.2.2.1.toArray⟩):=by rw[Ab HQ.out.blk];rfl
    have q2:wq.cell? ⟨qb,2,none⟩=some (.slice fa (Bq F.2.2.2.1).length cap):=by rw[Ab HQ.out.blk];rfl
    have q3:wq.cell? ⟨qb,3,none⟩=some (.string ⟨F.2.2.2.2.1.toArray⟩):=by rw[Ab HQ.out.blk];rfl
    have lqb:=heap_lt HQ.out.blk;have gqb:=HQ.out.ge;have gwc:=HQ.out.bel.size;have lvm:∀r,(Value.slice va rts.length vc2).ownBlock=some r->r<wr.heap.size:=λr hr=>(Fl HI.out.own hr).2;have WC:=HW.out.below HQ.out.bel;obtain⟨k0,k1,k2,k3,k4,k5⟩:=WC.cells;have lks:=WC.lt;have HBQ:=hid HQ.out.bel;have HBK:=hid HQ.out.blk;have HFA:=hid HQ.out.far;have HFL:=hid HQ.out.fl;clear HRP HDS HQ HSM HAS HE HOKD hsm c0 c1 c2 c3 c4 c5 r0 r1 r2 r3 r4 fr0 fr1 fr2 fr3 fr4 fx2 IC x0 x1 x2 x3 x4 WC;clear h0;generalize hDD:Eg C F=D at *
    generalize hAN:Ef C F=AN at *
    have HDD:=hid hDD;have HAN:=hid hAN;clear hDD hAN;go_upto_region 10 with fail;go_cut [9]from 11 to 84 (λp wx=>∃fb,p=.pointer (some ⟨fb,0,none⟩)/\Hid (FdI D wq fb wx))
    case first=>
     go_region_held3 (λW=>Bw wq W/\W.cell? ⟨sr,4,none⟩=some (.pointer (some ⟨gt,0,none⟩))/\W.cell? ⟨qb,0,none⟩=some (.string ⟨F.2.1.toArray⟩)/\W.cell? ⟨qb,1,none⟩=some (.string ⟨F.2.2.1.toArray⟩)) ((refine c3Q k4 q0 q1 ?_;first|exact(Ad _ _).drew|(have hh:=(‹_/\_/\_/\_›).1;first|exact hh.alloc hh.size _|exact hh.drew|exact hB2|exact hB2.alloc hB2.size _|exact Ly hB2 _ _ _ _ _))) (first|(go_at_call 147;refine(HD2.out (wq.drew.alloc (.cells fnZ 158)) (Bc HBQ.out (‹_/\_/\_/\_›).1)).mono ?_;rintro x w3 ⟨⟨vv,ua,ul,rfl,hua,hul,ow⟩,hb3⟩;obtain⟨pa,pc,rfl⟩:=Ce ow;have hB2:=Bc (‹_/\_/\_/\_›).1 hb3;have F2:=Fc (w1:=wq.drew) hb3;obtain⟨f0,f1,f2,f3,f4,z0,z1,z2,z3,z4⟩:=So hb3)|(go_at_call 147;refine(HD2.out wq.drew (Bc HBQ.out (‹_/\_/\_/\_›).1)).mono ?_;rintro x w3 ⟨⟨vv,ua,ul,rfl,hua,hul,ow⟩,hb3⟩;obtain⟨pa,pc,rfl⟩:=Ce ow;have hB2:=Bc (‹_/\_/\_/\_›).1 hb3))
     all_goals (go_wp2_with fail;go_meet)
     all_goals first|exact⟨_,rfl,c3R hB2 (Ac _) ow hua hul⟩|exact⟨_,rfl,c3S hB2 F2 (Gu ow (by simp)) hua hul⟩
    case rest=>
     obtain⟨fb,rfl,HFD⟩:=hcut;obtain⟨wd,hwd⟩:∃x,x=wc:=⟨_,rfl⟩;subst hwd;obtain⟨hB,hge,pa,pc,ua,ul,hbk,hua,hul,hfp,hpf⟩:=HFD.out;have ID:=HIC.out.below hB;have lD:=ID.lt;have gfb:fb<wd.heap.size:=heap_lt hbk;have HQB:Hid (wd.heap[qb]?=some (.cells (rqF F fa cap) 47 (0,0))):=by rw[Hid,hB.block qb lqb];exact HBK.out
     have HFB:=hid hbk;have HFL2:=hid (HFL.out.below hB);have HPL2:=hid hfp;have g0:wd.cell? ⟨fb,0,none⟩=some (.int .i64 D.st):=by rw[Ab hbk];rfl
     have g1:wd.cell? ⟨fb,1,none⟩=some (.int .i64 D.ro):=by rw[Ab hbk];rfl
     have HID:=hid ID;have HSEEN:Hid (∀wE rts' vr',Kx ((w.heap.size+1)::(Value.slice va rts.length vc2).ownBlock.toList) wd wE->PlI w out rq 0 false rts' vr' wE->(wE.heap[qb]?=some (.cells (rqF F fa cap) 47 (0,0))/\wE.heap[fb]?=some (.cells (fdA D pa pc ua ul) 158 (0,0))/\Df (Bq F.2.2.2.1) fa wE/\Df D.ps pa wE)):=λwE rts' vr' hk hp=>by
      have hn:∀b,wr.heap.size<=b->b∉(w.heap.size+1)::(Value.slice va rts.length vc2).ownBlock.toList:=λb hb hm=>by
       rw[C3z,B5z]at hm;rcases hm with q|q
       ·omega
       ·have:=lvm b q;omega
      exact⟨hk.heap HQB.out (hn _ (by omega)),hk.heap HFB.out (hn _ (by omega)),a2V HFL2.out hk (λg o e=>hn g (HFA.out g o e).1),a2V HPL2.out hk (λg o e=>hn g (by have:=hpf g o e;omega))⟩
     clear HFD hbk ID;by_cases hst:D.st=200
     case' pos=>
      have bst:(D.st==200)=true:=by rw[hst];rfl
      obtain⟨x0,x1,x2,x3,x4⟩:=HID.out.xcells;have o6:=HID.out.own;have hrl2:rts.length<=2000000:=by omega
      go_upto_region 13 with(at_builtin;refine wpList_append_own _ rfl _ _ 38 rfl (w.heap.size+2) 3 i0 (.int .i64 0) 1 8 underlying38 hi hz0 hz1 hz2 rfl (by decide) _ _ _ rfl (o6.alloc _) ⟨wd.heap.size,0,none⟩ 1 1 [.int .i64 (D.ro:Int)] rfl rfl (by intro j u hj;match j,hj with|0,hj=>simp at hj;subst hj;simp[Addr.add]) (by intro u hu;simp at hu;subst hu;rfl) (by unfold maxLen;omega) (by omega) (by simp;omega) ?_);intro v' w7 hown' hgrow _;obtain⟨va',vc',rfl⟩:=Ce hown';have hvx:(Value.slice va rts.length vc2).ownBlock≠some (w.heap.size+1):=λe=>by have:=Bx o6 _ e;omega
      have hx7:=(PlI.kept hgrow (w.heap.size+1) lD hvx).trans HID.out.xb;have c7:w7.cell? ⟨w.heap.size+1,4,none⟩=some (.slice va rts.length vc2):=by rw[Ab hx7];rfl
      have z7:=Ai hx7 4;have l7:=heap_lt hx7;have I8:=HID.out.more hown' hgrow;have K8:=PlI.moreK (g:=w.heap.size+1) (v:=.slice va' (rts.length+1) vc') hgrow;go_upto_region 13 with fail;generalize w7.setCell ⟨w.heap.size+1,4,none⟩ (.slice va' (rts.length+1) vc')=wE at *
      have HCN:Hid (Fo D.st D.ro (Fm C.rs.length rts)=Fm C.rs.length (rts++[D.ro])):=by rw[Hid,hst];exact a9R _ _ _ (HRO.out hst)
      have hrt':(rts++[D.ro]).length<=rq+1:=by rw[A0z];simp;omega
      have hrl':∀r∈rts++[D.ro],r<C.rs.length:=λr hr=>by
       rw[D3z,C4z]at hr;rcases hr with q|q
       ·exact hrl r q
       ·rw[q];exact HRO.out hst
      have HIE:=hid I8;have HSE:=hid (HSEEN.out wE _ _ K8 I8);clear o6 hown' hgrow hx7 c7 z7 l7 K8 I8 x0 x1 x2 x3 x4;generalize rts++[D.ro]=rts' at *
      generalize Value.slice va' (rts.length+1) vc'=vr' at *
     case' neg=>
      have bst:(D.st==200)=false:=by simpa using hst
      go_upto_region 13 with fail;have HCN:Hid (Fo D.st D.ro (Fm C.rs.length rts)=Fm C.rs.length rts):=if_neg hst;have hrt':rts.length<=rq+1:=by omega
      have hrl':=hrl;have HIE:=hid HID.out;have HSE:=hid (HSEEN.out wd _ _ (Kx.refl _ _) HID.out);obtain⟨wE,hwE⟩:∃x,x=wd:=⟨_,rfl⟩;subst hwE;obtain⟨rts',hrr⟩:∃x,x=rts:=⟨_,rfl⟩;obtain⟨vr',hvv⟩:∃x,x=Value.slice va rts.length vc2:=⟨_,rfl⟩;rw[<-hvv]at HIE;have HCN2:Hid (Fo D.st D.ro (Fm C.rs.length rts)=Fm C.rs.length rts'):=by rw[hrr];exact HCN.out
      rw[<-hrr]at HIE hrt' hrl';clear hrr hvv HCN;have HCN:=HCN2;clear HCN2
     all_goals
      obtain⟨va2,vc3,hvr2⟩:=Ce HIE.out.own;subst hvr2;obtain⟨eq1,eq2,eq3,eq4⟩:=HSE.out;have WE:=HH.out.below HIE.out.bel;obtain⟨k0,k1,k2,k3,k4,k5⟩:=WE.cells;have lsE:=WE.lt;have q0:wE.cell? ⟨qb,0,none⟩=some (.string ⟨F.2.1.toArray⟩):=by rw[Ab eq1];rfl
      have q1:wE.cell? ⟨qb,1,none⟩=some (.string ⟨F.2.2.1.toArray⟩):=by rw[Ab eq1];rfl
      have q2:wE.cell? ⟨qb,2,none⟩=some (.slice fa (Bq F.2.2.2.1).length cap):=by rw[Ab eq1];rfl
      have q3:wE.cell? ⟨qb,3,none⟩=some (.string ⟨F.2.2.2.2.1.toArray⟩):=by rw[Ab eq1];rfl
      have g0:wE.cell? ⟨fb,0,none⟩=some (.int .i64 D.st):=by rw[Ab eq2];rfl
      have g1:wE.cell? ⟨fb,1,none⟩=some (.int .i64 D.ro):=by rw[Ab eq2];rfl
      have g2:wE.cell? ⟨fb,2,none⟩=some (.slice pa D.ps.length pc):=by rw[Ab eq2];rfl
      have g3:wE.cell? ⟨fb,3,none⟩=some (.string ua):=by rw[Ab eq2];rfl
      have g4:wE.cell? ⟨fb,4,none⟩=some (.string ul):=by rw[Ab eq2];rfl
      have lqE:=heap_lt eq1;have lfE:=heap_lt eq2;have HR3:Hid (∀W,Bw wE W->Calls prog 149 #[.agg #[.int .i64 C.hd,.int .i64 C.bd,.slice ar C.rs.length cr,.slice aw C.ws.length cw],.agg #[.string ⟨F.2.1.toArray⟩,.string ⟨F.2.2.1.toArray⟩,.slice fa (Bq F.2.2.2.1).length cap,.string ⟨F.2.2.2.2.1.toArray⟩],.agg #[.int .i64 D.st,.int .i64 D.ro,.slice pa D.ps.length pc,.string ua,.string ul]] W (Yy AN W)):=λW hb=>HR2.out W (Bc HIE.out.bel hb) fa cap pa pc ua ul hua hul (eq3.below hb) (eq4.below hb);have HQE:=hid eq1;clear HR2 HSEEN HSE eq1 eq2 eq3 eq4 WE HD2 HID HIC HPL2 HFL2 HFL HFA HBK HFB HQB;clear hst bst;have hdr:Bw wE wE.drew:=(Ad _ _).drew;have hdz:Bw wE (wE.drew.alloc (.cells anZ 49)):=hdr.alloc (Ac _) _;have HCM:Hid ((wE.alloc (.cells anZ 49)).drew=wE.drew.alloc (.cells anZ 49)):=rfl;go_cut [10]from 11 to 84 (λp wx=>∃ab,p=.pointer (some ⟨ab,0,none⟩)/\Hid (AuI AN.st AN.fs.length (Bg AN.fs) AN.b AN.cl wE ab wx))
      case first=>
       go_region_held3 (λW=>Bw wE W/\W.cell? ⟨sr,0,none⟩=some (.int .i64 C.hd)/\W.cell? ⟨sr,1,none⟩=some (.int .i64 C.bd)/\W.cell? ⟨sr,2,none⟩=some (.slice ar C.rs.length cr)/\W.cell? ⟨sr,3,none⟩=some (.slice aw C.ws.length cw)/\W.cell? ⟨qb,0,none⟩=some (.string ⟨F.2.1.toArray⟩)/\W.cell? ⟨qb,1,none⟩=some (.string ⟨F.2.2.1.toArray⟩)/\W.cell? ⟨qb,2,none⟩=some (.slice fa (Bq F.2.2.2.1).length cap)/\W.cell? ⟨qb,3,none⟩=some (.string ⟨F.2.2.2.2.1.toArray⟩)/\W.cell? ⟨fb,0,none⟩=some (.int .i64 D.st)/\W.cell? ⟨fb,1,none⟩=some (.int .i64 D.ro)/\W.cell? ⟨fb,2,none⟩=some (.slice pa D.ps.length pc)/\W.cell? ⟨fb,3,none⟩=some (.string ua)/\W.cell? ⟨fb,4,none⟩=some (.string ul)) ((refine c1A k0 k1 k2 k3 q0 q1 q2 q3 g0 g1 g2 g3 g4 ?_;first|exact hdr|exact hdz|exact hB3|exact hB3.alloc hB3.size _|exact Pq hB3 _ _ _ _)) (first|(go_at_call 149;rw[HCM.out];refine Calls.mono (HR3.out (wE.drew.alloc (.cells anZ 49)) hdz) ?_;rintro x w3 ⟨⟨vv,rfl,ow⟩,hb3⟩;obtain⟨xa,xc,rfl⟩:=Ce ow;have hB3:=Bc hdz hb3;have F3:=Fc (w1:=wE.drew) hb3;obtain⟨f0,f1,f2,f3,z0,z1,z2,z3⟩:=a9I hb3)|(go_at_call 149;refine Calls.mono (HR3.out wE.drew hdr) ?_;rintro x w3 ⟨⟨vv,rfl,ow⟩,hb3⟩;obtain⟨xa,xc,rfl⟩:=Ce ow;have hB3:=Bc hdr hb3))
       all_goals (go_wp2_with fail;go_meet)
       all_goals first|exact⟨_,rfl,b6Z hB3 ow (Ac _)⟩|exact⟨_,rfl,b7A hB3 F3 (Gu ow (by simp))⟩
      case rest=>
       obtain⟨ab,rfl,HAU⟩:=hcut;obtain⟨wf,hwf⟩:∃x,x=wc:=⟨_,rfl⟩;subst hwf;obtain⟨hB4,hge4,xa,xc,hab,hao,-⟩:=HAU.out;have I4:=HIE.out.below hB4;have eqb:wf.heap[qb]?=some (.cells (rqF F fa cap) 47 (0,0)):=by rw[hB4.block qb lqE];exact HQE.out
       have u0:wf.cell? ⟨qb,0,none⟩=some (.string ⟨F.2.1.toArray⟩):=by rw[Ab eqb];rfl
       have a0:wf.cell? ⟨ab,0,none⟩=some (.int .i64 AN.st):=by rw[Ab hab];rfl
       have a1:wf.cell? ⟨ab,1,none⟩=some (.slice xa AN.fs.length xc):=by rw[Ab hab];rfl
       have a2:wf.cell? ⟨ab,2,none⟩=some (.string AN.b):=by rw[Ab hab];rfl
       have a3:wf.cell? ⟨ab,3,none⟩=some (.bool AN.cl):=by rw[Ab hab];rfl
       have lab:=heap_lt hab;have lq4:=heap_lt eqb;have l4:=I4.lt;have gE:=HIE.out.lt;obtain⟨x0',x1',x2',x3',x4'⟩:=I4.xcells;have hsz:(ByteArray.mk R.toArray).size=R.length:=by show R.toArray.size=_;simp
       have HRR:Hid (∀W,Bw wf W->Calls prog 101 #[.string ⟨F.2.1.toArray⟩,.agg (anA AN.st (.slice xa AN.fs.length xc) AN.b AN.cl)] W λe w'=>e=.returned (.string ⟨(Hd C F).toArray⟩)/\Bw W w'):=λW hb=>by
        have:=Oo ⟨F.2.1.toArray⟩ AN hAB xa xc W ((Nb hao).below hb);unfold Hd;rw[HAN.out];exact this
       have HS3:Hid (Ch C f (Ga ⟨R.drop F.2.2.2.2.2,out,rq+1,false,Fm C.rs.length rts'⟩ (Hd C F) AN.cl)=FIN):=by
        have:=HS.out;unfold Dd at this;rw[HDD.out,HAN.out,HCN.out]at this;exact this
       generalize hTX:Hd C F=TX at *
       have hx3:¬(9223372036854775807<out.length+TX.length):=by omega
       have hxa:(ByteArray.mk out.toArray)++(ByteArray.mk TX.toArray)=⟨(out++TX).toArray⟩:=Yu out ⟨TX.toArray⟩;have r0:(0:Int)<=(rq:Int)+1:=by omega
       have r1:(rq:Int)+1<=9223372036854775807:=by omega
       have HI4:=hid I4;clear I4 hTX hAB HAU hab eqb HQE HIE HR3 HS HCN hao k0 k1 k2 k3 k4 k5 q0 q1 q2 q3 g0 g1 g2 g3 g4;go_upto_region 14 with fail;go_cut [8]from 11 to 84 (λe wx=>e=.int .i64 F.1/\Hid (PlI w (out++TX) rq 0 false rts' (.slice va2 rts'.length vc3) wx/\wx.cell? ⟨ab,3,none⟩=some (.bool AN.cl)))
       case first=>
        go_region_law (refine Mg (f:=101) rfl func101 (by kernel_rfl) (by kernel_rfl) _ _ rfl #[.string ⟨F.2.1.toArray⟩,.agg (anA AN.st (.slice xa AN.fs.length xc) AN.b AN.cl)] (by simp[Act.eval]) (HRR.out wf.drew (Ad _ _).drew) ?_;intro w5 hb5;have hb5':Bw wf w5:=(Ad wf.heap.size wf).drew.trans hb5;obtain⟨y0,y1,y2,y3,y4⟩:=(HI4.out.below hb5').xcells;have zf0:=Ai (HI4.out.below hb5').xb 0;have l5:=(HI4.out.below hb5').lt)
        all_goals
         have a5:(w5.setCell ⟨w.heap.size+1,0,none⟩ (.string ⟨(out++TX).toArray⟩)).cell? ⟨ab,3,none⟩=some (.bool AN.cl):=by
          rw[World.cell?_setCell_other _ _ _ _ (by intro q;have:=congrArg Addr.block q;simp at this;omega)];exact Aa hb5' a3
         have I5:=(HI4.out.below hb5').say TX
         try rw[hxa]
         have HI5:Hid (PlI w (out++TX) rq 0 false rts' (.slice va2 rts'.length vc3) (w5.setCell ⟨w.heap.size+1,0,none⟩ (.string ⟨(out++TX).toArray⟩))/\(w5.setCell ⟨w.heap.size+1,0,none⟩ (.string ⟨(out++TX).toArray⟩)).cell? ⟨ab,3,none⟩=some (.bool AN.cl)):=⟨I5,a5⟩;clear I5 a5
         try go_wp2_with fail
         go_meet
         exact⟨rfl,HI5⟩
       case rest=>
        obtain⟨rfl,HC6⟩:=hcut;obtain⟨W6,hW6⟩:∃x,x=wc:=⟨_,rfl⟩;subst hW6;have I5:=HC6.out.1;have a5:=HC6.out.2;obtain⟨s0,s1,s2,s3,s4⟩:=I5.xcells;have l6:=I5.lt;have la6:=Ap a5;have zx1:=Ai I5.xb 1;have I6:=I5.one;have a6:(W6.setCell ⟨w.heap.size+1,1,none⟩ (.int .i64 ((rq:Int)+1))).cell? ⟨ab,3,none⟩=some (.bool AN.cl):=by
         rw[World.cell?_setCell_other _ _ _ _ (by intro q;have:=congrArg Addr.block q;simp at this;omega)];exact a5
        clear I5 HC6 HRR HI4 x0' x1' x2' x3' x4' a0 a1 a2 a3 u0;go_upto_region 16 with fail;generalize W6.setCell ⟨w.heap.size+1,1,none⟩ (.int .i64 ((rq:Int)+1))=W7 at *
        obtain⟨s0,s1,s2,s3,s4⟩:=I6.xcells;obtain⟨t0,t1,t2,t3,t4⟩:=I6.rcells;have l7:=I6.lt;have l70:w.heap.size<W7.heap.size:=by omega
        have la7:=Ap a6;have hS4:=HS3.out
        cases hcl:AN.cl
        ·rw[hcl]at a6 hS4;unfold Ga at hS4;rw[if_neg (by simp)]at hS4;have m0:(0:Int)<=(F.2.2.2.2.2:Int):=by omega
         have m1:(F.2.2.2.2.2:Int)<=((ByteArray.mk R.toArray).size:Int):=by omega
         have m2:(F.2.2.2.2.2:Int)<=(R.length:Int):=by omega
         have hexd:=Yv R F.2.2.2.2.2;have hdl:(R.drop F.2.2.2.2.2).length=R.length-F.2.2.2.2.2:=A6z;have HI7:=hid I6;clear I6;go_wp2_with fail
         go_roundg f
         case measure=>omega
         case rel=>exact⟨R.drop F.2.2.2.2.2,out++TX,rq+1,rts',_,by simp,by omega,hS4,by rw[A0z];omega,by omega,by omega,hrl',HI7.out⟩
        ·rw[hcl]at a6 hS4;unfold Ga at hS4;rw[if_pos rfl,Gj C f _ rfl]at hS4;subst hS4;have zx3:=Ai I6.xb 3;have I7:=I6.shut;clear I6;go_upto_region 18 with fail;generalize W7.setCell ⟨w.heap.size+1,3,none⟩ (.bool true)=W8 at *
         obtain⟨s0,s1,s2,s3,s4⟩:=I7.xcells;obtain⟨t0,t1,t2,t3,t4⟩:=I7.rcells;have l8:=I7.lt;have l80:w.heap.size<W8.heap.size:=by omega
         have zr0:=Ai I7.rb 0;have zr1:=Ai I7.rb 1;have zr2:=Ai I7.rb 2;have zr3:=Ai I7.rb 3;have zr4:=Ai I7.rb 4;have FI:=hid I7.fin;clear I7;go_wp2_with fail;obtain⟨f1,f2,f3⟩:=FI.out;unfold plW at f1 f2 f3;have ec1:(((rq+1:Nat)):Int)=(rq:Int)+1:=by omega
         have ec0:(((0:Nat)):Int)=0:=rfl;simp only[ec1,ec0]at f1 f2 f3;generalize (((((W8.setCell ⟨w.heap.size,0,none⟩ (.string ⟨(out++TX).toArray⟩)).setCell ⟨w.heap.size,1,none⟩ (.int .i64 ((rq:Int)+1))).setCell ⟨w.heap.size,2,none⟩ (.int .i64 0)).setCell ⟨w.heap.size,3,none⟩ (.bool true)).setCell ⟨w.heap.size,4,none⟩ (Value.slice va2 rts'.length vc3))=wf at *
         have e0:=(Ab f1 (j:=0)).trans (show _=some (Value.string ⟨(out++TX).toArray⟩)from rfl);have e1:=(Ab f1 (j:=1)).trans (show _=some (Value.int .i64 ((rq:Int)+1))from rfl);have e2:=(Ab f1 (j:=2)).trans (show _=some (Value.int .i64 0)from rfl);have e3:=(Ab f1 (j:=3)).trans (show _=some (Value.bool true)from rfl);have e4:=(Ab f1 (j:=4)).trans (show _=some (Value.slice va2 rts'.length vc3)from rfl)
         try rw[Exit.noGoto_ret]
         refine Ae (v:=.agg (plA (out++TX) (rq+1) 0 true (Value.slice va2 rts'.length vc3))) ?_ ?_ ?_
         ·simp[results,results118,go_sem,e0,e1,e2,e3,e4]
         ·rfl
         first|exact⟨⟨_,rts',rfl,f2,rfl,by omega,hrl'⟩,f3⟩|exact⟨⟨_,rfl,rts',f2,rfl,by omega,hrl'⟩,f3⟩
   ·have b0:(F.1 != 0)=true:=by simpa using h0
    rw[if_neg h0]at HS;have HST:=hid (λW=>Vj F.1 HE.out h0 h2 W);have hAB:AnsB ⟨Ec F.1,[],⟨#[]⟩,true,0⟩:=⟨(Ll F.1).1,(Ll F.1).2,(by show(0:Nat)<=50000000;omega),(by show(0:Nat)+0<=33000000;omega)⟩;have HRR:Hid (∀W,Bw wq W->Calls prog 101 #[.string ⟨#[]⟩,.agg (anA (Ec F.1) (.slice none 0 0) ⟨#[]⟩ true)] W λe w'=>e=.returned (.string ⟨(Fr [] (Ec F.1) [] [] true).toArray⟩)/\Bw W w'):=λW hb=>
     Oo ⟨#[]⟩ ⟨Ec F.1,[],⟨#[]⟩,true,0⟩ hAB none 0 W (λi hi=>absurd hi (by simp))
    have hnl:=Ys F.1;have HS2:=HS.out;unfold noS Ga at HS2;rw[if_pos rfl]at HS2;generalize Ec F.1=st at *
    generalize Fr [] st [] [] true=TX at *
    have hx3:¬(9223372036854775807<out.length+TX.length):=by omega
    have hxa:(ByteArray.mk out.toArray)++(ByteArray.mk TX.toArray)=⟨(out++TX).toArray⟩:=Yu out ⟨TX.toArray⟩;subst HS2;clear HRP HDS HQ HSM HAS HE HOKD hAB c0 c1 c2 c3 c4 c5 HS IC r0 r1 r2 r3 r4 fr0 fr1 fr2 fr3 fr4 fx2;go_upto_region 7 with fail;go_cut [8]from 11 to 84 (λe wx=>e=.int .i64 F.1/\Hid (PlI w (out++TX) rq 0 false rts (.slice va rts.length vc2) wx))
    case first=>
     go_region_law (first|(refine Mg (f:=171) rfl func171 (by kernel_rfl) (by kernel_rfl) _ _ rfl #[.int .i64 F.1] (by simp[Act.eval,Act.put]) (HST.out wq.drew) ?_;intro w2 hw2;have hw3:=hw2.symm;subst hw3)|(refine Mg (f:=101) rfl func101 (by kernel_rfl) (by kernel_rfl) _ _ rfl #[.string ⟨#[]⟩,.agg (anA st (.slice none 0 0) ⟨#[]⟩ true)] (by simp[Act.eval,Act.put]) (HRR.out wq.drew (Ad _ _).drew) ?_;intro w2 hb2;have hb2':Bw wq w2:=(Ad wq.heap.size wq).drew.trans hb2;obtain⟨y0,y1,y2,y3,y4⟩:=(HIC.out.below hb2').xcells;have zf0:=Ai (HIC.out.below hb2').xb 0;have l2:=(HIC.out.below hb2').lt))
     all_goals
      have I3:=(HIC.out.below hb2').say TX
      try rw[hxa]
      have HI3:Hid (PlI w (out++TX) rq 0 false rts (.slice va rts.length vc2) (w2.setCell ⟨w.heap.size+1,0,none⟩ (.string ⟨(out++TX).toArray⟩))):=I3;clear I3
      try go_wp2_with fail
      go_meet
      exact⟨rfl,HI3⟩
    case rest=>
     obtain⟨rfl,HC3⟩:=hcut;obtain⟨W3,hW3⟩:∃x,x=wc:=⟨_,rfl⟩;subst hW3;have I3:=HC3.out;obtain⟨s0,s1,s2,s3,s4⟩:=I3.xcells;have l3:=I3.lt;have zx3:=Ai I3.xb 3;have I7:=I3.shut;clear I3 HC3 HIC HRR HST x0 x1 x2 x3 x4;go_upto_region 9 with fail;generalize W3.setCell ⟨w.heap.size+1,3,none⟩ (.bool true)=W8 at *
     obtain⟨s0,s1,s2,s3,s4⟩:=I7.xcells;obtain⟨t0,t1,t2,t3,t4⟩:=I7.rcells;have l8:=I7.lt;have l80:w.heap.size<W8.heap.size:=by omega
     have zr0:=Ai I7.rb 0;have zr1:=Ai I7.rb 1;have zr2:=Ai I7.rb 2;have zr3:=Ai I7.rb 3;have zr4:=Ai I7.rb 4;have FI:=hid I7.fin;clear I7;go_wp2_with fail;obtain⟨f1,f2,f3⟩:=FI.out;unfold plW at f1 f2 f3;generalize (((((W8.setCell ⟨w.heap.size,0,none⟩ (.string ⟨(out++TX).toArray⟩)).setCell ⟨w.heap.size,1,none⟩ (.int .i64 (rq:Int))).setCell ⟨w.heap.size,2,none⟩ (.int .i64 ((0:Nat):Int))).setCell ⟨w.heap.size,3,none⟩ (.bool true)).setCell ⟨w.heap.size,4,none⟩ (Value.slice va rts.length vc2))=wf at *
     have e0:=(Ab f1 (j:=0)).trans (show _=some (Value.string ⟨(out++TX).toArray⟩)from rfl);have e1:=(Ab f1 (j:=1)).trans (show _=some (Value.int .i64 (rq:Int))from rfl);have e2:=(Ab f1 (j:=2)).trans (show _=some (Value.int .i64 ((0:Nat):Int))from rfl);have e3:=(Ab f1 (j:=3)).trans (show _=some (Value.bool true)from rfl);have e4:=(Ab f1 (j:=4)).trans (show _=some (Value.slice va rts.length vc2)from rfl)
     try rw[Exit.noGoto_ret]
     refine Ae (v:=.agg (plA (out++TX) rq 0 true (Value.slice va rts.length vc2))) ?_ ?_ ?_
     ·simp[results,results118,go_sem,e0,e1,e2,e3,e4]
     ·rfl
     first|exact⟨⟨_,rts,rfl,f2,rfl,by omega,hrl⟩,f3⟩|exact⟨⟨_,rfl,rts,f2,rfl,by omega,hrl⟩,f3⟩
end Go.Proofs.YtbiggccolpchcaaGreatDoor
