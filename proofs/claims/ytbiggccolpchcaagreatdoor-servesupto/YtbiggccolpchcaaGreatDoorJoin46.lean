/- Joined. -/
import Derived.Test.YtbiggccolpchcaaGreatDoorJoin34
set_option maxRecDepth 100000
set_option maxHeartbeats 2000000
namespace Go.Proofs.YtbiggccolpchcaaGreatDoor
open Go.RowKit _root_.Go.Proofs.Tryz
def Rt.aggV(r:Rt):Value:=.agg #[.string r.m,.string r.p,.int .i64 r.h.k,.int .i64 r.h.st,.string r.h.t,.string r.h.n]
def Wr.aggV(x:Wr):Value:=.agg #[.int .i64 x.k,.string x.n,.string x.v,.int .i64 x.lim]
theorem Ke(n:Nat)(hn:n<=9)(w:World):
  Calls prog 165 #[.int .i64 n] w λe w'=>e=.returned (mkW n).aggV/\Bw w w':=by
 have hA:=bA w (.cells #[.int .i64 0,.string ⟨#[]⟩,.string ⟨#[]⟩,.int .i64 0] 241);have HM:=hid (λW=>Bp.a5j n hn W);have he:(mkW n).aggV=.agg #[.int .i64 n,.string ⟨#[88]⟩,.string (Bp.a5i n),.int .i64 0]:=rfl;rw[he];generalize Bp.a5i n=mt at *
 go_enter func165,ntmps165;go_wp2_with fail;refine(HM.out _).mono ?_;rintro e w1 ⟨rfl,hb1⟩;have c0:=Aa hb1 (a:=⟨w.heap.size,0,none⟩) (v:=.int .i64 0) (by simp);have c1:=Aa hb1 (a:=⟨w.heap.size,1,none⟩) (v:=.string ⟨#[]⟩) (by simp);have c2:=Aa hb1 (a:=⟨w.heap.size,2,none⟩) (v:=.string ⟨#[]⟩) (by simp);have c3:=Aa hb1 (a:=⟨w.heap.size,3,none⟩) (v:=.int .i64 0) (by simp);have d0:w1.frozen? ⟨w.heap.size,0,none⟩=false:=by rw[hb1.frozen (by simp)];simp
 have d1:w1.frozen? ⟨w.heap.size,1,none⟩=false:=by rw[hb1.frozen (by simp)];simp
 have d2:w1.frozen? ⟨w.heap.size,2,none⟩=false:=by rw[hb1.frozen (by simp)];simp
 have d3:w1.frozen? ⟨w.heap.size,3,none⟩=false:=by rw[hb1.frozen (by simp)];simp
 have BL:=hid (Bc hA hb1);clear hA hb1;go_wp2;refine Ae (v:=.agg #[.int .i64 n,.string ⟨#[88]⟩,.string mt,.int .i64 0]) (by simp[results,results165,go_sem,c0,c1,c2,c3]) rfl ?_;exact⟨rfl,(((BL.out.setCell (Ac _) _).setCell (Ac _) _).setCell (Ac _) _).setCell (Ac _) _⟩
theorem Jn{B g j:Nat}{w w':World}(hb:Below B w w')(hg:g<B):w'.frozen? ⟨g,j,none⟩=w.frozen? ⟨g,j,none⟩:=hb.frozen hg
theorem b8K(n:Nat):(⟨#[47,42]⟩:By)++(Bp.a5i n).extract 5 6=⟨#[47,42,(48+n).toUInt8]⟩:=by
 have:(Bp.a5i n).extract 5 6=⟨#[(48+n).toUInt8]⟩:=by
  unfold Bp.a5i;rfl
 rw[this];rfl
theorem Ix(n:Nat)(hn:n<=9)(w:World):
  Calls prog 164 #[.int .i64 n] w λe w'=>e=.returned (mkR n).aggV/\Bw w w':=by
 have hA:=bA w (.cells #[.string ⟨#[]⟩,.string ⟨#[]⟩,.int .i64 0,.int .i64 0,.string ⟨#[]⟩,.string ⟨#[]⟩] 75);have hg:=Ag w (.cells #[.string ⟨#[]⟩,.string ⟨#[]⟩,.int .i64 0,.int .i64 0,.string ⟨#[]⟩,.string ⟨#[]⟩] 75);have he:(mkR n).aggV=.agg #[.string ⟨#[71,69,84]⟩,.string ⟨#[47,42,(48+n).toUInt8]⟩,.int .i64 n,.int .i64 (200+n),.string (Bp.a5i n),.string ⟨#[]⟩]:=rfl;rw[he,<-b8K n];have hsz:(Bp.a5i n).size=6:=rfl;have hwr:IntKind.i64.wrap (200+(n:Int))=200+n:=by
  rcases(by omega:n=0\/n=1\/n=2\/n=3\/n=4\/n=5\/n=6\/n=7\/n=8\/n=9)with rfl|rfl|rfl|rfl|rfl|rfl|rfl|rfl|rfl|rfl<;>rfl
 have HM:=hid (λW=>Bp.a5j n hn W);generalize Bp.a5i n=mt at *
 go_enter func164,ntmps164;go_upto_region 1 with fail;generalize w.alloc (.cells #[.string ⟨#[]⟩,.string ⟨#[]⟩,.int .i64 0,.int .i64 0,.string ⟨#[]⟩,.string ⟨#[]⟩] 75)=w1 at *
 have d0:w1.cell? ⟨w.heap.size,0,none⟩=some (.string ⟨#[]⟩):=by rw[Ab hg];rfl
 have d1:w1.cell? ⟨w.heap.size,1,none⟩=some (.string ⟨#[]⟩):=by rw[Ab hg];rfl
 have d2:w1.cell? ⟨w.heap.size,2,none⟩=some (.int .i64 0):=by rw[Ab hg];rfl
 have d3:w1.cell? ⟨w.heap.size,3,none⟩=some (.int .i64 0):=by rw[Ab hg];rfl
 have d4:w1.cell? ⟨w.heap.size,4,none⟩=some (.string ⟨#[]⟩):=by rw[Ab hg];rfl
 have d5:w1.cell? ⟨w.heap.size,5,none⟩=some (.string ⟨#[]⟩):=by rw[Ab hg];rfl
 have l1:w.heap.size<w1.heap.size:=Ap d0;have hf:=Ai hg;have hB1:=Ad w1.heap.size w1;have hlt:¬(6:Int)<5:=by omega
 clear he hg
 go_region_held3 (λ_=>True) (trivial)
  (first
   |(go_at_call 66;refine(HM.out _).mono ?_;rintro e wA ⟨rfl,hbA⟩;(first|have hB1:=Bc hB1.drew hbA|have hB1:=Bc hB1 hbA);have r0:=Aa hB1 d0;have r1:=Aa hB1 d1;have r2:=Aa hB1 d2;have r3:=Aa hB1 d3;have r4:=Aa hB1 d4;have r5:=Aa hB1 d5;have z0:wA.frozen? ⟨w.heap.size,0,none⟩=false:=(Jn hB1 l1).trans (hf 0);have z1:wA.frozen? ⟨w.heap.size,1,none⟩=false:=(Jn hB1 l1).trans (hf 1);have z2:wA.frozen? ⟨w.heap.size,2,none⟩=false:=(Jn hB1 l1).trans (hf 2);have z3:wA.frozen? ⟨w.heap.size,3,none⟩=false:=(Jn hB1 l1).trans (hf 3);have z4:wA.frozen? ⟨w.heap.size,4,none⟩=false:=(Jn hB1 l1).trans (hf 4);have z5:wA.frozen? ⟨w.heap.size,5,none⟩=false:=(Jn hB1 l1).trans (hf 5);clear hbA))
 have BL:=hid (Bc hA hB1);clear d0 d1 d2 d3 d4 d5 hA HM;go_wp2_with fail;refine Ae (v:=.agg #[.string ⟨#[71,69,84]⟩,.string (⟨#[47,42]⟩++mt.extract 5 6),.int .i64 n,.int .i64 (200+n),.string mt,.string ⟨#[]⟩]) (by simp[results,results164,go_sem,r0,r1,r2,r3,r4,r5]) rfl ?_;exact⟨rfl,(((((BL.out.setCell (Ac _) _).setCell (Ac _) _).setCell (Ac _) _).setCell (Ac _) _).setCell (Ac _) _).setCell (Ac _) _⟩
theorem c3V:(prog.info? 75).map (λi=>(i.zero,i.size,i.bytes))=some (some (.agg #[.string ⟨#[]⟩,.string ⟨#[]⟩,.int .i64 0,.int .i64 0,.string ⟨#[]⟩,.string ⟨#[]⟩]),6,80):=by kernel_rfl
theorem Um(w:World):
  Calls prog 111 #[.slice none 0 0] w λe w'=>e=.returned (.slice none 0 0)/\w'=w:=by
 have hq:=λW=>Eb (P:=prog) W 41 75 none 0 0 underlying41;go_enter func111,ntmps111;go_wp2;go_ret;exact⟨rfl,rfl⟩
theorem Un(rs:List Rt)(ad:Addr)(ca:Nat)(w:World)(hf:Da 6 Rt.cells rs (some ad) w)(hn:rs.length<=1000000000):
  Calls prog 111 #[.slice (some ad) rs.length ca] w λe w'=>∃g,e=.returned (.slice (some ⟨g,0,none⟩) rs.length (rs.length+5))/\w.heap.size<=g/\g<w'.heap.size/\Fs g ((rs.length+5)*6) w'/\LvM 6 Rt.cells (rs++List.replicate 5 (mkR 7)) g w'/\Bw w w':=by
 obtain⟨i0,hi,hz0,hz1,hz2⟩:=info_parts c3V;have HF:=hid hf;clear hf;have hq:=λW=>Eb (P:=prog) W 41 75 (some ad) rs.length ca underlying41;have HM:Hid (∀W:World,Calls prog 164 #[.int .i64 7] W λe w'=>e=.returned (mkR 7).aggV/\Bw W w'):=λW=>Ix 7 (by omega) W;generalize mkR 7=X at *
 obtain⟨xm,xp,⟨xk,xst,xt,xn⟩⟩:=X;simp only[Rt.aggV]at HM;have hfl:=Mf (f:=Rt.cells) (sz:=6) (λ_=>rfl) rs;go_enter func111,ntmps111;go_wp2_with (at_make;refine wpList_make_full _ rfl _ _ 41 rfl w.heap.size 75 i0 _ 6 underlying41 hi hz0 hz1 .i64 .i64 _ _ (rs.length+5) rfl rfl (by simp) (by simp) (by rw[hz2];omega) (by unfold maxLen;omega) (Ac _) ?_);intro w1 ow1 gr1;have hB1:Bw w w1:=(Ad _ _).grown gr1 (Ac _) (λr hr=>by cases hr);obtain⟨ob1,gl1⟩:=Wi ow1;have hcp:=Lk (P:=prog) w1 41 41 3 75 6 w.heap.size 0 (rs.length+5) (rs.length+5) ad rs.length ca (rs.flatMap Rt.cells) underlying41 (by rw[hi];simp[hz1]) (by rw[hfl];show _=min _ _*6;rw[Nat.min_eq_left (by omega)]) (b6Y (sz:=6) (f:=Rt.cells) (by omega) (λ_=>rfl) (HF.out.below hB1)) (λj hj=>by rw[hfl]at hj;simpa using(ob1 j (by omega)).1) (λj hj=>by rw[hfl]at hj;simpa using(ob1 j (by omega)).2) (c2X rs);obtain⟨ob2,lv2⟩:=Qv (f:=Rt.cells) (sz:=6) (λ_=>rfl) ob1 rs (by omega);have hB2:Bw w (w1.setCells w.heap.size 0 (rs.flatMap Rt.cells)):=Dk hB1 (Ac _) _;have gl2:w.heap.size<(w1.setCells w.heap.size 0 (rs.flatMap Rt.cells)).heap.size:=Af gl1 (Dk (B:=0) (Ad 0 w1) (Ah _) _).size;have J2:=hid (And.intro ob2 (And.intro lv2 (And.intro hB2 gl2)));clear ow1 gr1 ob1 ob2 lv2 hB2 gl2 hB1;go_wp2_with (at_builtin;refine Lib.wpList_copy_run _ rfl _ _ 41 41 rfl _ _ rfl rfl hcp ?_);generalize w1.setCells w.heap.size 0 (rs.flatMap Rt.cells)=w2 at *
 clear hcp gl1 hfl;go_wp2_with fail
 go_loopw [5] (λi wr=>∃q:Nat,q<=5/\i=.int .i64 ((rs.length+q:Nat):Int)/\Hid (Fs w.heap.size ((rs.length+5)*6) wr/\LvM 6 Rt.cells (rs++List.replicate q (⟨xm,xp,⟨xk,xst,xt,xn⟩⟩:Rt)) w.heap.size wr/\Bw w wr/\w.heap.size<wr.heap.size)) (λi _=>rs.length+5-(intOf i).toNat)
 case atStart=>exact⟨0,by omega,by simp,J2.out.1,by simpa using J2.out.2.1,J2.out.2.2⟩
 case round=>
  clear J2;obtain⟨q,hq5,rfl,I⟩:=hrel;by_cases hlt:q<5
  ·have hc5:((rs.length+q:Nat):Int)=(rs.length:Int)+(q:Int):=by omega
   rw[hc5];have HSN:=hid (λw3 (lv3:LvM 6 Rt.cells (rs++List.replicate q (⟨xm,xp,⟨xk,xst,xt,xn⟩⟩:Rt)) w.heap.size w3) (ob3:Fs w.heap.size ((rs.length+5)*6) w3)=>(by
    have hll:(rs++List.replicate q (⟨xm,xp,⟨xk,xst,xt,xn⟩⟩:Rt)).length=rs.length+q:=by simp
    have ls:=lv3.snoc (f:=Rt.cells) (sz:=6) (λ_=>rfl) ob3 (⟨xm,xp,⟨xk,xst,xt,xn⟩⟩:Rt) (by rw[hll];omega);rw[hll,C5z,<-List.replicate_succ']at ls;exact ls:LvM 6 Rt.cells (rs++List.replicate (q+1) (⟨xm,xp,⟨xk,xst,xt,xn⟩⟩:Rt)) w.heap.size (w3.setCells w.heap.size ((rs.length+q)*6) (Rt.cells (⟨xm,xp,⟨xk,xst,xt,xn⟩⟩:Rt)))))
   go_wp2_with fail;refine(HM.out _).mono ?_;rintro e w3 ⟨rfl,hb3⟩;have ob3:=I.out.1.below hb3 I.out.2.2.2;have lv3:=I.out.2.1.below hb3 I.out.2.2.2;have hB3:=Bc I.out.2.2.1 hb3;have gl3:w.heap.size<w3.heap.size:=Af I.out.2.2.2 hb3.size;obtain⟨v0,hv0⟩:=ob3.cell ((rs.length+q)*6) (by omega);obtain⟨v1,hv1⟩:=ob3.cell ((rs.length+q)*6+1) (by omega);obtain⟨v2,hv2⟩:=ob3.cell ((rs.length+q)*6+2) (by omega);obtain⟨v3,hv3⟩:=ob3.cell ((rs.length+q)*6+3) (by omega);obtain⟨v4,hv4⟩:=ob3.cell ((rs.length+q)*6+4) (by omega);obtain⟨v5,hv5⟩:=ob3.cell ((rs.length+q)*6+5) (by omega);have f0:=(ob3 ((rs.length+q)*6) (by omega)).2;have f1:=(ob3 ((rs.length+q)*6+1) (by omega)).2;have f2:=(ob3 ((rs.length+q)*6+2) (by omega)).2;have f3:=(ob3 ((rs.length+q)*6+3) (by omega)).2;have f4:=(ob3 ((rs.length+q)*6+4) (by omega)).2;have f5:=(ob3 ((rs.length+q)*6+5) (by omega)).2;have ls:=HSN.out w3 lv3 ob3;have obs:=ob3.sets (o:=(rs.length+q)*6) (Rt.cells (⟨xm,xp,⟨xk,xst,xt,xn⟩⟩:Rt)) (by show(rs.length+q)*6+6<=_;omega);have hBs:=Dk (o:=(rs.length+q)*6) hB3 (Ac _) (Rt.cells (⟨xm,xp,⟨xk,xst,xt,xn⟩⟩:Rt));have gls:w.heap.size<(w3.setCells w.heap.size ((rs.length+q)*6) (Rt.cells (⟨xm,xp,⟨xk,xst,xt,xn⟩⟩:Rt))).heap.size:=Af gl3 (Dk (B:=0) (Ad 0 w3) (Ah _) _).size;have J3:Hid (Fs w.heap.size ((rs.length+5)*6) (((((((w3.setCell ⟨w.heap.size,(rs.length+q)*6,none⟩ (.string xm)).setCell ⟨w.heap.size,(rs.length+q)*6+1,none⟩ (.string xp)).setCell ⟨w.heap.size,(rs.length+q)*6+2,none⟩ (.int .i64 xk)).setCell ⟨w.heap.size,(rs.length+q)*6+3,none⟩ (.int .i64 xst)).setCell ⟨w.heap.size,(rs.length+q)*6+4,none⟩ (.string xt)).setCell ⟨w.heap.size,(rs.length+q)*6+5,none⟩ (.string xn)))/\LvM 6 Rt.cells (rs++List.replicate (q+1) (⟨xm,xp,⟨xk,xst,xt,xn⟩⟩:Rt)) w.heap.size (((((((w3.setCell ⟨w.heap.size,(rs.length+q)*6,none⟩ (.string xm)).setCell ⟨w.heap.size,(rs.length+q)*6+1,none⟩ (.string xp)).setCell ⟨w.heap.size,(rs.length+q)*6+2,none⟩ (.int .i64 xk)).setCell ⟨w.heap.size,(rs.length+q)*6+3,none⟩ (.int .i64 xst)).setCell ⟨w.heap.size,(rs.length+q)*6+4,none⟩ (.string xt)).setCell ⟨w.heap.size,(rs.length+q)*6+5,none⟩ (.string xn)))/\Bw w (((((((w3.setCell ⟨w.heap.size,(rs.length+q)*6,none⟩ (.string xm)).setCell ⟨w.heap.size,(rs.length+q)*6+1,none⟩ (.string xp)).setCell ⟨w.heap.size,(rs.length+q)*6+2,none⟩ (.int .i64 xk)).setCell ⟨w.heap.size,(rs.length+q)*6+3,none⟩ (.int .i64 xst)).setCell ⟨w.heap.size,(rs.length+q)*6+4,none⟩ (.string xt)).setCell ⟨w.heap.size,(rs.length+q)*6+5,none⟩ (.string xn)))/\w.heap.size<(((((((w3.setCell ⟨w.heap.size,(rs.length+q)*6,none⟩ (.string xm)).setCell ⟨w.heap.size,(rs.length+q)*6+1,none⟩ (.string xp)).setCell ⟨w.heap.size,(rs.length+q)*6+2,none⟩ (.int .i64 xk)).setCell ⟨w.heap.size,(rs.length+q)*6+3,none⟩ (.int .i64 xst)).setCell ⟨w.heap.size,(rs.length+q)*6+4,none⟩ (.string xt)).setCell ⟨w.heap.size,(rs.length+q)*6+5,none⟩ (.string xn))).heap.size):=
    ⟨obs,ls,hBs,gls⟩
   have y1:(rs.length:Int)+(q:Int)<(rs.length:Int)+5:=by omega
   have y0:(0:Int)<=(rs.length:Int)+(q:Int):=by omega
   have yn:((rs.length:Int)+(q:Int)).toNat=rs.length+q:=by omega
   clear ob3 lv3 hB3 ls obs hBs gls I hb3 hc5 HSN;go_wp2;exact⟨⟨q+1,by omega,by rw[show((rs.length+(q+1):Nat):Int)=(rs.length:Int)+q+1 from by omega],J3.out⟩,by simp[intOf];omega⟩
  ·have h5:q=5:=by omega
   subst h5;have hB:=I.out.2.2.1;have hc5:((rs.length+5:Nat):Int)=(rs.length:Int)+5:=by omega
   rw[hc5];go_wp2;go_ret;exact⟨_,rfl,Ac _,I.out.2.2.2,I.out.1,I.out.2.1,I.out.2.2.1⟩
theorem c3W:(prog.info? 241).map (λi=>(i.zero,i.size,i.bytes))=some (some (.agg #[.int .i64 0,.string ⟨#[]⟩,.string ⟨#[]⟩,.int .i64 0]),4,48):=by kernel_rfl
theorem Vl(w:World):
  Calls prog 112 #[.slice none 0 0] w λe w'=>e=.returned (.slice none 0 0)/\w'=w:=by
 have hq:=λW=>Eb (P:=prog) W 42 241 none 0 0 underlying42;go_enter func112,ntmps112;go_wp2;go_ret;exact⟨rfl,rfl⟩
theorem Vm(rs:List Wr)(ad:Addr)(ca:Nat)(w:World)(hf:Da 4 Wr.cells rs (some ad) w)(hn:rs.length<=1000000000):
  Calls prog 112 #[.slice (some ad) rs.length ca] w λe w'=>∃g,e=.returned (.slice (some ⟨g,0,none⟩) rs.length (rs.length+5))/\w.heap.size<=g/\g<w'.heap.size/\Fs g ((rs.length+5)*4) w'/\LvM 4 Wr.cells (rs++List.replicate 5 (mkW 7)) g w'/\Bw w w':=by
 obtain⟨i0,hi,hz0,hz1,hz2⟩:=info_parts c3W;have HF:=hid hf;clear hf;have hq:=λW=>Eb (P:=prog) W 42 241 (some ad) rs.length ca underlying42;have HM:Hid (∀W:World,Calls prog 165 #[.int .i64 7] W λe w'=>e=.returned (mkW 7).aggV/\Bw W w'):=λW=>Ke 7 (by omega) W;generalize mkW 7=X at *
 obtain⟨xk,xn,xv,xl⟩:=X;simp only[Wr.aggV]at HM;have hfl:=Mf (f:=Wr.cells) (sz:=4) (λ_=>rfl) rs;go_enter func112,ntmps112;go_wp2_with (at_make;refine wpList_make_full _ rfl _ _ 42 rfl w.heap.size 241 i0 _ 4 underlying42 hi hz0 hz1 .i64 .i64 _ _ (rs.length+5) rfl rfl (by simp) (by simp) (by rw[hz2];omega) (by unfold maxLen;omega) (Ac _) ?_);intro w1 ow1 gr1;have hB1:Bw w w1:=(Ad _ _).grown gr1 (Ac _) (λr hr=>by cases hr);obtain⟨ob1,gl1⟩:=Wi ow1;have hcp:=Lk (P:=prog) w1 42 42 3 241 4 w.heap.size 0 (rs.length+5) (rs.length+5) ad rs.length ca (rs.flatMap Wr.cells) underlying42 (by rw[hi];simp[hz1]) (by rw[hfl];show _=min _ _*4;rw[Nat.min_eq_left (by omega)]) (b6Y (sz:=4) (f:=Wr.cells) (by omega) (λ_=>rfl) (HF.out.below hB1)) (λj hj=>by rw[hfl]at hj;simpa using(ob1 j (by omega)).1) (λj hj=>by rw[hfl]at hj;simpa using(ob1 j (by omega)).2) (c2Y rs);obtain⟨ob2,lv2⟩:=Qv (f:=Wr.cells) (sz:=4) (λ_=>rfl) ob1 rs (by omega);have hB2:Bw w (w1.setCells w.heap.size 0 (rs.flatMap Wr.cells)):=Dk hB1 (Ac _) _;have gl2:w.heap.size<(w1.setCells w.heap.size 0 (rs.flatMap Wr.cells)).heap.size:=Af gl1 (Dk (B:=0) (Ad 0 w1) (Ah _) _).size;have J2:=hid (And.intro ob2 (And.intro lv2 (And.intro hB2 gl2)));clear ow1 gr1 ob1 ob2 lv2 hB2 gl2 hB1;go_wp2_with (at_builtin;refine Lib.wpList_copy_run _ rfl _ _ 42 42 rfl _ _ rfl rfl hcp ?_);generalize w1.setCells w.heap.size 0 (rs.flatMap Wr.cells)=w2 at *
 clear hcp gl1 hfl;go_wp2_with fail
 go_loopw [5] (λi wr=>∃q:Nat,q<=5/\i=.int .i64 ((rs.length+q:Nat):Int)/\Hid (Fs w.heap.size ((rs.length+5)*4) wr/\LvM 4 Wr.cells (rs++List.replicate q (⟨xk,xn,xv,xl⟩:Wr)) w.heap.size wr/\Bw w wr/\w.heap.size<wr.heap.size)) (λi _=>rs.length+5-(intOf i).toNat)
 case atStart=>exact⟨0,by omega,by simp,J2.out.1,by simpa using J2.out.2.1,J2.out.2.2⟩
 case round=>
  clear J2;obtain⟨q,hq5,rfl,I⟩:=hrel;by_cases hlt:q<5
  ·have hc5:((rs.length+q:Nat):Int)=(rs.length:Int)+(q:Int):=by omega
   rw[hc5];have HSN:=hid (λw3 (lv3:LvM 4 Wr.cells (rs++List.replicate q (⟨xk,xn,xv,xl⟩:Wr)) w.heap.size w3) (ob3:Fs w.heap.size ((rs.length+5)*4) w3)=>(by
    have hll:(rs++List.replicate q (⟨xk,xn,xv,xl⟩:Wr)).length=rs.length+q:=by simp
    have ls:=lv3.snoc (f:=Wr.cells) (sz:=4) (λ_=>rfl) ob3 (⟨xk,xn,xv,xl⟩:Wr) (by rw[hll];omega);rw[hll,C5z,<-List.replicate_succ']at ls;exact ls:LvM 4 Wr.cells (rs++List.replicate (q+1) (⟨xk,xn,xv,xl⟩:Wr)) w.heap.size (w3.setCells w.heap.size ((rs.length+q)*4) (Wr.cells (⟨xk,xn,xv,xl⟩:Wr)))))
   go_wp2_with fail;refine(HM.out _).mono ?_;rintro e w3 ⟨rfl,hb3⟩;have ob3:=I.out.1.below hb3 I.out.2.2.2;have lv3:=I.out.2.1.below hb3 I.out.2.2.2;have hB3:=Bc I.out.2.2.1 hb3;have gl3:w.heap.size<w3.heap.size:=Af I.out.2.2.2 hb3.size;obtain⟨v0,hv0⟩:=ob3.cell ((rs.length+q)*4) (by omega);obtain⟨v1,hv1⟩:=ob3.cell ((rs.length+q)*4+1) (by omega);obtain⟨v2,hv2⟩:=ob3.cell ((rs.length+q)*4+2) (by omega);obtain⟨v3,hv3⟩:=ob3.cell ((rs.length+q)*4+3) (by omega);have f0:=(ob3 ((rs.length+q)*4) (by omega)).2;have f1:=(ob3 ((rs.length+q)*4+1) (by omega)).2;have f2:=(ob3 ((rs.length+q)*4+2) (by omega)).2;have f3:=(ob3 ((rs.length+q)*4+3) (by omega)).2;have ls:=HSN.out w3 lv3 ob3;have obs:=ob3.sets (o:=(rs.length+q)*4) (Wr.cells (⟨xk,xn,xv,xl⟩:Wr)) (by show(rs.length+q)*4+4<=_;omega);have hBs:=Dk (o:=(rs.length+q)*4) hB3 (Ac _) (Wr.cells (⟨xk,xn,xv,xl⟩:Wr));have gls:w.heap.size<(w3.setCells w.heap.size ((rs.length+q)*4) (Wr.cells (⟨xk,xn,xv,xl⟩:Wr))).heap.size:=Af gl3 (Dk (B:=0) (Ad 0 w3) (Ah _) _).size;have J3:Hid (Fs w.heap.size ((rs.length+5)*4) (((((w3.setCell ⟨w.heap.size,(rs.length+q)*4,none⟩ (.int .i64 xk)).setCell ⟨w.heap.size,(rs.length+q)*4+1,none⟩ (.string xn)).setCell ⟨w.heap.size,(rs.length+q)*4+2,none⟩ (.string xv)).setCell ⟨w.heap.size,(rs.length+q)*4+3,none⟩ (.int .i64 xl)))/\LvM 4 Wr.cells (rs++List.replicate (q+1) (⟨xk,xn,xv,xl⟩:Wr)) w.heap.size (((((w3.setCell ⟨w.heap.size,(rs.length+q)*4,none⟩ (.int .i64 xk)).setCell ⟨w.heap.size,(rs.length+q)*4+1,none⟩ (.string xn)).setCell ⟨w.heap.size,(rs.length+q)*4+2,none⟩ (.string xv)).setCell ⟨w.heap.size,(rs.length+q)*4+3,none⟩ (.int .i64 xl)))/\Bw w (((((w3.setCell ⟨w.heap.size,(rs.length+q)*4,none⟩ (.int .i64 xk)).setCell ⟨w.heap.size,(rs.length+q)*4+1,none⟩ (.string xn)).setCell ⟨w.heap.size,(rs.length+q)*4+2,none⟩ (.string xv)).setCell ⟨w.heap.size,(rs.length+q)*4+3,none⟩ (.int .i64 xl)))/\w.heap.size<(((((w3.setCell ⟨w.heap.size,(rs.length+q)*4,none⟩ (.int .i64 xk)).setCell ⟨w.heap.size,(rs.length+q)*4+1,none⟩ (.string xn)).setCell ⟨w.heap.size,(rs.length+q)*4+2,none⟩ (.string xv)).setCell ⟨w.heap.size,(rs.length+q)*4+3,none⟩ (.int .i64 xl))).heap.size):=
    ⟨obs,ls,hBs,gls⟩
   have y1:(rs.length:Int)+(q:Int)<(rs.length:Int)+5:=by omega
   have y0:(0:Int)<=(rs.length:Int)+(q:Int):=by omega
   have yn:((rs.length:Int)+(q:Int)).toNat=rs.length+q:=by omega
   clear ob3 lv3 hB3 ls obs hBs gls I hb3 hc5 HSN;go_wp2;exact⟨⟨q+1,by omega,by rw[show((rs.length+(q+1):Nat):Int)=(rs.length:Int)+q+1 from by omega],J3.out⟩,by simp[intOf];omega⟩
  ·have h5:q=5:=by omega
   subst h5;have hB:=I.out.2.2.1;have hc5:((rs.length+5:Nat):Int)=(rs.length:Int)+5:=by omega
   rw[hc5];go_wp2;go_ret;exact⟨_,rfl,Ac _,I.out.2.2.2,I.out.1,I.out.2.1,I.out.2.2.1⟩
def KpB(g:Nat)(w w':World):Prop:=w.heap.size<=w'.heap.size/\∀b,b<w.heap.size->b≠g->w'.heap[b]?=w.heap[b]?
theorem KpB.refl(g:Nat)(w:World):KpB g w w:=⟨Ac _,λ_ _ _=>rfl⟩
theorem KpB.below{g:Nat}{w w1 w2:World}(h:KpB g w w1)(hb:Bw w1 w2):KpB g w w2:=
 ⟨Aj h.1 hb.size,λb h1 h2=>(hb.block b (Af h1 h.1)).trans (h.2 b h1 h2)⟩
theorem Kf(g b:Nat)(hb:b≠g):∀(cs:List Value) (o:Nat) (w:World),(w.setCells g o cs).heap[b]?=w.heap[b]?
 |[],_,_=>rfl
 |v::r,o,w=>by
  rw[World.setCells,Kf g b hb r (o+1)];exact heap_setCell_other w ⟨g,o,none⟩ b v hb
theorem Mk(g:Nat):∀(cs:List Value) (o:Nat) (w:World),(w.setCells g o cs).heap.size=w.heap.size
 |[],_,_=>rfl
 |v::r,o,w=>by
  rw[World.setCells,Mk g r (o+1)];simp
theorem KpB.sets{g o:Nat}{w w1:World}(h:KpB g w w1)(cs:List Value):KpB g w (w1.setCells g o cs):=
 ⟨by rw[Mk];exact h.1,λb h1 h2=>(Kf g b h2 cs o w1).trans (h.2 b h1 h2)⟩
theorem Rj(v:Value)(w:World):
  Calls prog 115 #[v,.slice none 0 0] w λe w'=>e=.returned (.bool true)/\w'=w:=by
 have hq:=λW=>Eb (P:=prog) W 41 75 none 0 0 underlying41;go_enter func115,ntmps115;go_wp2;go_ret;exact⟨rfl,rfl⟩
theorem Rk(rs:List Rt)(ad:Addr)(ca g:Nat)(w0 w:World)(hf:Da 6 Rt.cells rs (some ad) w0)(hn:rs.length<=1000000000)(hb:Bw w0 w)(hg:w0.heap.size<=g)(hgl:g<w.heap.size)
  (ho:Fs g ((rs.length+5)*6) w) (hl:LvM 6 Rt.cells (rs++List.replicate 5 (mkR 7)) g w) :
  Calls prog 115 #[.slice (some ⟨g,0,none⟩) rs.length (rs.length+5),.slice (some ad) rs.length ca] w λe w'=>e=.returned (.bool true)/\Bw w0 w'/\KpB g w w':=by
 have HF:=hid hf;have J0:Hid (Fs g ((rs.length+5)*6) w/\LfM 6 Rt.cells (rs++List.replicate 5 (mkR 7)) 0 g w/\Bw w0 w/\g<w.heap.size/\KpB g w w):=⟨ho,λi hi j v _=>hl i hi j v,hb,hgl,KpB.refl _ _⟩;have HM7:Hid (∀W:World,Calls prog 164 #[.int .i64 7] W λe w'=>e=.returned (mkR 7).aggV/\Bw W w'):=λW=>Ix 7 (by omega) W;have HM9:Hid (∀W:World,Calls prog 164 #[.int .i64 9] W λe w'=>e=.returned (mkR 9).aggV/\Bw W w'):=λW=>Ix 9 (by omega) W;have hq:=λW=>Eb (P:=prog) W 41 75 (some ad) rs.length ca underlying41;clear hf ho hl hb hgl;generalize mkR 7=X7 at *
 generalize mkR 9=X9 at *
 obtain⟨xm,xp,⟨xk,xst,xt,xn⟩⟩:=X7;obtain⟨ym,yp,⟨yk,yst,yt,yn⟩⟩:=X9;simp only[Rt.aggV]at HM7 HM9;go_enter func115,ntmps115;go_wp2_with fail
 go_loopw [7,8,9] (λok i _ wr=>∃k:Nat,k<=rs.length+5/\i=.int .i64 k/\ok=.bool true/\Hid (Fs g ((rs.length+5)*6) wr/\LfM 6 Rt.cells (rs++List.replicate 5 (⟨xm,xp,⟨xk,xst,xt,xn⟩⟩:Rt)) k g wr/\Bw w0 wr/\g<wr.heap.size/\KpB g w wr)) (λ_ i _ _=>rs.length+5-(intOf i).toNat)
 case atStart=>exact⟨0,Ah _,rfl,rfl,J0.out⟩
 case round=>
  clear J0;obtain⟨k,hk,rfl,rfl,I⟩:=hrel;by_cases hlt:k<rs.length+5
  ·go_wp2_with fail;refine(HM7.out _).mono ?_;rintro e w1 ⟨rfl,hb1⟩;have hg1:g<w1.heap.size:=Af I.out.2.2.2.1 hb1.size;have ob1:=I.out.1.below hb1 I.out.2.2.2.1;have lf1:=I.out.2.1.below hb1 I.out.2.2.2.1;have hB1:Bw w0 w1:=I.out.2.2.1.trans (hb1.mono I.out.2.2.1.size);have hll:(rs++List.replicate 5 (⟨xm,xp,⟨xk,xst,xt,xn⟩⟩:Rt)).length=rs.length+5:=by simp
   have c0:=lf1 k (by rw[hll];exact hlt) 0 _ (Ac _) rfl;have c1:=lf1 k (by rw[hll];exact hlt) 1 _ (Ac _) rfl;have c2:=lf1 k (by rw[hll];exact hlt) 2 _ (Ac _) rfl;have c3:=lf1 k (by rw[hll];exact hlt) 3 _ (Ac _) rfl;have c4:=lf1 k (by rw[hll];exact hlt) 4 _ (Ac _) rfl;have c5:=lf1 k (by rw[hll];exact hlt) 5 _ (Ac _) rfl;rw[Nat.add_zero]at c0;have J1:=hid (And.intro ob1 (And.intro lf1 (And.intro hB1 (I.out.2.2.2.2.below hb1))));have y1:(k:Int)<(rs.length:Int)+5:=by omega
   by_cases hkn:k<rs.length
   focus
    obtain⟨go,o,hao,hgo,o0,o1,o2,o3,o4,o5⟩:=Np (HF.out.below hB1) hkn;obtain rfl:ad=⟨go,o,none⟩:=by simpa using hao
    rw[B4z hkn]at c0 c1 c2 c3 c4 c5;have y2:(k:Int)<(rs.length:Int):=by omega
    generalize rs[k]=en at *
    obtain⟨em,ep,⟨ek,est,et,en⟩⟩:=en;simp only at c0 c1 c2 c3 c4 c5 o0 o1 o2 o3 o4 o5;clear ob1 lf1 hB1 hao I hb1 HM7;have hA:=bA w1 (.cells #[.string em,.string ep,.int .i64 ek,.int .i64 est,.string et,.string en] 75)
   rotate_left
   focus
    have e7:(rs++List.replicate 5 (⟨xm,xp,⟨xk,xst,xt,xn⟩⟩:Rt))[k]'(by rw[hll];exact hlt)=(⟨xm,xp,⟨xk,xst,xt,xn⟩⟩:Rt):=by
     rw[C2z (by omega),List.getElem_replicate]
    rw[e7]at c0 c1 c2 c3 c4 c5;simp only at c0 c1 c2 c3 c4 c5;have y2:¬(k:Int)<(rs.length:Int):=by omega
    clear ob1 lf1 hB1 I hb1 HM7 e7;have hA:=bA w1 (.cells #[.string xm,.string xp,.int .i64 xk,.int .i64 xst,.string xt,.string xn] 75)
   all_goals
    go_wp2_with fail
    go_quiet (fail)
    go_wp2_with fail;refine(HM9.out _).mono ?_;rintro e w3 ⟨rfl,hb3⟩;have h13:Bw w1 w3:=Bc (below_drewN hA _) hb3;have ob3:=J1.out.1.below h13 hg1;have lf3:=J1.out.2.1.below h13 hg1;have hB3:Bw w0 w3:=J1.out.2.2.1.trans (h13.mono J1.out.2.2.1.size);have hg3:g<w3.heap.size:=Af hg1 h13.size;obtain⟨v0,hv0⟩:=ob3.cell (k*6) (by omega);obtain⟨v1,hv1⟩:=ob3.cell (k*6+1) (by omega);obtain⟨v2,hv2⟩:=ob3.cell (k*6+2) (by omega);obtain⟨v3,hv3⟩:=ob3.cell (k*6+3) (by omega);obtain⟨v4,hv4⟩:=ob3.cell (k*6+4) (by omega);obtain⟨v5,hv5⟩:=ob3.cell (k*6+5) (by omega);have f0:=(ob3 (k*6) (by omega)).2;have f1:=(ob3 (k*6+1) (by omega)).2;have f2:=(ob3 (k*6+2) (by omega)).2;have f3:=(ob3 (k*6+3) (by omega)).2;have f4:=(ob3 (k*6+4) (by omega)).2;have f5:=(ob3 (k*6+5) (by omega)).2;have gls:g<(w3.setCells g (k*6) (Rt.cells (⟨ym,yp,⟨yk,yst,yt,yn⟩⟩:Rt))).heap.size:=Af hg3 (Dk (B:=0) (Ad 0 w3) (Ah _) _).size;have J3:Hid (Fs g ((rs.length+5)*6) (((((((w3.setCell ⟨g,k*6,none⟩ (.string ym)).setCell ⟨g,k*6+1,none⟩ (.string yp)).setCell ⟨g,k*6+2,none⟩ (.int .i64 yk)).setCell ⟨g,k*6+3,none⟩ (.int .i64 yst)).setCell ⟨g,k*6+4,none⟩ (.string yt)).setCell ⟨g,k*6+5,none⟩ (.string yn)))/\LfM 6 Rt.cells (rs++List.replicate 5 (⟨xm,xp,⟨xk,xst,xt,xn⟩⟩:Rt)) (k+1) g (((((((w3.setCell ⟨g,k*6,none⟩ (.string ym)).setCell ⟨g,k*6+1,none⟩ (.string yp)).setCell ⟨g,k*6+2,none⟩ (.int .i64 yk)).setCell ⟨g,k*6+3,none⟩ (.int .i64 yst)).setCell ⟨g,k*6+4,none⟩ (.string yt)).setCell ⟨g,k*6+5,none⟩ (.string yn)))/\Bw w0 (((((((w3.setCell ⟨g,k*6,none⟩ (.string ym)).setCell ⟨g,k*6+1,none⟩ (.string yp)).setCell ⟨g,k*6+2,none⟩ (.int .i64 yk)).setCell ⟨g,k*6+3,none⟩ (.int .i64 yst)).setCell ⟨g,k*6+4,none⟩ (.string yt)).setCell ⟨g,k*6+5,none⟩ (.string yn)))/\g<(((((((w3.setCell ⟨g,k*6,none⟩ (.string ym)).setCell ⟨g,k*6+1,none⟩ (.string yp)).setCell ⟨g,k*6+2,none⟩ (.int .i64 yk)).setCell ⟨g,k*6+3,none⟩ (.int .i64 yst)).setCell ⟨g,k*6+4,none⟩ (.string yt)).setCell ⟨g,k*6+5,none⟩ (.string yn))).heap.size/\KpB g w (((((((w3.setCell ⟨g,k*6,none⟩ (.string ym)).setCell ⟨g,k*6+1,none⟩ (.string yp)).setCell ⟨g,k*6+2,none⟩ (.int .i64 yk)).setCell ⟨g,k*6+3,none⟩ (.int .i64 yst)).setCell ⟨g,k*6+4,none⟩ (.string yt)).setCell ⟨g,k*6+5,none⟩ (.string yn)))):=
     ⟨ob3.sets (o:=k*6) (Rt.cells (⟨ym,yp,⟨yk,yst,yt,yn⟩⟩:Rt)) (by show k*6+6<=_;omega),lf3.next (Rt.cells (⟨ym,yp,⟨yk,yst,yt,yn⟩⟩:Rt)) rfl,Dk (o:=k*6) hB3 hg (Rt.cells (⟨ym,yp,⟨yk,yst,yt,yn⟩⟩:Rt)),gls,(J1.out.2.2.2.below h13).sets (o:=k*6) (Rt.cells (⟨ym,yp,⟨yk,yst,yt,yn⟩⟩:Rt))⟩
    clear ob3 lf3 hB3 J1 h13 hb3 hA c0 c1 c2 c3 c4 c5 hg1 gls;go_wp2;exact⟨⟨k+1,by omega,by go_num,rfl,J3.out⟩,by simp[intOf];omega⟩
  ·have hB:=hid (And.intro I.out.2.2.1 I.out.2.2.2.2);go_wp2;go_ret;exact⟨rfl,hB.out.1,hB.out.2⟩
theorem Uo(v:Value)(w:World):
  Calls prog 116 #[v,.slice none 0 0] w λe w'=>e=.returned (.bool true)/\w'=w:=by
 have hq:=λW=>Eb (P:=prog) W 42 241 none 0 0 underlying42;go_enter func116,ntmps116;go_wp2;go_ret;exact⟨rfl,rfl⟩
theorem Up(rs:List Wr)(ad:Addr)(ca g:Nat)(w0 w:World)(hf:Da 4 Wr.cells rs (some ad) w0)(hn:rs.length<=1000000000)(hb:Bw w0 w)(hg:w0.heap.size<=g)(hgl:g<w.heap.size)
  (ho:Fs g ((rs.length+5)*4) w) (hl:LvM 4 Wr.cells (rs++List.replicate 5 (mkW 7)) g w) :
  Calls prog 116 #[.slice (some ⟨g,0,none⟩) rs.length (rs.length+5),.slice (some ad) rs.length ca] w λe w'=>e=.returned (.bool true)/\Bw w0 w'/\KpB g w w':=by
 have HF:=hid hf;have J0:Hid (Fs g ((rs.length+5)*4) w/\LfM 4 Wr.cells (rs++List.replicate 5 (mkW 7)) 0 g w/\Bw w0 w/\g<w.heap.size/\KpB g w w):=⟨ho,λi hi j v _=>hl i hi j v,hb,hgl,KpB.refl _ _⟩;have HM7:Hid (∀W:World,Calls prog 165 #[.int .i64 7] W λe w'=>e=.returned (mkW 7).aggV/\Bw W w'):=λW=>Ke 7 (by omega) W;have HM9:Hid (∀W:World,Calls prog 165 #[.int .i64 9] W λe w'=>e=.returned (mkW 9).aggV/\Bw W w'):=λW=>Ke 9 (by omega) W;have hq:=λW=>Eb (P:=prog) W 42 241 (some ad) rs.length ca underlying42;clear hf ho hl hb hgl;generalize mkW 7=X7 at *
 generalize mkW 9=X9 at *
 obtain⟨xk,xn,xv,xl⟩:=X7;obtain⟨yk,yn,yv,yl⟩:=X9;simp only[Wr.aggV]at HM7 HM9;go_enter func116,ntmps116;go_wp2_with fail
 go_loopw [7,8,9] (λok i _ wr=>∃k:Nat,k<=rs.length+5/\i=.int .i64 k/\ok=.bool true/\Hid (Fs g ((rs.length+5)*4) wr/\LfM 4 Wr.cells (rs++List.replicate 5 (⟨xk,xn,xv,xl⟩:Wr)) k g wr/\Bw w0 wr/\g<wr.heap.size/\KpB g w wr)) (λ_ i _ _=>rs.length+5-(intOf i).toNat)
 case atStart=>exact⟨0,Ah _,rfl,rfl,J0.out⟩
 case round=>
  clear J0;obtain⟨k,hk,rfl,rfl,I⟩:=hrel;by_cases hlt:k<rs.length+5
  ·go_wp2_with fail;refine(HM7.out _).mono ?_;rintro e w1 ⟨rfl,hb1⟩;have hg1:g<w1.heap.size:=Af I.out.2.2.2.1 hb1.size;have ob1:=I.out.1.below hb1 I.out.2.2.2.1;have lf1:=I.out.2.1.below hb1 I.out.2.2.2.1;have hB1:Bw w0 w1:=I.out.2.2.1.trans (hb1.mono I.out.2.2.1.size);have hll:(rs++List.replicate 5 (⟨xk,xn,xv,xl⟩:Wr)).length=rs.length+5:=by simp
   have c0:=lf1 k (by rw[hll];exact hlt) 0 _ (Ac _) rfl;have c1:=lf1 k (by rw[hll];exact hlt) 1 _ (Ac _) rfl;have c2:=lf1 k (by rw[hll];exact hlt) 2 _ (Ac _) rfl;have c3:=lf1 k (by rw[hll];exact hlt) 3 _ (Ac _) rfl;rw[Nat.add_zero]at c0;have J1:=hid (And.intro ob1 (And.intro lf1 (And.intro hB1 (I.out.2.2.2.2.below hb1))));have y1:(k:Int)<(rs.length:Int)+5:=by omega
   by_cases hkn:k<rs.length
   focus
    obtain⟨go,o,hao,hgo,o0,o1,o2,o3⟩:=Ky (HF.out.below hB1) hkn;obtain rfl:ad=⟨go,o,none⟩:=by simpa using hao
    rw[B4z hkn]at c0 c1 c2 c3;have y2:(k:Int)<(rs.length:Int):=by omega
    generalize rs[k]=en at *
    obtain⟨ek,en,ev,el⟩:=en;simp only at c0 c1 c2 c3 o0 o1 o2 o3;clear ob1 lf1 hB1 hao I hb1 HM7;have hA:=bA w1 (.cells #[.int .i64 ek,.string en,.string ev,.int .i64 el] 241)
   rotate_left
   focus
    have e7:(rs++List.replicate 5 (⟨xk,xn,xv,xl⟩:Wr))[k]'(by rw[hll];exact hlt)=(⟨xk,xn,xv,xl⟩:Wr):=by
     rw[C2z (by omega),List.getElem_replicate]
    rw[e7]at c0 c1 c2 c3;simp only at c0 c1 c2 c3;have y2:¬(k:Int)<(rs.length:Int):=by omega
    clear ob1 lf1 hB1 I hb1 HM7 e7;have hA:=bA w1 (.cells #[.int .i64 xk,.string xn,.string xv,.int .i64 xl] 241)
   all_goals
    go_wp2_with fail
    go_quiet (fail)
    go_wp2_with fail;refine(HM9.out _).mono ?_;rintro e w3 ⟨rfl,hb3⟩;have h13:Bw w1 w3:=Bc (below_drewN hA _) hb3;have ob3:=J1.out.1.below h13 hg1;have lf3:=J1.out.2.1.below h13 hg1;have hB3:Bw w0 w3:=J1.out.2.2.1.trans (h13.mono J1.out.2.2.1.size);have hg3:g<w3.heap.size:=Af hg1 h13.size;obtain⟨v0,hv0⟩:=ob3.cell (k*4) (by omega);obtain⟨v1,hv1⟩:=ob3.cell (k*4+1) (by omega);obtain⟨v2,hv2⟩:=ob3.cell (k*4+2) (by omega);obtain⟨v3,hv3⟩:=ob3.cell (k*4+3) (by omega);have f0:=(ob3 (k*4) (by omega)).2;have f1:=(ob3 (k*4+1) (by omega)).2;have f2:=(ob3 (k*4+2) (by omega)).2;have f3:=(ob3 (k*4+3) (by omega)).2;have gls:g<(w3.setCells g (k*4) (Wr.cells (⟨yk,yn,yv,yl⟩:Wr))).heap.size:=Af hg3 (Dk (B:=0) (Ad 0 w3) (Ah _) _).size;have J3:Hid (Fs g ((rs.length+5)*4) (((((w3.setCell ⟨g,k*4,none⟩ (.int .i64 yk)).setCell ⟨g,k*4+1,none⟩ (.string yn)).setCell ⟨g,k*4+2,none⟩ (.string yv)).setCell ⟨g,k*4+3,none⟩ (.int .i64 yl)))/\LfM 4 Wr.cells (rs++List.replicate 5 (⟨xk,xn,xv,xl⟩:Wr)) (k+1) g (((((w3.setCell ⟨g,k*4,none⟩ (.int .i64 yk)).setCell ⟨g,k*4+1,none⟩ (.string yn)).setCell ⟨g,k*4+2,none⟩ (.string yv)).setCell ⟨g,k*4+3,none⟩ (.int .i64 yl)))/\Bw w0 (((((w3.setCell ⟨g,k*4,none⟩ (.int .i64 yk)).setCell ⟨g,k*4+1,none⟩ (.string yn)).setCell ⟨g,k*4+2,none⟩ (.string yv)).setCell ⟨g,k*4+3,none⟩ (.int .i64 yl)))/\g<(((((w3.setCell ⟨g,k*4,none⟩ (.int .i64 yk)).setCell ⟨g,k*4+1,none⟩ (.string yn)).setCell ⟨g,k*4+2,none⟩ (.string yv)).setCell ⟨g,k*4+3,none⟩ (.int .i64 yl))).heap.size/\KpB g w (((((w3.setCell ⟨g,k*4,none⟩ (.int .i64 yk)).setCell ⟨g,k*4+1,none⟩ (.string yn)).setCell ⟨g,k*4+2,none⟩ (.string yv)).setCell ⟨g,k*4+3,none⟩ (.int .i64 yl)))):=
     ⟨ob3.sets (o:=k*4) (Wr.cells (⟨yk,yn,yv,yl⟩:Wr)) (by show k*4+4<=_;omega),lf3.next (Wr.cells (⟨yk,yn,yv,yl⟩:Wr)) rfl,Dk (o:=k*4) hB3 hg (Wr.cells (⟨yk,yn,yv,yl⟩:Wr)),gls,(J1.out.2.2.2.below h13).sets (o:=k*4) (Wr.cells (⟨yk,yn,yv,yl⟩:Wr))⟩
    clear ob3 lf3 hB3 J1 h13 hb3 hA c0 c1 c2 c3 hg1 gls;go_wp2;exact⟨⟨k+1,by omega,by go_num,rfl,J3.out⟩,by simp[intOf];omega⟩
  ·have hB:=hid (And.intro I.out.2.2.1 I.out.2.2.2.2);go_wp2;go_ret;exact⟨rfl,hB.out.1,hB.out.2⟩
end Go.Proofs.YtbiggccolpchcaaGreatDoor
