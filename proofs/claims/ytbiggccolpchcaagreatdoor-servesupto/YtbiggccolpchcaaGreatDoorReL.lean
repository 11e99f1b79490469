/- Through the first ware and the rest. -/
import Derived.Test.YtbiggccolpchcaaGreatDoorJoin20
set_option maxRecDepth 100000
set_option maxHeartbeats 16000000
namespace Go.Proofs.YtbiggccolpchcaaGreatDoor
open Go.RowKit _root_.Go.Proofs.Tryz
theorem Xx(r:Rn)(x:Wr)(g o n c:Nat)(G:Option An)(w:World)(h0:w.cell? ⟨g,o,none⟩=some (.int .i64 x.k))(h1:w.cell? ⟨g,o+1,none⟩=some (.string x.n))(h2:w.cell? ⟨g,o+2,none⟩=some (.string x.v))(h3:w.cell? ⟨g,o+3,none⟩=some (.int .i64 x.lim))(hn:n<=1000000)
  (HAR:∀W,Bw w W->RnB w.heap.size r W->W.cell? ⟨w.heap.size+1,0,none⟩=some (.slice (some ⟨g,o,none⟩) (n+1) c)->Calls prog 309 #[.agg r.vals,.agg #[.int .i64 x.k,.string x.n,.string x.v,.int .i64 x.lim],.func (.func 310) #[] #[.pointer (some ⟨w.heap.size,0,none⟩),.pointer (some ⟨w.heap.size+1,0,none⟩)]] W (Cz G W)) :
  Calls prog 256 #[.agg r.vals,.slice (some ⟨g,o,none⟩) (n+1) c] w (Cz G w):=by
 obtain⟨hA,R1,s1,A1⟩:=Qp r (.slice (some ⟨g,o,none⟩) (n+1) c) w;have HA:=hid (HAR _ (hA.drew) (by have:=R1;unfold RnB at *;exact this) s1);clear HAR;obtain⟨r0,r1,r2,r3,r4,r5,r6,r7,r8⟩:=R1.cells;have lr:=R1.lt;have ls:=Ap s1;have y0:=Aa hA h0;have y1:=Aa hA h1;have y2:=Aa hA h2;have y3:=Aa hA h3;have lg:=Ap h0;have lg1:=Ap y0;have k0:(0:Int)<(n:Int)+1:=by omega
 have k1:((n:Int)+1==0)=false:=by
  have:(n:Int)+1≠0:=by omega
  simpa using this
 have k2:¬((n:Int)+1=0):=by omega
 clear R1 h0 h1 h2 h3;obtain⟨qm,qt,qb,fs,fa,fc,ps,pa,pc,⟨hk',hst,ht,hn'⟩⟩:=r;obtain⟨xk,xn,xv,xl⟩:=x;simp only[Rn.vals]at *
 go_enter func256,ntmps256;go_upto_region 3 with fail;generalize ((w.alloc (.cells #[.string qm,.string qt,.slice fa fs.length fc,.string qb,.slice pa ps.length pc,.int .i64 hk',.int .i64 hst,.string ht,.string hn'] 330)).alloc (.cells #[.slice (some ⟨g,o,none⟩) (n+1) c] 42)).alloc (.cells #[.int .i64 0,.slice none 0 0,.string ⟨#[]⟩,.bool false] 49)=w1 at *
 have la:=A1.lt;have HA1:=hid A1;have hb1:=Ad w1.heap.size w1
 cases G with
 |none=>
  go_region_dies
  all_goals go_wp2_with (go_at_call 309;refine HA.out.mono ?_;rintro x wA ⟨rfl,hbA⟩;exact⟨rfl,rfl,Bc hA (Bc hb1.drew hbA)⟩)
 |some a=>
  have nr:w.heap.size≠w.heap.size+1+1:=by omega
  have ns:w.heap.size+1≠w.heap.size+1+1:=by omega
  have ng:g≠w.heap.size+1+1:=by omega
  have HE:=hid (λ(ax:Oa) (cx:Nat) (w3:World) (o3:w3.ownsRow w1.heap.size 131 2 (.slice ax a.fs.length cx) a.fs.length (Bg a.fs)) (hb3:Bw w1 w3)=>(And.intro (Cg (st:=a.st) (vv:=.slice ax a.fs.length cx) (b:=a.b) (cl:=false) (Bt o3 hA.size) (λe=>by have:=Bx o3 _ e;omega)) (Bm (st:=a.st) (vv:=.slice ax a.fs.length cx) (b:=a.b) (cl:=false) (Bc hA hb3) (by omega)):(setA (w.heap.size+1+1) a.st (.slice ax a.fs.length cx) a.b false w3).ownsRow w.heap.size 131 2 (.slice ax a.fs.length cx) a.fs.length (Bg a.fs)/\Bw w (setA (w.heap.size+1+1) a.st (.slice ax a.fs.length cx) a.b false w3)));have HKP:Hid (∀(w3 w4:World),(∃vv,w4=setA (w.heap.size+1+1) a.st vv a.b false w3)->Bw w1 w3->w4.cell? ⟨w.heap.size+1,0,none⟩=some (.slice (some ⟨g,o,none⟩) (n+1) c)/\w4.cell? ⟨w.heap.size,0,none⟩=some (.string qm)/\w4.cell? ⟨w.heap.size,1,none⟩=some (.string qt)/\w4.cell? ⟨w.heap.size,2,none⟩=some (.slice fa fs.length fc)/\w4.cell? ⟨w.heap.size,3,none⟩=some (.string qb)/\w4.cell? ⟨w.heap.size,4,none⟩=some (.slice pa ps.length pc)/\w4.cell? ⟨w.heap.size,5,none⟩=some (.int .i64 hk')/\w4.cell? ⟨w.heap.size,6,none⟩=some (.int .i64 hst)/\w4.cell? ⟨w.heap.size,7,none⟩=some (.string ht)/\w4.cell? ⟨w.heap.size,8,none⟩=some (.string hn')/\w4.cell? ⟨g,o,none⟩=some (.int .i64 xk)/\w4.cell? ⟨g,o+1,none⟩=some (.string xn)/\w4.cell? ⟨g,o+2,none⟩=some (.string xv)/\w4.cell? ⟨g,o+3,none⟩=some (.int .i64 xl)):=by
   rintro w3 w4 ⟨vv,rfl⟩ hb;exact⟨(Bh ns).trans (Aa hb s1),(Bh nr).trans (Aa hb r0),(Bh nr).trans (Aa hb r1),(Bh nr).trans (Aa hb r2),(Bh nr).trans (Aa hb r3),(Bh nr).trans (Aa hb r4),(Bh nr).trans (Aa hb r5),(Bh nr).trans (Aa hb r6),(Bh nr).trans (Aa hb r7),(Bh nr).trans (Aa hb r8),(Bh ng).trans (Aa hb y0),(Bh ng).trans (Aa hb y1),(Bh ng).trans (Aa hb y2),(Bh ng).trans (Aa hb y3)⟩
  go_region_held3 (λW=>W.cell? ⟨w.heap.size+1,0,none⟩=some (.slice (some ⟨g,o,none⟩) (n+1) c)/\W.cell? ⟨w.heap.size,0,none⟩=some (.string qm)/\W.cell? ⟨w.heap.size,1,none⟩=some (.string qt)/\W.cell? ⟨w.heap.size,2,none⟩=some (.slice fa fs.length fc)/\W.cell? ⟨w.heap.size,3,none⟩=some (.string qb)/\W.cell? ⟨w.heap.size,4,none⟩=some (.slice pa ps.length pc)/\W.cell? ⟨w.heap.size,5,none⟩=some (.int .i64 hk')/\W.cell? ⟨w.heap.size,6,none⟩=some (.int .i64 hst)/\W.cell? ⟨w.heap.size,7,none⟩=some (.string ht)/\W.cell? ⟨w.heap.size,8,none⟩=some (.string hn')/\W.cell? ⟨g,o,none⟩=some (.int .i64 xk)/\W.cell? ⟨g,o+1,none⟩=some (.string xn)/\W.cell? ⟨g,o+2,none⟩=some (.string xv)/\W.cell? ⟨g,o+3,none⟩=some (.int .i64 xl)) (first|exact HKEEP.out|go_keep)
   (first|(go_at_call 309;refine HA.out.mono ?_;rintro x w3 ⟨⟨vv,rfl,ow⟩,hb3⟩;obtain⟨ax,cx,rfl⟩:=Ce ow;have hbD:=Bc hb1.drew hb3;have o3:=Bt ow hb1.drew.size;have A3:=HA1.out.below hbD;obtain⟨c0,c1,c2,c3⟩:=A3.cells;have f0:=A3.free 0;have f1:=A3.free 1;have f2:=A3.free 2;have f3:=A3.free 3;have l3:=A3.lt;obtain⟨d0,d1,d2,d3⟩:=(A3.set a.st (.slice ax a.fs.length cx) a.b false).cells;have HF:=hid (HE.out ax cx w3 o3 hbD);have z0:=Aa hbD r0;have z1:=Aa hbD r1;have z2:=Aa hbD r2;have z3:=Aa hbD r3;have z4:=Aa hbD r4;have z5:=Aa hbD r5;have z6:=Aa hbD r6;have z7:=Aa hbD r7;have z8:=Aa hbD r8;have zs:=Aa hbD s1;have zy0:=Aa hbD y0;have zy1:=Aa hbD y1;have zy2:=Aa hbD y2;have zy3:=Aa hbD y3;have HKEEP:=hid (HKP.out w3 (setA (w.heap.size+1+1) a.st (.slice ax a.fs.length cx) a.b false w3) ⟨_,rfl⟩ hbD);unfold setA at d0 d1 d2 d3 HKEEP;clear ow o3))
  all_goals clear HA HE HKP A1
  all_goals go_wp2_with fail
  all_goals
   refine Ae (v:=.agg #[.int .i64 a.st,.slice ax a.fs.length cx,.string a.b,.bool false]) (by simp[results,results256,go_sem,d0,d1,d2,d3]) rfl ?_;exact⟨⟨_,rfl,HF.out.1⟩,HF.out.2⟩
end Go.Proofs.YtbiggccolpchcaaGreatDoor
