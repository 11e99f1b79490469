/- Joined. -/
import Derived.Test.YtbiggccolpchcaaGreatDoorSeC
import Derived.BigRegion
set_option maxRecDepth 100000
set_option maxHeartbeats 8000000
namespace Go.Proofs.YtbiggccolpchcaaGreatDoor
open Go.RowKit _root_.Go.Proofs.Tryz
abbrev rcA(B:L8)(en fa:Bool)(tk:Nat):Array Value:=#[.string ⟨B.toArray⟩,.bool en,.bool fa,.int .i64 tk]
abbrev RcB(rc:Nat)(B:L8)(en fa:Bool)(tk:Nat)(w:World):Prop:=w.heap[rc]?=some (.cells (rcA B en fa tk) 201 (0,0))
theorem Ff{rc:Nat}{B:L8}{en fa:Bool}{tk:Nat}{w:World}(h:RcB rc B en fa tk w):w.cell? ⟨rc,0,none⟩=some (.string ⟨B.toArray⟩)/\w.cell? ⟨rc,1,none⟩=some (.bool en)/\w.cell? ⟨rc,2,none⟩=some (.bool fa)/\w.cell? ⟨rc,3,none⟩=some (.int .i64 tk):=by
 refine⟨?_,?_,?_,?_⟩<;>(rw[Ab h];rfl)
structure RwP(sh:Bool)(f:World->World)(w:World)(x:Ending)(w':World):Prop where
 e:x=.returned (.int .i64 (if sh=true then 14 else 0))
 k:∃w2,Bw w w2/\w'=(if sh=true then w2 else f w2)
structure RcX(C:Cf)(sr gt:Nat)(ar:Oa)(cr:Nat)(aw:Oa)(cw:Nat)(g n cap:Nat)(es:List Prm)(v:Value)(i rc:Nat)(B:L8)(en fa:Bool)(tk:Nat)(w:World):Prop where
 s:RsI C sr gt ar cr aw cw (.slice (some ⟨g,0,none⟩) n cap) es v w
 p:w.cell? ⟨g,i,none⟩=some (.pointer (some ⟨rc,0,none⟩))
 b:RcB rc B en fa tk w
 i:i<n
 z:B.length<=2000000
section
variable{C:Cf}{sr gt:Nat}{ar:Oa}{cr:Nat}{aw:Oa}{cw:Nat}{g n cap:Nat}{es:List Prm}{v:Value}{i rc:Nat}{B:L8}{en fa:Bool}{tk:Nat}{w:World}
theorem RcX.below(h:RcX C sr gt ar cr aw cw g n cap es v i rc B en fa tk w){w':World}(hb:Bw w w'):RcX C sr gt ar cr aw cw g n cap es v i rc B en fa tk w':=
 ⟨h.s.below hb,Aa hb h.p,by unfold RcB;rw[hb.block rc (heap_lt h.b)];exact h.b,h.i,h.z⟩
theorem Ws(h:RcX C sr gt ar cr aw cw g n cap es v i rc B en fa tk w)(s:By)(hs:B.length+s.size<=2000000):
  Calls prog 56 #[.pointer (some ⟨sr,0,none⟩),.int .i64 i,.string s] w (RwP (en||(Bk C B).cl) (λw2=>w2.setCell ⟨rc,0,none⟩ (.string ⟨(B++s.data.toList).toArray⟩)) w):=by
 have HP:=hid (Jm B w h.s h.z);unfold Nh at HP;obtain⟨c0,c1,c2,c3,c4,c5⟩:=h.s.cells;obtain⟨r0,r1,r2,r3⟩:=Ff h.b;have ls:=h.s.lt;have lg:=Ap h.p;have lr:=heap_lt h.b;have hp:=h.p;have hi:=h.i;have hi0:(0:Int)<=(i:Int):=by omega
 have hi1:(i:Int)<(n:Int):=by omega
 have HX:=hid h;generalize Bk C B=P at *
 clear h;go_enter func56,ntmps56;go_wp2_with fail;refine HP.out.mono ?_;rintro x w1 ⟨⟨vr,rts,rfl,ow,-,-,-⟩,hb1⟩;obtain⟨va,vc,rfl⟩:=Ce ow;have hb2:=hb1.alloc hb1.size (.cells (plA P.out P.rq P.held.length P.cl (.slice va rts.length vc)) 198);have bk:=Ag w1 (.cells (plA P.out P.rq P.held.length P.cl (.slice va rts.length vc)) 198);clear HP ow;go_upto_region 3 with fail;generalize w1.alloc (.cells (plA P.out P.rq P.held.length P.cl (.slice va rts.length vc)) 198)=w2 at *
 have X2:=HX.out.below hb2;obtain⟨s0,s1,s2,s3⟩:=Ff X2.b;have l2:=heap_lt X2.b;have lp:=heap_lt bk;have p3:w2.cell? ⟨w1.heap.size,3,none⟩=some (.bool P.cl):=by rw[Ab bk];rfl
 have z0:=Ai X2.b 0;have hsz:(ByteArray.mk B.toArray).size=B.length:=by show B.toArray.size=_;simp
 have hx3:¬(9223372036854775807<(ByteArray.mk B.toArray).size+s.size):=by omega
 have hx4:¬(9223372036854775807<B.length+s.size):=by omega
 have hxa:=Yu B s;clear bk X2 c0 c1 c2 c3 c4 c5 r0 r1 r2 r3 hb1
 cases en with
 |true=>
  go_wp2_with fail;go_ret;exact⟨rfl,w2,hb2,rfl⟩
 |false=>
  cases hc:P.cl with
  |true=>
   rw[hc]at p3;have HC:=hid hc;clear hc;go_wp2_with fail;go_ret;rw[HC.out];exact⟨rfl,w2,hb2,rfl⟩
  |false=>
   rw[hc]at p3;have HC:=hid hc;clear hc;go_wp2_with fail;go_ret;rw[HC.out]
   first|exact⟨rfl,w2,hb2,rfl⟩|exact⟨rfl,w2,hb2,by simp[hxa]⟩
theorem a3N(h:RcX C sr gt ar cr aw cw g n cap es v i rc B en fa tk w):
  Calls prog 58 #[.pointer (some ⟨sr,0,none⟩),.int .i64 i] w (RwP (en||(Bk C B).cl) (λw2=>w2.setCell ⟨rc,1,none⟩ (.bool true)) w):=by
 have HP:=hid (Jm B w h.s h.z);unfold Nh at HP;obtain⟨c0,c1,c2,c3,c4,c5⟩:=h.s.cells;obtain⟨r0,r1,r2,r3⟩:=Ff h.b;have ls:=h.s.lt;have lg:=Ap h.p;have lr:=heap_lt h.b;have hp:=h.p;have hi:=h.i;have hi0:(0:Int)<=(i:Int):=by omega
 have hi1:(i:Int)<(n:Int):=by omega
 have HX:=hid h;generalize Bk C B=P at *
 clear h;go_enter func58,ntmps58;go_wp2_with fail;refine HP.out.mono ?_;rintro x w1 ⟨⟨vr,rts,rfl,ow,-,-,-⟩,hb1⟩;obtain⟨va,vc,rfl⟩:=Ce ow;have hb2:=hb1.alloc hb1.size (.cells (plA P.out P.rq P.held.length P.cl (.slice va rts.length vc)) 198);have bk:=Ag w1 (.cells (plA P.out P.rq P.held.length P.cl (.slice va rts.length vc)) 198);clear HP ow;go_upto_region 3 with fail;generalize w1.alloc (.cells (plA P.out P.rq P.held.length P.cl (.slice va rts.length vc)) 198)=w2 at *
 have X2:=HX.out.below hb2;obtain⟨s0,s1,s2,s3⟩:=Ff X2.b;have l2:=heap_lt X2.b;have lp:=heap_lt bk;have p3:w2.cell? ⟨w1.heap.size,3,none⟩=some (.bool P.cl):=by rw[Ab bk];rfl
 have z1:=Ai X2.b 1;clear bk X2 c0 c1 c2 c3 c4 c5 r0 r1 r2 r3 hb1
 cases en with
 |true=>
  go_wp2_with fail;go_ret;exact⟨rfl,w2,hb2,rfl⟩
 |false=>
  cases hc:P.cl with
  |true=>
   rw[hc]at p3;have HC:=hid hc;clear hc;go_wp2_with fail;go_ret;rw[HC.out];exact⟨rfl,w2,hb2,rfl⟩
  |false=>
   rw[hc]at p3;have HC:=hid hc;clear hc;go_wp2_with fail;go_ret;rw[HC.out];exact⟨rfl,w2,hb2,rfl⟩
def En(C:Cf)(B:L8)(fa:Bool)(tk:Nat):L8:=if fa=true then[]else(Bk C B).out.drop tk
theorem Wt(h:RcX C sr gt ar cr aw cw g n cap es v i rc B en fa tk w)(ht:tk<=(Bk C B).out.length):
  Calls prog 123 #[.pointer (some ⟨sr,0,none⟩),.int .i64 i] w λx w'=>x=.returned (.string ⟨(En C B fa tk).toArray⟩)/\Bw w w':=by
 have HP:=hid (Jm B w h.s h.z);unfold Nh at HP;unfold En;obtain⟨c0,c1,c2,c3,c4,c5⟩:=h.s.cells;obtain⟨r0,r1,r2,r3⟩:=Ff h.b;have ls:=h.s.lt;have lg:=Ap h.p;have lr:=heap_lt h.b;have hp:=h.p;have hi:=h.i;have hi0:(0:Int)<=(i:Int):=by omega
 have hi1:(i:Int)<(n:Int):=by omega
 have HX:=hid h;generalize Bk C B=P at *
 clear h;go_enter func123,ntmps123;go_wp2_with fail;refine HP.out.mono ?_;rintro x w1 ⟨⟨vr,rts,rfl,ow,-,-,-⟩,hb1⟩;obtain⟨va,vc,rfl⟩:=Ce ow;have hb2:=hb1.alloc hb1.size (.cells (plA P.out P.rq P.held.length P.cl (.slice va rts.length vc)) 198);have bk:=Ag w1 (.cells (plA P.out P.rq P.held.length P.cl (.slice va rts.length vc)) 198);clear HP ow;go_upto_region 3 with fail;generalize w1.alloc (.cells (plA P.out P.rq P.held.length P.cl (.slice va rts.length vc)) 198)=w2 at *
 have X2:=HX.out.below hb2;obtain⟨s0,s1,s2,s3⟩:=Ff X2.b;have l2:=heap_lt X2.b;have lp:=heap_lt bk;have p0:w2.cell? ⟨w1.heap.size,0,none⟩=some (.string ⟨P.out.toArray⟩):=by rw[Ab bk];rfl
 have hsz:(ByteArray.mk P.out.toArray).size=P.out.length:=by show P.out.toArray.size=_;simp
 have m0:(0:Int)<=(tk:Int):=by omega
 have m1:(tk:Int)<=((ByteArray.mk P.out.toArray).size:Int):=by omega
 have m2:(tk:Int)<=(P.out.length:Int):=by omega
 have hexd:=Yv P.out tk;clear bk X2 c0 c1 c2 c3 c4 c5 r0 r1 r2 r3 hb1
 cases fa with
 |true=>
  go_wp2_with fail;go_ret;exact⟨rfl,hb2⟩
 |false=>
  go_upto_region 5 with fail
  go_region
  all_goals
   go_wp2_with fail;go_ret;exact⟨by simp,hb2.drew⟩
end
section
variable{C:Cf}{sr gt:Nat}{ar:Oa}{cr:Nat}{aw:Oa}{cw:Nat}{g n cap:Nat}{es:List Prm}{v:Value}{i rc:Nat}{B:L8}{en fa:Bool}{tk:Nat}{w:World}
theorem b2X(k:Int)(hk:k<0)(w:World):Calls prog 60 #[.pointer (some ⟨sr,0,none⟩),.int .i64 i,.int .i64 k] w λx w'=>x=.returned (.tuple #[.string ⟨#[]⟩,.int .i64 1])/\w'=w:=by
 go_enter func60,ntmps60;go_wp2_with fail;refine Ae (results_tmp2 rfl _ _ _) rfl ?_;exact⟨rfl,rfl⟩
structure RkP(t:L8)(rc tk:Nat)(w:World)(x:Ending)(w':World):Prop where
 e:x=.returned (.tuple #[.string ⟨t.toArray⟩,.int .i64 0])
 k:∃w2,Bw w w2/\w'=w2.setCell ⟨rc,3,none⟩ (.int .i64 (tk:Int))
theorem b2Y(h:RcX C sr gt ar cr aw cw g n cap es v i rc B en fa tk w)(ht:tk<=(Bk C B).out.length)(ho:(Bk C B).out.length<=140737488355328)(k:Nat):
  Calls prog 60 #[.pointer (some ⟨sr,0,none⟩),.int .i64 i,.int .i64 k] w (RkP ((En C B fa tk).take k) rc (tk+min k (En C B fa tk).length) w):=by
 have HL:=hid (Wt h ht);have hll:(En C B fa tk).length<=140737488355328:=by
  unfold En;split
  ·simp
  ·rw[A6z];omega
 have htk:tk<=140737488355328:=by omega
 have hi:=h.i;have hi0:(0:Int)<=(i:Int):=by omega
 have hi1:(i:Int)<(n:Int):=by omega
 have HX:=hid h;generalize En C B fa tk=L at *
 clear h ht ho;have hk0:¬(k:Int)<0:=by omega
 have hsz:(ByteArray.mk L.toArray).size=L.length:=by show L.toArray.size=_;simp
 go_enter func60,ntmps60;go_wp2_with fail;refine HL.out.mono ?_;rintro x w1 ⟨rfl,hb1⟩;have X1:=HX.out.below hb1;obtain⟨c0,c1,c2,c3,c4,c5⟩:=X1.s.cells;obtain⟨s0,s1,s2,s3⟩:=Ff X1.b;have ls:=X1.s.lt;have hp:=X1.p;have lg:=Ap hp;have lr:=heap_lt X1.b;have z3:=Ai X1.b 3;clear HL X1 c0 c1 c2 c3 c4 s0 s1 s2;by_cases hkl:L.length<k
 ·have hk1:((L.length:Nat):Int)<(k:Int):=by omega
  have hk2:(((ByteArray.mk L.toArray).size:Nat):Int)<(k:Int):=by omega
  have HMN:=hid (show min k L.length=L.length by omega);have a0:(0:Int)<=(tk:Int)+(L.length:Int):=by omega
  have a1:(tk:Int)+(L.length:Int)<=9223372036854775807:=by omega
  have hex:(ByteArray.mk L.toArray).extract 0 L.length=⟨L.toArray⟩:=by
   apply ByteArray.ext;simp[ByteArray.data_extract]
  go_upto_region 6 with fail
  go_region
  all_goals
   go_wp2_with fail;refine Ae (results_tmp2 rfl _ _ _) rfl ?_;exact⟨by rw[Aq (F6z hkl)];rfl,_,hb1.drew,by rw[HMN.out,Int.natCast_add];rfl⟩
 ·have hk1:¬((L.length:Nat):Int)<(k:Int):=by omega
  have hk2:¬(((ByteArray.mk L.toArray).size:Nat):Int)<(k:Int):=by omega
  have HMN:=hid (show min k L.length=k by omega);have a0:(0:Int)<=(tk:Int)+(k:Int):=by omega
  have a1:(tk:Int)+(k:Int)<=9223372036854775807:=by omega
  have a2:(k:Int)<=(L.length:Int):=by omega
  have a3:(k:Int)<=((ByteArray.mk L.toArray).size:Int):=by omega
  have hex:(ByteArray.mk L.toArray).extract 0 k=⟨(L.take k).toArray⟩:=by
   apply ByteArray.ext;simp[ByteArray.data_extract]
  go_upto_region 6 with fail
  go_region
  all_goals
   go_wp2_with fail;refine Ae (results_tmp2 rfl _ _ _) rfl ?_;exact⟨rfl,_,hb1.drew,by rw[HMN.out,Int.natCast_add];rfl⟩
theorem b2Z(h:RcX C sr gt ar cr aw cw g n cap es v i rc B en fa tk w)(hne1:sr≠rc)(hne2:g≠rc):
  Calls prog 62 #[.pointer (some ⟨sr,0,none⟩),.int .i64 i] w λx w'=>x=.returned (.tuple #[])/\w'=(w.setCell ⟨rc,2,none⟩ (.bool true)).setCell ⟨rc,1,none⟩ (.bool true):=by
 obtain⟨c0,c1,c2,c3,c4,c5⟩:=h.s.cells;obtain⟨s0,s1,s2,s3⟩:=Ff h.b;have ls:=h.s.lt;have hp:=h.p;have lg:=Ap hp;have lr:=heap_lt h.b;have z1:=Ai h.b 1;have z2:=Ai h.b 2;have hi:=h.i;have hi0:(0:Int)<=(i:Int):=by omega
 have hi1:(i:Int)<(n:Int):=by omega
 have d5:=(World.cell?_setCell_other w ⟨rc,2,none⟩ ⟨sr,5,none⟩ (.bool true) (by intro q;have:=congrArg Addr.block q;simp at this;omega)).trans c5;have dp:=(World.cell?_setCell_other w ⟨rc,2,none⟩ ⟨g,i,none⟩ (.bool true) (by intro q;have:=congrArg Addr.block q;simp at this;omega)).trans hp;have d1:=(World.cell?_setCell_other w ⟨rc,2,none⟩ ⟨rc,1,none⟩ (.bool true) (by simp)).trans s1;clear h;go_enter func62,ntmps62;go_wp2_with fail;refine bodyPost_end (v:=.tuple #[]) (by simp[results,results62,go_sem]) rfl ?_;exact⟨rfl,rfl⟩
structure RtP(rq hl ll:Nat)(sh:Bool)(w:World)(x:Ending)(w':World):Prop where
 e:x=.returned (.agg (stA rq (if sh=true then 0 else(hl:Int)) ll sh))
 b:Bw w w'
theorem a3O(h:RcX C sr gt ar cr aw cw g n cap es v i rc B en fa tk w)(ht:tk<=(Bk C B).out.length):
  Calls prog 64 #[.pointer (some ⟨sr,0,none⟩),.int .i64 i] w (RtP (Bk C B).rq (Bk C B).held.length (En C B fa tk).length (en||(Bk C B).cl) w):=by
 have hA:=bA w (.cells (stA 0 0 0 false) 124);have B1:=Ag w (.cells (stA 0 0 0 false) 124);have X0:=h.below hA;have HP:=hid (Jm B _ X0.s X0.z);unfold Nh at HP;have HL:=hid (λW (hb:Bw w W)=>Wt (h.below hb) ht);obtain⟨c0,c1,c2,c3,c4,c5⟩:=X0.s.cells;obtain⟨r0,r1,r2,r3⟩:=Ff X0.b;have ls:=X0.s.lt;have hp:=X0.p;have lg:=Ap hp;have lr:=heap_lt X0.b;have hi:=h.i;have hi0:(0:Int)<=(i:Int):=by omega
 have hi1:(i:Int)<(n:Int):=by omega
 have HX:=hid h;generalize En C B fa tk=L at *
 generalize Bk C B=P at *
 have hsz:(ByteArray.mk L.toArray).size=L.length:=by show L.toArray.size=_;simp
 clear h X0 ht;go_enter func64,ntmps64;go_upto_region 1 with fail;generalize w.alloc (.cells (stA 0 0 0 false) 124)=w0 at *
 go_wp2_with fail;refine HP.out.mono ?_;rintro x w1 ⟨⟨vr,rts,rfl,ow,-,-,-⟩,hb1⟩;obtain⟨va,vc,rfl⟩:=Ce ow;have hb2:=hb1.alloc hb1.size (.cells (plA P.out P.rq P.held.length P.cl (.slice va rts.length vc)) 198);have bk:=Ag w1 (.cells (plA P.out P.rq P.held.length P.cl (.slice va rts.length vc)) 198);clear HP ow;go_upto_region 3 with fail;generalize w1.alloc (.cells (plA P.out P.rq P.held.length P.cl (.slice va rts.length vc)) 198)=w2 at *
 generalize w1.heap.size=pb at *
 have hB2:=Bc hA hb2;go_wp2_with fail;refine(HL.out w2 hB2).mono ?_;rintro x w3 ⟨rfl,hb3⟩;have hB3:=Bc hB2 hb3;have bk3:w3.heap[pb]?=some (.cells (plA P.out P.rq P.held.length P.cl (.slice va rts.length vc)) 198 (0,0)):=by rw[hb3.block pb (heap_lt bk)];exact bk
 have lp:=heap_lt bk3;have p1:w3.cell? ⟨pb,1,none⟩=some (.int .i64 P.rq):=by rw[Ab bk3];rfl
 have p2:w3.cell? ⟨pb,2,none⟩=some (.int .i64 P.held.length):=by rw[Ab bk3];rfl
 have p3:w3.cell? ⟨pb,3,none⟩=some (.bool P.cl):=by rw[Ab bk3];rfl
 have X3:=HX.out.below hB3;obtain⟨s0,s1,s2,s3⟩:=Ff X3.b;have l3:=heap_lt X3.b;have S3:w3.heap[w.heap.size]?=some (.cells (stA 0 0 0 false) 124 (0,0)):=by
  rw[hb3.block _ (Af (heap_lt B1) hb2.size),hb2.block _ (heap_lt B1)];exact B1
 have lS:=heap_lt S3;have t0:w3.cell? ⟨w.heap.size,0,none⟩=some (.int .i64 0):=by rw[Ab S3];rfl
 have t1:w3.cell? ⟨w.heap.size,1,none⟩=some (.int .i64 0):=by rw[Ab S3];rfl
 have t2:w3.cell? ⟨w.heap.size,2,none⟩=some (.int .i64 0):=by rw[Ab S3];rfl
 have t3:w3.cell? ⟨w.heap.size,3,none⟩=some (.bool false):=by rw[Ab S3];rfl
 have z0:=Ai S3 0;have z1:=Ai S3 1;have z2:=Ai S3 2;have z3:=Ai S3 3;have HS3:=hid S3;clear HL HX X3 bk bk3 S3 c0 c1 c2 c3 c4 c5 r0 r1 r2 r3 hb1 hb2 hb3;have key:∀(a b c:Int) (d:Bool),(((((w3.setCell ⟨w.heap.size,0,none⟩ (.int .i64 a)).setCell ⟨w.heap.size,1,none⟩ (.int .i64 b)).setCell ⟨w.heap.size,2,none⟩ (.int .i64 c)).setCell ⟨w.heap.size,3,none⟩ (.bool d)).heap[w.heap.size]?=some (.cells (stA a b c d) 124 (0,0)))/\Bw w ((((w3.setCell ⟨w.heap.size,0,none⟩ (.int .i64 a)).setCell ⟨w.heap.size,1,none⟩ (.int .i64 b)).setCell ⟨w.heap.size,2,none⟩ (.int .i64 c)).setCell ⟨w.heap.size,3,none⟩ (.bool d)):=λa b c d=>
  ⟨Bj (Bj (Bj (Bj HS3.out 0 _) 1 _) 2 _) 3 _,Pq hB3 _ _ _ _⟩
 have HK:=hid key;clear key
 cases en with
 |true=>
  go_wp2_with fail;obtain⟨f1,f2⟩:=HK.out (P.rq:Int) 0 (L.length:Int) true;generalize (((w3.setCell ⟨w.heap.size,0,none⟩ (.int .i64 (P.rq:Int))).setCell ⟨w.heap.size,1,none⟩ (.int .i64 0)).setCell ⟨w.heap.size,2,none⟩ (.int .i64 (L.length:Int))).setCell ⟨w.heap.size,3,none⟩ (.bool true)=wf at *
  have e0:=(Ab f1 (j:=0)).trans (show _=some (Value.int .i64 (P.rq:Int))from rfl);have e1:=(Ab f1 (j:=1)).trans (show _=some (Value.int .i64 0)from rfl);have e2:=(Ab f1 (j:=2)).trans (show _=some (Value.int .i64 (L.length:Int))from rfl);have e3:=(Ab f1 (j:=3)).trans (show _=some (Value.bool true)from rfl);refine Ae (v:=.agg (stA P.rq 0 L.length true)) ?_ ?_ ?_
  ·simp[results,results64,go_sem,e0,e1,e2,e3]
  ·rfl
  exact⟨rfl,f2⟩
 |false=>
  cases hc:P.cl with
  |true=>
   rw[hc]at p3;have HC:=hid hc;clear hc;go_wp2_with fail;obtain⟨f1,f2⟩:=HK.out (P.rq:Int) 0 (L.length:Int) true;generalize (((w3.setCell ⟨w.heap.size,0,none⟩ (.int .i64 (P.rq:Int))).setCell ⟨w.heap.size,1,none⟩ (.int .i64 0)).setCell ⟨w.heap.size,2,none⟩ (.int .i64 (L.length:Int))).setCell ⟨w.heap.size,3,none⟩ (.bool true)=wf at *
   have e0:=(Ab f1 (j:=0)).trans (show _=some (Value.int .i64 (P.rq:Int))from rfl);have e1:=(Ab f1 (j:=1)).trans (show _=some (Value.int .i64 0)from rfl);have e2:=(Ab f1 (j:=2)).trans (show _=some (Value.int .i64 (L.length:Int))from rfl);have e3:=(Ab f1 (j:=3)).trans (show _=some (Value.bool true)from rfl);refine Ae (v:=.agg (stA P.rq 0 L.length true)) ?_ ?_ ?_
   ·simp[results,results64,go_sem,e0,e1,e2,e3]
   ·rfl
   rw[HC.out];exact⟨rfl,f2⟩
  |false=>
   rw[hc]at p3;have HC:=hid hc;clear hc;go_wp2_with fail;obtain⟨f1,f2⟩:=HK.out (P.rq:Int) (P.held.length:Int) (L.length:Int) false;generalize (((w3.setCell ⟨w.heap.size,0,none⟩ (.int .i64 (P.rq:Int))).setCell ⟨w.heap.size,1,none⟩ (.int .i64 (P.held.length:Int))).setCell ⟨w.heap.size,2,none⟩ (.int .i64 (L.length:Int))).setCell ⟨w.heap.size,3,none⟩ (.bool false)=wf at *
   have e0:=(Ab f1 (j:=0)).trans (show _=some (Value.int .i64 (P.rq:Int))from rfl);have e1:=(Ab f1 (j:=1)).trans (show _=some (Value.int .i64 (P.held.length:Int))from rfl);have e2:=(Ab f1 (j:=2)).trans (show _=some (Value.int .i64 (L.length:Int))from rfl);have e3:=(Ab f1 (j:=3)).trans (show _=some (Value.bool false)from rfl);refine Ae (v:=.agg (stA P.rq P.held.length L.length false)) ?_ ?_ ?_
   ·simp[results,results64,go_sem,e0,e1,e2,e3]
   ·rfl
   rw[HC.out];exact⟨rfl,f2⟩
end
abbrev Pv(l:List Nat):List Value:=l.map λr=>.pointer (some ⟨r,0,none⟩)
theorem c3T:(prog.info? 202).map (λi=>(i.zero,i.size,i.bytes))=some (some (.pointer none),1,8):=by kernel_rfl
abbrev rcZ:Array Value:=#[.string ⟨#[]⟩,.bool false,.bool false,.int .i64 0]
structure RoX(sr B0 n:Nat)(l:List Nat)(vc:Value)(a0 a1 a2 a3 a4:Value)(w w':World):Prop where
 k:Kx (sr::vc.ownBlock.toList) w w'
 c:RcB w.heap.size [] false false 0 w'
 x:∃g cap,w'.heap[sr]?=some (.cells #[a0,a1,a2,a3,a4,.slice (some ⟨g,0,none⟩) (n+1) cap] 194 (0,0))/\w'.ownsRow B0 202 1 (.slice (some ⟨g,0,none⟩) (n+1) cap) (n+1) (Pv (l++[w.heap.size]))/\(vc.ownBlock=some g\/w.heap.size+2<=g)
theorem b3A(sr B0:Nat)(l:List Nat)(vc:Value)(a0 a1 a2 a3 a4:Value)(w:World)(hs:w.heap[sr]?=some (.cells #[a0,a1,a2,a3,a4,vc] 194 (0,0)))(ho:w.ownsRow B0 202 1 vc l.length (Pv l))(hl:l.length<=1000000)(hn:vc.ownBlock≠some sr)(hB:B0<=w.heap.size):
  Calls prog 54 #[.pointer (some ⟨sr,0,none⟩)] w λx w'=>x=.returned (.int .i64 l.length)/\RoX sr B0 l.length l vc a0 a1 a2 a3 a4 w w':=by
 obtain⟨i0,hi,hz0,hz1,hz2⟩:=info_parts c3T;obtain⟨va,vn,rfl⟩:=Ce ho;have c5:w.cell? ⟨sr,5,none⟩=some (.slice va l.length vn):=by rw[Ab hs];rfl
 have ls:=heap_lt hs;have hvl:∀r,(Value.slice va l.length vn).ownBlock=some r->r<w.heap.size:=λr hr=>(Fl ho hr).2;have hA1:=bA w (.cells rcZ 201);have hA2:=hA1.alloc hA1.size (.cells #[.pointer (some ⟨w.heap.size,0,none⟩)] 202);have b1:=Ag w (.cells rcZ 201);have z1:(w.alloc (.cells rcZ 201)).heap.size=w.heap.size+1:=by simp
 have HB1:Hid (((w.alloc (.cells rcZ 201)).alloc (.cells #[.pointer (some ⟨w.heap.size,0,none⟩)] 202)).heap[w.heap.size]?=some (.cells rcZ 201 (0,0))):=by
  rw[Hid,Ba _ _ _ (by rw[z1];omega)];exact b1
 have HB2:=hid (Ag (w.alloc (.cells rcZ 201)) (.cells #[.pointer (some ⟨w.heap.size,0,none⟩)] 202));rw[z1]at HB2;have HS:=hid hs;have HA2:=hid hA2;have HO:=hid (Be ho hA2);have zz:((w.alloc (.cells rcZ 201)).alloc (.cells #[.pointer (some ⟨w.heap.size,0,none⟩)] 202)).heap.size=w.heap.size+2:=by simp
 have ZZ:=hid zz;clear hs hA1 hA2 b1 z1 ho zz;go_enter func54,ntmps54;go_wp2_with (at_builtin;refine wpList_append_lies _ rfl _ _ 192 rfl B0 202 i0 _ 1 8 underlying192 hi hz0 hz1 hz2 rfl (by omega) (.slice va l.length vn) l.length (Pv l) rfl HO.out ⟨w.heap.size+1,0,none⟩ 1 1 [.pointer (some ⟨w.heap.size,0,none⟩)] rfl rfl (World.news_of_block (cs:=#[.pointer (some ⟨w.heap.size,0,none⟩)]) (t:=202) (fr:=(0,0)) HB2.out) (by intro u hu;simp at hu;subst hu;rfl) (by omega) (by unfold maxLen;omega) (by omega) (by rw[ZZ.out];omega) _ rfl ?_);intro g cap w3 how hgrow hat hlt3;generalize (w.alloc (.cells rcZ 201)).alloc (.cells #[.pointer (some ⟨w.heap.size,0,none⟩)] 202)=W2 at *
 have b3:w3.heap[sr]?=some (.cells #[a0,a1,a2,a3,a4,.slice va l.length vn] 194 (0,0)):=by
  rw[hgrow.block sr (by have:=ZZ.out;omega) (λe=>hn e.symm),HA2.out.block sr ls];exact HS.out
 have c3:w3.cell? ⟨sr,5,none⟩=some (.slice va l.length vn):=by rw[Ab b3];rfl
 have z3:=Ai b3 5;have l3:=heap_lt b3;have d5:=World.cell?_setCell_same w3 ⟨sr,5,none⟩ (.slice (some ⟨g,0,none⟩) (l.length+1) cap) c3;have FIN:Hid (RoX sr B0 l.length l (.slice va l.length vn) a0 a1 a2 a3 a4 w (w3.setCell ⟨sr,5,none⟩ (.slice (some ⟨g,0,none⟩) (l.length+1) cap))):=by
  have hgs:g≠sr:=λe=>by
   rcases hat with q|q
   ·rw[e]at q;exact hn q
   ·have:=ZZ.out;omega
  refine⟨?_,?_,g,cap,Bj b3 5 _,?_,?_⟩
  ·exact((Kx.of HA2.out).trans (Kx.grown hgrow (λk hk=>by rw[B5z];exact hk)) (λb hb=>.inl (List.mem_cons_of_mem _ hb))).trans (Kx.set _ _ (by simp)) (λb hb=>.inl hb)
  ·show(w3.setCell ⟨sr,5,none⟩ (.slice (some ⟨g,0,none⟩) (l.length+1) cap)).heap[w.heap.size]?=_;rw[Aw _ _ _ _ (by simp;omega),hgrow.block w.heap.size (by have:=ZZ.out;omega) (λe=>by have:=hvl _ e.symm;omega)];exact HB1.out
  ·have e:Pv (l++[w.heap.size])=Pv l++[.pointer (some ⟨w.heap.size,0,none⟩)]:=by simp[Pv]
   rw[e];exact Es how (λr hr=>Aw _ _ _ _ (λq=>by simp[Value.ownBlock]at hr;simp at q;omega))
  ·rcases hat with q|q
   ·exact .inl q
   ·exact .inr (by omega)
 clear how hgrow hat hlt3 b3 HO HB1 HB2 HS HA2;go_wp2_with fail;go_ret;exact⟨by simp,FIN.out⟩
abbrev rsA(C:Cf)(ar:Oa)(cr:Nat)(aw:Oa)(cw gt:Nat):Array Value:=#[.int .i64 C.hd,.int .i64 C.bd,.slice ar C.rs.length cr,.slice aw C.ws.length cw,.pointer (some ⟨gt,0,none⟩),.slice none 0 0]
structure RnX(C:Cf)(ar:Oa)(cr:Nat)(aw:Oa)(cw:Nat)(w:World)(x:Ending)(w':World):Prop where
 b:Bw w w'
 e:(Et C.hd C.bd C.rs C.ws).2≠0->x=.returned (.tuple #[.pointer none,.int .i64 (Et C.hd C.bd C.rs C.ws).2])
 o:(Et C.hd C.bd C.rs C.ws).2=0->∃sr gt es v,x=.returned (.tuple #[.pointer (some ⟨sr,0,none⟩),.int .i64 0])/\RsI C sr gt ar cr aw cw (.slice none 0 0) es v w'/\w.heap.size<=gt/\w.heap.size<=sr/\sr≠gt/\(∀r,v.ownBlock=some r->r≠sr)
theorem Ul(C:Cf)(ar:Oa)(cr:Nat)(aw:Oa)(cw:Nat)(w:World)(hR:Da 6 Rt.cells C.rs ar w)(hW:Da 4 Wr.cells C.ws aw w)(hro:∀r∈C.rs,RtSm r)(hwo:∀x∈C.ws,x.n.size<=1048576/\x.v.size<=1048576)(hcw:C.ws.length<=cw):
  Calls prog 47 #[.agg #[.int .i64 C.hd,.int .i64 C.bd,.slice ar C.rs.length cr,.slice aw C.ws.length cw]] w (RnX C ar cr aw cw w):=by
 have hA:=bA w (.cells #[.int .i64 C.hd,.int .i64 C.bd,.slice ar C.rs.length cr,.slice aw C.ws.length cw] 44);have b1:=Ag w (.cells #[.int .i64 C.hd,.int .i64 C.bd,.slice ar C.rs.length cr,.slice aw C.ws.length cw] 44);have HT:=hid (a2S C.hd C.bd C.rs C.ws ar cr aw cw _ (hR.below hA) (hW.below hA) hro hwo);have HRW:=hid (λW (hb:Bw w W)=>And.intro (hR.below hb) (hW.below hb));have HOK:Hid ((Et C.hd C.bd C.rs C.ws).2=0->CfOk C):=λh=>⟨h,hro,hwo⟩;have HX:=hid (λx w' (b:Bw w w') e o=>(⟨b,e,o⟩:RnX C ar cr aw cw w x w'));generalize Et C.hd C.bd C.rs C.ws=E at *
 clear hR hW hro hwo;go_enter func47,ntmps47;go_upto_region 1 with fail;generalize w.alloc (.cells #[.int .i64 C.hd,.int .i64 C.bd,.slice ar C.rs.length cr,.slice aw C.ws.length cw] 44)=w1 at *
 have q0:w1.cell? ⟨w.heap.size,0,none⟩=some (.int .i64 C.hd):=by rw[Ab b1];rfl
 have q1:w1.cell? ⟨w.heap.size,1,none⟩=some (.int .i64 C.bd):=by rw[Ab b1];rfl
 have q2:w1.cell? ⟨w.heap.size,2,none⟩=some (.slice ar C.rs.length cr):=by rw[Ab b1];rfl
 have q3:w1.cell? ⟨w.heap.size,3,none⟩=some (.slice aw C.ws.length cw):=by rw[Ab b1];rfl
 have l1:=heap_lt b1;go_wp2_with fail;refine HT.out.mono ?_;rintro x w2 ⟨gt,rfl,hb2,hok⟩;have hB2:=Bc hA hb2;have q0:=Aa hb2 q0;have q1:=Aa hb2 q1;have q2:=Aa hb2 q2;have q3:=Aa hb2 q3;have l2:w.heap.size<w2.heap.size:=Af l1 hb2.size;have HOK2:=hid hok;have HB2:=hid hB2;clear HT hok;by_cases h0:E.2=0
 ·have hq:(E.2 != 0)=false:=by rw[h0];rfl
  obtain⟨⟨es,v,hes,T,hsp,hez⟩,hg1⟩:=HOK2.out h0;have hA3:=bA w2 (.cells (rsA C ar cr aw cw gt) 194);have b3:=Ag w2 (.cells (rsA C ar cr aw cw gt) 194);have hB3:=Bc HB2.out hA3;obtain⟨m1,m2⟩:=HRW.out _ hB3;have T3:=T.below hA3;have hvl:∀r,v.ownBlock=some r->r<w2.heap.size:=λr hr=>(Fl T.row hr).2;have hgl:=T.lt;have HF:=hid (And.intro hB3 (⟨b3,T3,hsp,hes,hez,m1,m2,hcw,HOK.out h0⟩:RsI C w2.heap.size gt ar cr aw cw (.slice none 0 0) es v _));have HV:=hid hvl;have hgt:w.heap.size<=gt:=Aj hA.size hg1;clear T3 T m1 m2 b3 hA3 hB3 HOK2 HRW hvl hes hsp hez;go_wp2_with fail;refine Ae (results_tmp2 rfl _ _ _) rfl ?_;exact HX.out _ _ HF.out.1 (λe=>absurd h0 e) (λ_=>⟨w2.heap.size,gt,es,v,rfl,HF.out.2,hgt,HB2.out.size,by omega,λr hr=>by have:=HV.out r hr;omega⟩)
 ·have hq:(E.2 != 0)=true:=by simpa using h0
  clear HOK2 HRW;go_wp2_with fail;refine Ae (results_tmp2 rfl _ _ _) rfl ?_;exact HX.out _ _ HB2.out (λ_=>rfl) (λe=>absurd e h0)
end Go.Proofs.YtbiggccolpchcaaGreatDoor
