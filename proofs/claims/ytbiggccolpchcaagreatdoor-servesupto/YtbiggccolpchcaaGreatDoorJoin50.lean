/- Joined. -/
import Derived.Test.YtbiggccolpchcaaGreatDoorJoin48
import Derived.Test.YtbiggccolpchcaaGreatDoorJoin49
set_option maxRecDepth 100000
set_option maxHeartbeats 8000000
namespace Go.Proofs.YtbiggccolpchcaaGreatDoor
open Go.RowKit Bn _root_.Go.Proofs.Tryz
abbrev hsA(ps sr:Nat):Array Value:=#[.pointer (some ⟨ps,0,none⟩),.pointer (some ⟨sr,0,none⟩)]
theorem c3Z:(prog.info? 70).map (λi=>(i.zero,i.size,i.bytes))=some (some (.agg #[.pointer none,.pointer none,.int .i64 0]),3,24):=by kernel_rfl
theorem c4A:(prog.info? 66).map (λi=>(i.zero,i.size,i.bytes))=some (some (.agg #[.pointer none,.pointer none]),2,16):=by kernel_rfl
section
variable{OW:Nat->Nat}{wb:Nat}{V:Nat->Value}{l:Nat->List Value}{vs:Value}{tb:List Pr}{O:Nat->Option (Nat×Tg)}{vh vl:Value}{hs:List Hs}{ls:List Ln}{n G:Nat}{w0 w w1 w3:World}{mx:Int}
def XV(OW:Nat->Nat)(wb:Nat)(vs:Value)(tb:List Pr)(O:Nat->Option (Nat×Tg))(vh:Value)(nl n G:Nat)(w0 w w':World):Prop:=
 (∃OW' V' l' O' vl' hs' ls',XI OW' wb V' l' vs tb O' vh vl' hs' ls' n G w0 w'/\ls'.length=nl)/\∀b,b<w.heap.size->OW b=7->(∀t,O b=some t->t=(0,.hrow))->w'.heap[b]?=w.heap[b]?
theorem a4D(X:XI OW wb V l vs tb O vh vl hs ls n G w0 w)(hn:n<=900000)(hG:G<=1900000){i:Nat}(hi:i<hs.length)(o:OpV)(hk:o.k=31):
  Calls prog 16 #[.pointer (some ⟨wb,0,none⟩),.agg (hsA (hs[i]).ps (hs[i]).sr),.agg o.cs] w λr w'=>r=.returned (.bool true)/\XV OW wb vs tb O vh ls.length (n+1) G w0 w w':=by
 obtain⟨hA,b1,b2⟩:=Yo w (hsA (hs[i]).ps (hs[i]).sr) o.cs 66 51;have XB:=X.below hA;have hB:=XB.hi.hou i hi;have hsm:=Ze hs i hi;have hs2:=X.sm;have HP:=hid (b3I hB (by omega) (by have:=X.cn _ (As hi);omega));have hlen:(hs[i]).hs.length<=24:=by
  rw[a7X];exact(Iv hB.rs.ok.E).1
 have HKI:=hid (λW v k xs (hb:Below _ _ W) hv hk=>XB.keepI (w1:=W) (by omega) hb v k xs hv hk);have HA:=hid hA;have lwb:=XB.wi.lt;generalize (hs[i]).hs=L at *
 generalize (hs[i]).ps=ps at *
 generalize (hs[i]).sr=sr at *
 clear hB XB X hs2 hsm;go_enter func16,ntmps16;go_upto_region 1 with fail;generalize (w.alloc (.cells (hsA ps sr) 66)).alloc (.cells o.cs 51)=wB at *
 have c0:=(Ab b1 (j:=0)).trans (show _=some (Value.pointer (some ⟨ps,0,none⟩))from rfl);have d0:=(Ab b2 (j:=0)).trans (show _=some (Value.int .i64 o.k)from rfl);have l1:=heap_lt b1;have l2:=heap_lt b2;rw[hk]at d0;go_wp2_with fail;refine HP.out.mono ?_;rintro x w1 ⟨v,rfl,ow,hb1,H2⟩;obtain⟨va,vc,rfl⟩:=Ce ow;have f1:w1.heap[w.heap.size]?=some (.cells (hsA ps sr) 66 (0,0)):=by rw[hb1.block _ l1];exact b1
 have c1:=(Ab f1 (j:=1)).trans (show _=some (Value.pointer (some ⟨sr,0,none⟩))from rfl);have lf:=heap_lt f1;have HR:=hid (H2 w1 hb1);clear HP H2 c0 d0 b1 b2 f1;go_wp2_with fail;refine HR.out.mono ?_;rintro y w2 ⟨rfl,HT⟩;have hB2:=Bc hb1 HT.b;have ow2:=Be ow HT.b;have n1:a8B L va w2:=λq hq=>by
  obtain⟨g,cap,e,-,hgl,hc⟩:=Rs ow2 (by omega);simp only[Value.slice.injEq]at e;exact⟨g,e.1,hgl,hc q _ (by simp[hq])⟩
 have n2:a8B L (some ⟨w1.heap.size,0,none⟩) w2:=λq hq=>⟨_,rfl,heap_lt HT.x,by rw[Ab HT.x,Rm hq,Av hq];rfl⟩;have HS:=hid (Zg L va (some ⟨w1.heap.size,0,none⟩) vc L.length w2 n1 n2 (by omega));have OW2:=hid ow2;have HB2:=hid hB2;clear HR c1 lf n1 n2 HT ow ow2 hB2;go_wp2_with fail;refine HS.out.mono ?_;rintro z w3 ⟨rfl,hb3⟩;have hB3:=Bc HB2.out hb3;have HK:=hid (HKI.out w3 (.slice va L.length vc) L.length _ hB3 (Be OW2.out hb3) (by omega));have lw3:wb<w3.heap.size:=Af lwb hB3.size;clear HS HKI OW2 HB2;go_wp2_with fail;refine HK.out.mono ?_;rintro q w4 ⟨rfl,hX,hk4⟩;have HX:=hid hX;have HK4:=hid hk4;clear HK hX hk4;go_wp2_with fail;go_ret;obtain⟨OW',V',l',X'⟩:=HX.out;exact⟨rfl,⟨OW',V',l',O,vl,hs,ls,X',rfl⟩,λb hl h7 _=>by rw[HK4.out b (Af hl HA.out.size) h7,HA.out.block b hl]⟩
theorem a4E(X:XI OW wb V l vs tb O vh vl hs ls n G w0 w)(hn:n<=900000){i:Nat}(hi:i<hs.length)(o:OpV)(hk:(o.k==31)=false):
  Calls prog 16 #[.pointer (some ⟨wb,0,none⟩),.agg (hsA (hs[i]).ps (hs[i]).sr),.agg o.cs] w λr w'=>r=.returned (.bool true)/\XV OW wb vs tb O vh (ls.length+1) (n+1) G w0 w w':=by
 obtain⟨i0,hif,hz0,hz1,hz2⟩:=info_parts c3Z;obtain⟨hA,b1,b2⟩:=Yo w (hsA (hs[i]).ps (hs[i]).sr) o.cs 66 51;have XB:=X.below hA;have hB:=XB.hi.hou i hi;have hcn:=X.cn _ (As hi);have HP:=hid (b3H hB (λb t e=>XB.hi.olt b _ e) (λb t e=>XB.hi.oge b _ e) (by omega));have hbox:∀b,w.heap.size<=b->∀t,O b≠some t:=λb hb t e=>by have:=X.hi.olt b _ e;omega
 have hwbn:∀t,O wb≠some t:=λt e=>by rw[X.un]at e;cases e
 have hlln:=X.ln;have HA:=hid hA;have HXB:=hid XB;have HIN:=hid hi;have HST:Hid (∀w2 O' k vc,StepH w0.heap.size O (i+1) hs[i] ((w.alloc (.cells (hsA (hs[i]).ps (hs[i]).sr) 66)).alloc (.cells o.cs 51)) O' ((hs[i]).more k vc) w2->k.B=[]->∃OW',XI OW' wb V l vs tb O' vh vl (hs.set i ((hs[i]).more k vc)) ls (n+1) G w0 w2/\c1C (hs.set i ((hs[i]).more k vc)) ⟨i,(hs[i]).cs.length,k.pc,(hs[i]).sr⟩):=λw2 O' k vc S hkB=>by
  obtain⟨OW',X'⟩:=XB.step (q:=0) hi S (by
   show((hs[i].cs++[k]).map Con.pc).take _=_;rw[B2z,List.take_append_of_le_length (by rw[A8z];exact Ac _),Aq (by rw[A8z];exact Ac _)];exact rfl) (Al n) (by
   show(hs[i].cs++[k]).length<=n+1;rw[A0z];simp;omega) (by
   show((hs[i].cs++[k]).map λk=>k.B.length).sum<=_;rw[B2z,List.sum_append];simp only[hkB,B1z,E0z,List.sum_cons,List.sum_nil,C0z,Nat.add_zero];exact Ac _)
  exact⟨OW',X',(hs[i]).more k vc,k,by simp[hi],by simp[Hs.more],rfl,rfl⟩
 have lwb:=XB.wi.lt;generalize hHH:hs[i]=H at *
 have HHH:=hid hHH;clear hB X XB hHH;go_enter func16,ntmps16;go_upto_region 1 with fail;generalize (w.alloc (.cells (hsA H.ps H.sr) 66)).alloc (.cells o.cs 51)=wB at *
 have c0:=(Ab b1 (j:=0)).trans (show _=some (Value.pointer (some ⟨H.ps,0,none⟩))from rfl);have d0:=(Ab b2 (j:=0)).trans (show _=some (Value.int .i64 o.k)from rfl);have l1:=heap_lt b1;have l2:=heap_lt b2;go_wp2_with fail;refine HP.out.mono ?_;rintro x w1 ⟨rfl,hb1,H2⟩;have f1:w1.heap[w.heap.size]?=some (.cells (hsA H.ps H.sr) 66 (0,0)):=by rw[hb1.block _ l1];exact b1
 have c1:=(Ab f1 (j:=1)).trans (show _=some (Value.pointer (some ⟨H.sr,0,none⟩))from rfl);have lf:=heap_lt f1;have HR:=hid H2;clear HP H2 c0 d0 f1;go_wp2_with fail;refine HR.out.mono ?_;rintro y w2 ⟨rfl,O',k,vc,S,hkp,hkB⟩;obtain⟨OW2,X2,hln⟩:=HST.out w2 O' k vc S hkB;have f2:w2.heap[w.heap.size]?=some (.cells (hsA H.ps H.sr) 66 (0,0)):=by
  rw[S.keep _ l1 (λt=>hbox _ (Ac _) _)];exact b1
 have X2d:=X2.below ((Ad w2.heap.size w2).drew);obtain⟨la,lc,hvl⟩:=Ce X2.hi.lr;subst hvl;have p1:=(Ab f2 (j:=1)).trans (show _=some (Value.pointer (some ⟨H.sr,0,none⟩))from rfl);have w6:w2.cell? ⟨wb,6,none⟩=some (.slice la ls.length lc):=by rw[Ab X2.wi.blk];rfl
 have lw2:=X2.wi.lt;have lf2:=heap_lt f2;have hkeepS:∀b,b<w.heap.size->(∀t,O b=some t->t=(0,.hrow))->w2.heap[b]?=w.heap[b]?:=λb hl h1=>by
  rw[S.keep b (Af hl HA.out.size) (λt e=>by have:=h1 _ e;cases this),HA.out.block b hl]
 have hO':∀b,b<w.heap.size->O' b=O b:=λb hl=>S.old b (Af hl HA.out.size);have hzw:w.heap.size<=w2.heap.size:=Aj HA.out.size S.sz;have HX2:=hid X2d;have HKS:=hid hkeepS;have HO':=hid hO';have hvw:(Value.slice la ls.length lc).ownBlock≠some wb:=λe=>by have:=X2.hi.olr wb e;rw[X2.un]at this;cases this
 have ow2:=X2d.hi.lr;have hb0:=X2.b0;have hblk:=X2.wi.blk;have hoWb:OW wb=0:=HXB.out.wi.oW;rw[<-hkp]at *
 clear HR S X2 X2d c1 lf f2 HST b1 b2 hb1 hkeepS hO';go_upto_region 11 with fail
 go_region_law (refine step_append_lies _ (by rfl) _ _ _ (by rfl) w0.heap.size 70 i0 _ 3 24 underlying35 hif hz0 hz1 hz2 rfl (by omega) (.slice la ls.length lc) ls.length (lsP ls) (by rfl) (ow2.alloc _) ⟨w2.heap.size,0,none⟩ 1 1 [.pointer (some ⟨k.pc,0,none⟩),.pointer (some ⟨H.sr,0,none⟩),.int .i64 (H.cs.length:Int)] (by rfl) (by rfl) (World.news_of_block (cs:=#[.pointer (some ⟨k.pc,0,none⟩),.pointer (some ⟨H.sr,0,none⟩),.int .i64 (H.cs.length:Int)]) (t:=70) (fr:=(0,0)) (Ag w2.drew _)) (by simp[Value.oneCell']) (by omega) (by unfold maxLen;omega) (by omega) (Aj hb0 (by simp)) (w2.heap.size+1) (by simp) ?_;intro g cap w3 how hgrow hat hlt3;have b3:w3.heap[wb]?=some (.cells (Wz.wlC (Zs w0.heap.size O' vh (.slice la ls.length lc) (hs.set i (H.more k vc)) ls) V vs) 37 (0,0)):=(by rw[hgrow.block wb (by show wb<(w2.alloc _).heap.size;simp;omega) (λe=>hvw e.symm)];show(w2.alloc _).heap[wb]?=_;rw[Ba _ _ _ (by exact lw2)];exact hblk);have c3:w3.cell? ⟨wb,6,none⟩=some (.slice la ls.length lc):=(by rw[Ab b3];rfl);have z3:=Ai b3 6;have l3:=heap_lt b3)
 all_goals
  have FA:=HX2.out.addl (by omega) hln (w3:=w3) (o:=.cells #[.pointer (some ⟨k.pc,0,none⟩),.pointer (some ⟨H.sr,0,none⟩),.int .i64 (H.cs.length:Int)] 70) (g:=g) (cap:=cap) hgrow (hat.imp_right (λh=>by rw[h];simp)) how;have HF:=hid FA;clear FA how hgrow hat hlt3 b3;go_wp2_with fail;go_ret;obtain⟨⟨OW3,O3,X3⟩,hk3⟩:=HF.out;refine⟨rfl,⟨OW3,V,l,O3,_,_,_,X3,by rw[A0z];rfl⟩,λb hl h7 h1=>?_⟩;have hbw:b≠wb:=λe=>by rw[e,hoWb]at h7;cases h7
  rw[hk3 b (show b<w2.heap.size by omega) (λt ht=>h1 t (by rw[<-HO'.out b hl];exact ht)) hbw];exact HKS.out b hl h1
end
section
variable{OW:Nat->Nat}{wb:Nat}{V:Nat->Value}{l:Nat->List Value}{vs:Value}{tb:List Pr}{O:Nat->Option (Nat×Tg)}{vh vl:Value}{hs:List Hs}{ls:List Ln}{n G:Nat}{w0 w w1 w3:World}{mx:Int}
theorem b8P{a:Oa}{b:Nat}(h:a9V a=some b):∃o,a=some ⟨b,o,none⟩:=by
 unfold a9V at h
 split at h
 ·cases h;exact⟨_,rfl⟩
 ·cases h
theorem c1W{α:Type}{sz:Nat}{f:α->List Value}{mk:α}{l:List α}{a a':Oa}{c' B:Nat}{w:World}(h:LnR sz f mk l a a' c' B w){b:Nat}(e:a'=some ⟨b,0,none⟩):b<w.heap.size:=by
 rcases h with⟨-,-,h,-⟩|⟨ad,g,-,h2,-,-,h5,-⟩
 ·rw[h]at e;cases e
 ·rw[h2]at e;cases e;exact h5
theorem a9X{α:Type}{l:List α}{a:Oa}{b:Nat}(h:Ij l a=some b):l≠[]/\∃o,a=some ⟨b,o,none⟩:=by
 cases l with
 |nil=>cases h
 |cons _ _=>exact⟨by simp,b8P h⟩
def XS(wb:Nat)(n G nh nl:Nat)(w0 w:World):Prop:=∃OW V l vs tb O vh vl hs ls,XI OW wb V l vs tb O vh vl hs ls n G w0 w/\hs.length=nh/\ls.length=nl
theorem a8D(X:XI OW wb V l vs tb O vh vl hs ls n G w0 w)(hn:n<=900000)(Gw:Gl w0 mx)(C:Cf)(ar:Oa)(cr:Nat)(aw:Oa)(cw:Nat)(hC:CfG C.rs C.ws ar cr aw cw w)(hcw:C.ws.length<=cw)(hro:∀r∈C.rs,RtSm r)(hwo:∀x∈C.ws,x.n.size<=1048576/\x.v.size<=1048576)
  (hcf:∀g o,(C.rs≠[]/\ar=some ⟨g,o,none⟩)\/(C.ws≠[]/\aw=some ⟨g,o,none⟩)->g<w.heap.size/\(g<w0.heap.size\/(O g=none/\OW g=7))) :
  Calls prog 15 #[.pointer (some ⟨wb,0,none⟩),.agg #[.int .i64 C.hd,.int .i64 C.bd,.slice ar C.rs.length cr,.slice aw C.ws.length cw]] w λr w'=>r=.returned (.bool true)/\XS wb (n+1) G (if(Et C.hd C.bd C.rs C.ws).2=0 then hs.length+1 else hs.length) ls.length w0 w':=by
 obtain⟨i0,hif,hz0,hz1,hz2⟩:=info_parts c4A;have hA:=bA w (.cells #[.int .i64 C.hd,.int .i64 C.bd,.slice ar C.rs.length cr,.slice aw C.ws.length cw] 44);have g0:CfB w.heap.size C.hd C.bd (.slice ar C.rs.length cr) (.slice aw C.ws.length cw) (w.alloc (.cells #[.int .i64 C.hd,.int .i64 C.bd,.slice ar C.rs.length cr,.slice aw C.ws.length cw] 44)):=Ag w _;have hmx:=X.wi.bel;have HLN:=hid (λW (hW:Bw w W)=>b8N C.hd C.bd C.rs C.ws ar cr aw cw W (hC.below hW));have HPC:=hid (λW (a1 a2:Oa) (c1 c2:Nat) (hW:Bw w W) (h1:Da 6 Rt.cells C.rs a1 W) (h2:Da 4 Wr.cells C.ws a2 W)=>b2S C.hd C.bd C.rs C.ws a1 c1 a2 c2 mx W h1 h2 (λr hr=>(hro r hr).ok) (λx hx=>by have:=hwo x hx;omega) (Aa (Bc hmx hW) Gw.mx));have HRC:=hid (λW (hW:Bw w W)=>Ul C ar cr aw cw W (hC.r.below hW) (hC.w.below hW) hro hwo hcw);have HC:=hid hC;have HX:=hid X;have HCF:=hid hcf;clear hC hro hwo hmx;go_enter func15,ntmps15;go_wp2_with fail;generalize w.alloc (.cells #[.int .i64 C.hd,.int .i64 C.bd,.slice ar C.rs.length cr,.slice aw C.ws.length cw] 44)=w1 at *
 refine(HLN.out _ hA).mono ?_;rintro x w2 ⟨a1,c1,a2,c2,rfl,L2,hb2⟩;have hb3:=hb2.alloc hb2.size (.cells #[.int .i64 C.hd,.int .i64 C.bd,.slice a1 C.rs.length c1,.slice a2 C.ws.length c2] 44);have L3:=L2.below (bA _ (.cells #[.int .i64 C.hd,.int .i64 C.bd,.slice a1 C.rs.length c1,.slice a2 C.ws.length c2] 44));have k3:CfB w2.heap.size C.hd C.bd (.slice a1 C.rs.length c1) (.slice a2 C.ws.length c2) (w2.alloc (.cells #[.int .i64 C.hd,.int .i64 C.bd,.slice a1 C.rs.length c1,.slice a2 C.ws.length c2] 44)):=Ag w2 _;have z3:(w2.alloc (.cells #[.int .i64 C.hd,.int .i64 C.bd,.slice a1 C.rs.length c1,.slice a2 C.ws.length c2] 44)).heap.size=w2.heap.size+1:=by simp
 have HL3:=hid L3;have HL2:=hid L2;clear L2 HLN L3;go_wp2_with fail;generalize w2.alloc (.cells #[.int .i64 C.hd,.int .i64 C.bd,.slice a1 C.rs.length c1,.slice a2 C.ws.length c2] 44)=w3 at *
 have hB3:=Bc hA hb3;refine(HPC.out w3 a1 a2 c1 c2 hB3 HL3.out.r.mu HL3.out.w.mu).mono ?_;intro x w4 hx4;have he4:=hx4.e;have ho4:=hx4.o;have HE4:=hid he4;have HO4:=hid ho4;clear hx4 he4 ho4 HPC;by_cases hE:(Et C.hd C.bd C.rs C.ws).2=0
 ·obtain⟨ps,s,gs,h,W1,es,v,vh',vw,rfl,P4,St,hes,hW1,hgs,I4,p1,p2,p3⟩:=HO4.out hE;have b14:Bw W1 w4:=I4.bel;have hb4:Bw w3 w4:=hW1.trans (b14.mono hW1.size);have hB4:=Bc hB3 hb4;have hb14:=Bc hb3 hb4;have g4:=g0.below hb14;have k4:=k3.below hb4;obtain⟨x0,x1,x2,x3⟩:=g4.cells;have lx:=g4.lt;have HN:=hid (And.intro P4 (And.intro St (And.intro hes (And.intro hW1 (And.intro hgs (And.intro I4 (And.intro p1 (And.intro p2 p3))))))));clear P4 St hes hW1 hgs I4 p1 p2 p3 HE4 HO4 b14;go_wp2_with fail;refine(HRC.out w4 hB4).mono ?_;intro y w5 hy5;obtain⟨sr,gt,res,rv,rfl,R5,q1,q2,q3,q4⟩:=hy5.o hE;have hb5:=hy5.b;have hb15:=Bc hb14 hb5;have g5:=g4.below hb5;have k5:=k4.below hb5;have L5:=(HL3.out.below hb4).below hb5;obtain⟨x0,x1,x2,x3⟩:=g5.cells;obtain⟨y0,y1,y2,y3⟩:=k5.cells;have lx5:=g5.lt;have ly5:=k5.lt;have HWH:=hid (Ww C.hd C.bd C.hd C.bd C.rs C.ws ar cr aw cw a1 a2 c1 c2 w1 w5 (HC.out.below hA) hb15 L5);have HR5:=hid (And.intro R5 (And.intro q1 (And.intro q2 (And.intro q3 q4))));clear HRC g4 k4 L5 hy5 R5 q1 q2 q3 q4 HC;go_wp2_with fail;refine HWH.out.mono ?_;rintro z w6 ⟨rfl,hb6,kp6⟩;have hB6:=Bc hA hb6;have X6:=HX.out.below hB6;obtain⟨va,vc,hvh⟩:=Ce X6.hi.hr;subst hvh;have c5:w6.cell? ⟨wb,5,none⟩=some (.slice va hs.length vc):=by rw[Ab X6.wi.blk];rfl
  have lw6:=X6.wi.lt;have ow6:=X6.hi.hr;have hb06:=X6.b0;have hnl:=HX.out.hn;have hvw:(Value.slice va hs.length vc).ownBlock≠some wb:=λe=>by have:=X6.hi.ohr wb e;rw[X6.un]at this;cases this
  have hblk:=X6.wi.blk;have HN6:Hid (∃H,HsI w0.heap.size (Kg (hs.length+1) s h ps sr gt gs W1.heap.size rv (Ij C.rs ar) (Ij C.ws aw) w0.heap.size) (hs.length+1) H w6/\H.C=C/\H.ps=ps/\H.sr=sr/\H.cs=[]):=by
   obtain⟨P4,St,hes,hW1,hgs,I4,p1,p2,p3⟩:=HN.out;obtain⟨R5,q1,q2,q3,q4⟩:=HR5.out;refine b3J (hs.length+1) HX.out.b0 hB3 St hes hW1 hgs I4 P4 p1 p2 p3 hb5 R5 q1 q2 q3 q4 hB6 kp6.1 (λb x1 x2=>kp6.2 b x2 (λe=>?_) (λe=>?_)) (λg o e=>(HCF.out g o e).1)
   ·have:=c1W HL2.out.r e;omega
   ·have:=c1W HL2.out.w e;omega
  have HON:Hid (∀b t,Kg (hs.length+1) s h ps sr gt gs W1.heap.size rv (Ij C.rs ar) (Ij C.ws aw) w0.heap.size b=some t->t.1=hs.length+1/\b<w6.heap.size/\w0.heap.size<=b/\(w.heap.size<=b\/(O b=none/\OW b=7))):=λb t ht=>by
   obtain⟨P4,St,hes,hW1,hgs,I4,p1,p2,p3⟩:=HN.out;obtain⟨R5,q1,q2,q3,q4⟩:=HR5.out;obtain⟨e1,e2⟩:=c1F ht;have m1:W1.heap.size<=s:=I4.ge1;have m2:W1.heap.size<=h:=I4.ge2;have ls':s<w4.heap.size:=I4.ls;have lh':h<w4.heap.size:=I4.lh;have lp':=heap_lt P4;have lgt:gt<w5.heap.size:=R5.tr.lt;have lsr:sr<w5.heap.size:=R5.lt;have zW:=hW1.size;have z14:W1.heap.size<=w4.heap.size:=I4.bel.size;have z45:=hb5.size;have z56:=kp6.1;have z03:=hB3.size;have z00:=HX.out.b0;refine⟨e1,?_⟩;rcases e2 with x|x|x|x|x|x|x|⟨x,y⟩
   ·omega
   ·omega
   ·omega
   ·omega
   ·omega
   ·have:=Cb R5.tr.row b x;omega
   ·omega
   ·have hc:∃o,(C.rs≠[]/\ar=some ⟨b,o,none⟩)\/(C.ws≠[]/\aw=some ⟨b,o,none⟩):=by
     rcases y with y|y
     ·obtain⟨q,o,e⟩:=a9X y;exact⟨o,.inl ⟨q,e⟩⟩
     ·obtain⟨q,o,e⟩:=a9X y;exact⟨o,.inr ⟨q,e⟩⟩
    obtain⟨o,e⟩:=hc;obtain⟨r1,r2⟩:=HCF.out b o e;rcases r2 with r2|r2
    ·omega
    ·exact⟨by omega,x,.inr r2⟩
  have HB6:=hid hB6;clear HWH HN HR5 kp6 X6 x0 x1 x2 x3 y0 y1 y2 y3 lx5 ly5 g5 k5 lx;go_wp2_with (first|(go_at_call 36;refine(Bp.a5h _ _).mono ?_;rintro e w' ⟨rfl,hw'⟩;have hw2:=hw'.symm;subst hw2)|(at_builtin;refine wpList_append_lies _ rfl _ _ 34 rfl w0.heap.size 66 i0 _ 2 16 underlying34 hif hz0 hz1 hz2 rfl (by omega) (.slice va hs.length vc) hs.length (hsP hs) rfl (Be ow6 (bA _ _)) ⟨w6.heap.size,0,none⟩ 1 1 [.pointer (some ⟨ps,0,none⟩),.pointer (some ⟨sr,0,none⟩)] rfl rfl (World.news_of_block (cs:=#[.pointer (some ⟨ps,0,none⟩),.pointer (some ⟨sr,0,none⟩)]) (t:=66) (fr:=(0,0)) (Ag w6 _)) (by intro u hu;simp at hu;rcases hu with rfl|rfl<;>rfl) (by omega) (by unfold maxLen;omega) (by omega) (Aj hb06 (by simp)) _ rfl ?_));intro g cap w7 how hgrow hat hlt7;have hAl:=bA w6 (.cells #[.pointer (some ⟨ps,0,none⟩),.pointer (some ⟨sr,0,none⟩)] 66);have b7:w7.heap[wb]?=some (.cells (Wz.wlC (Zs w0.heap.size O (.slice va hs.length vc) vl hs ls) V vs) 37 (0,0)):=by
   rw[hgrow.block wb (Af lw6 hAl.size) (λe=>hvw e.symm),hAl.block wb lw6];exact hblk
  have c7:w7.cell? ⟨wb,5,none⟩=some (.slice va hs.length vc):=by rw[Ab b7];rfl
  have z7:=Ai b7 5;have l7:=heap_lt b7;have HF:Hid (XS wb (n+1) G (hs.length+1) ls.length w0 (w7.setCell ⟨wb,5,none⟩ (.slice (some ⟨g,0,none⟩) (hs.length+1) cap))):=by
   obtain⟨H,N,-,rfl,rfl,hcs⟩:=HN6.out;obtain⟨OW',O',X'⟩:=HX.out.addh HB6.out N hcs HON.out hgrow (by simpa using hat) how;exact⟨OW',V,l,vs,tb,O',_,vl,_,ls,X',by simp,rfl⟩
  clear how hgrow hat hlt7 b7 hAl HN6 HON HX ow6;go_wp2_with fail;go_ret;exact⟨rfl,HF.out⟩
 ·obtain⟨rfl,hb4⟩:=HE4.out hE;have hB4:=Bc hB3 hb4;have hb14:=Bc hb3 hb4;have g4:=g0.below hb14;have k4:=k3.below hb4;obtain⟨x0,x1,x2,x3⟩:=g4.cells;have lx:=g4.lt;clear HE4 HO4;go_wp2_with fail;refine(HRC.out w4 hB4).mono ?_;intro y w5 hy5;have hey:=hy5.e hE;subst hey;have hb5:=hy5.b;have hb15:=Bc hb14 hb5;have g5:=g4.below hb5;have k5:=k4.below hb5;have L5:=(HL3.out.below hb4).below hb5;obtain⟨x0,x1,x2,x3⟩:=g5.cells;obtain⟨y0,y1,y2,y3⟩:=k5.cells;have lx5:=g5.lt;have ly5:=k5.lt;have HWH:=hid (Ww C.hd C.bd C.hd C.bd C.rs C.ws ar cr aw cw a1 a2 c1 c2 w1 w5 (HC.out.below hA) hb15 L5);clear HRC g4 k4 L5 hy5 HC;go_wp2_with fail;refine HWH.out.mono ?_;rintro z w6 ⟨rfl,hb6,-⟩;have HF:Hid (XS wb (n+1) G hs.length ls.length w0 w6):=⟨OW,V,l,vs,tb,O,vh,vl,hs,ls,(HX.out.below (Bc hA hb6)).more (Al n) (Ac _),rfl,rfl⟩;clear HWH x0 x1 x2 x3 y0 y1 y2 y3 lx5 ly5 g5 k5 lx HX;go_wp2_with (go_at_call 36;refine(Bp.a5h _ _).mono ?_;rintro e w' ⟨rfl,hw'⟩;have hw2:=hw'.symm;subst hw2);go_ret;exact⟨rfl,HF.out⟩
end
section
def RdL(wb g n vc k ob:Nat)(px pr pn:Value)(on:Int)(cs:List Value)(W:World):Prop:=W.cell? ⟨wb,6,none⟩=some (.slice (some ⟨g,0,none⟩) n vc)/\W.cell? ⟨g,k*3,none⟩=some px/\W.cell? ⟨g,k*3+1,none⟩=some pr/\W.cell? ⟨g,k*3+2,none⟩=some pn/\W.cell? ⟨ob,1,none⟩=some (.int .i64 on)/\W.rangeAt ob 0 cs
theorem b3L{wb g n vc k ob:Nat}{px pr pn:Value}{on:Int}{cs:List Value}{W W':World}(hb:Bw W W')(h:RdL wb g n vc k ob px pr pn on cs W):RdL wb g n vc k ob px pr pn on cs W':=
 ⟨Aa hb h.1,Aa hb h.2.1,Aa hb h.2.2.1,Aa hb h.2.2.2.1,Aa hb h.2.2.2.2.1,λj v hj=>Aa hb (h.2.2.2.2.2 j v hj)⟩
theorem c4B(wb g vc k len:Nat)(px pr pn:Value)(kk on:Int)(x2 x3 x4 x5 x6 x7 x8 x9 x10 x11 x12 x13 x14 x15 x16 x17 x18 x19:Value)(Q:World->Prop)(w wB:World)(ob:Nat)(hwB:w.alloc (.cells #[.int .i64 kk,.int .i64 on,x2,x3,x4,x5,x6,x7,x8,x9,x10,x11,x12,x13,x14,x15,x16,x17,x18,x19] 51)=wB)(hob:w.heap.size=ob)(f0:wB.cell? ⟨ob,0,none⟩=some (.int .i64 kk))(e0:¬kk<20)(e1:(kk==20)=false)(e2:¬kk<30)(e3:(kk==30)=false)(e4:(kk==31)=false)(e5:(kk==32)=false)(e6:32<kk)(e7:(0:Int)<(len:Int))(e8:(k:Int)<(len:Int))(_lw:wb<wB.heap.size)
  (HPK:Hid (∀W,Calls prog 14 #[.int .i64 on,.int .i64 len] W λe w'=>e=.returned (.int .i64 (k:Int))/\w'=W))
  (HRD:Hid (RdL wb g len vc k ob px pr pn on [.int .i64 kk,.int .i64 on,x2,x3,x4,x5,x6,x7,x8,x9,x10,x11,x12,x13,x14,x15,x16,x17,x18,x19] wB))
  (HTB:Hid (∀W,Bw wB W->Calls prog 17 #[.agg #[px,pr,pn],.agg #[.int .i64 kk,.int .i64 on,x2,x3,x4,x5,x6,x7,x8,x9,x10,x11,x12,x13,x14,x15,x16,x17,x18,x19]] W λr w'=>r=.returned (.bool true)/\RdL wb g len vc k ob px pr pn on [.int .i64 kk,.int .i64 on,x2,x3,x4,x5,x6,x7,x8,x9,x10,x11,x12,x13,x14,x15,x16,x17,x18,x19] w'/\Q w')) :
  Calls prog 8 #[.pointer (some ⟨wb,0,none⟩),.agg #[.int .i64 kk,.int .i64 on,x2,x3,x4,x5,x6,x7,x8,x9,x10,x11,x12,x13,x14,x15,x16,x17,x18,x19]] w λr w'=>r=.returned (.bool true)/\Q w':=by
 obtain⟨r0,r1,r2,r3,f1,-⟩:=HRD.out;have HRE:=hid (b3L ((Ad wB.heap.size wB).drew) HRD.out);have l1:=Ap f0;have l2:=Ap r1;have HWB:=hid hwB;have HOB:=hid hob;clear hwB hob;go_enter func8,ntmps8;go_upto_region 1 with fail;rw[HWB.out,HOB.out];go_upto_region 12 with fail;have hcl:(prog.info? 51).map (·.size)=some ([.int .i64 kk,.int .i64 on,x2,x3,x4,x5,x6,x7,x8,x9,x10,x11,x12,x13,x14,x15,x16,x17,x18,x19]:List Value).length:=by kernel_rfl
 generalize [.int .i64 kk,.int .i64 on,x2,x3,x4,x5,x6,x7,x8,x9,x10,x11,x12,x13,x14,x15,x16,x17,x18,x19]=cs at *
 have HCL:=hid hcl;clear hcl;refine wp_region_held_drew (S:=λW=>W.cell? ⟨wb,6,none⟩=some (.slice (some ⟨g,0,none⟩) len vc)/\W.cell? ⟨g,k*3,none⟩=some px/\W.cell? ⟨g,k*3+1,none⟩=some pr/\W.cell? ⟨g,k*3+2,none⟩=some pn/\W.cell? ⟨ob,1,none⟩=some (.int .i64 on)/\W.rangeAt ob 0 cs) (by kernel_rfl) HRE.out (λhHeld=>?_)
 refine' wpAnyH_take (i:=14) (oi:={dst:=some 115,op:=Op.load 51 (Operand.tmp 3),type:=51,pos:= "play.go:216",after:=#[],guard:=none}) (v:=_) rfl (by kernel_rfl) (by kernel_rfl) (by kernel_rfl) (λ_ _ _ h=>h) (yieldsIf_load_mid (by rfl) _ _ rfl _ _ rfl cs _ ?hS ?hu ?hd ?hi) (by assumption) ?rest
 case hS=>(intro w hSw;exact hSw.2.2.2.2.2)
 case hu=>exact underlying51
 case hd=>rfl
 case hi=>exact HCL.out
 (try simp only[Act.put,A2z,A7z,A5z])
 refine wpAnyH_take (i:=0) (oi:={dst:=some 101,op:=Op.move (Operand.tmp 0),type:=26,pos:= "play.go:216",after:=#[],guard:=none}) (v:=?v0) rfl (by kernel_rfl) (by kernel_rfl) (by kernel_rfl) (λ_ _ _ h=>h) (Or.inl ⟨by rfl,?y0⟩) (by assumption) ?r0
 case y0=>(intro w hSw;(try dsimp only at hSw);go_simp;(try with_reducible rfl))
 (try simp only[Act.put,A2z,A7z,A5z])
 refine wpAnyH_take (i:=1) (oi:={dst:=some 102,op:=Op.nilCheck (Operand.tmp 101),type:=0,pos:= "play.go:216",after:=#[{on:=0,ground:=Ground.data}],guard:=none}) (v:=?v1) rfl (by kernel_rfl) (by kernel_rfl) (by kernel_rfl) (λ_ _ _ h=>h) (Or.inl ⟨by rfl,?y1⟩) (by assumption) ?r1
 case y1=>(intro w hSw;(try dsimp only at hSw);go_simp;(try with_reducible rfl))
 (try simp only[Act.put,A2z,A7z,A5z])
 refine wpAnyH_take (i:=2) (oi:={dst:=some 103,op:=Op.fieldAddr 37 (Operand.tmp 102) 3,type:=0,pos:= "play.go:216",after:=#[{on:=1,ground:=Ground.data}],guard:=none}) (v:=?v2) rfl (by kernel_rfl) (by kernel_rfl) (by kernel_rfl) (λ_ _ _ h=>h) (Or.inl ⟨by rfl,?y2⟩) (by assumption) ?r2
 case y2=>(intro w hSw;(try dsimp only at hSw);go_simp;(try with_reducible rfl))
 (try simp only[Act.put,A2z,A7z,A5z])
 refine wpAnyH_take (i:=3) (oi:={dst:=some 104,op:=Op.load 35 (Operand.tmp 103),type:=35,pos:= "play.go:216",after:=#[{on:=2,ground:=Ground.data}],guard:=none}) (v:=?v3) rfl (by kernel_rfl) (by kernel_rfl) (by kernel_rfl) (λ_ _ _ h=>h) (Or.inl ⟨by rfl,?y3⟩) (by assumption) ?r3
 case y3=>(intro w hSw;(try dsimp only at hSw);go_simp;(try with_reducible rfl))
 (try simp only[Act.put,A2z,A7z,A5z])
 refine wpAnyH_take (i:=4) (oi:={dst:=some 105,op:=Op.fieldAddr 51 (Operand.tmp 3) 1,type:=0,pos:= "play.go:216",after:=#[],guard:=none}) (v:=?v4) rfl (by kernel_rfl) (by kernel_rfl) (by kernel_rfl) (λ_ _ _ h=>h) (Or.inl ⟨by rfl,?y4⟩) (by assumption) ?r4
 case y4=>(intro w hSw;(try dsimp only at hSw);go_simp;(try with_reducible rfl))
 (try simp only[Act.put,A2z,A7z,A5z])
 refine wpAnyH_take (i:=5) (oi:={dst:=some 106,op:=Op.load 3 (Operand.tmp 105),type:=3,pos:= "play.go:216",after:=#[{on:=4,ground:=Ground.data}],guard:=none}) (v:=?v5) rfl (by kernel_rfl) (by kernel_rfl) (by kernel_rfl) (λ_ _ _ h=>h) (Or.inl ⟨by rfl,?y5⟩) (by assumption) ?r5
 case y5=>(intro w hSw;(try dsimp only at hSw);go_simp;(try with_reducible rfl))
 (try simp only[Act.put,A2z,A7z,A5z])
 refine wpAnyH_take (i:=6) (oi:={dst:=some 107,op:=Op.move (Operand.tmp 0),type:=26,pos:= "play.go:216",after:=#[],guard:=none}) (v:=?v6) rfl (by kernel_rfl) (by kernel_rfl) (by kernel_rfl) (λ_ _ _ h=>h) (Or.inl ⟨by rfl,?y6⟩) (by assumption) ?r6
 case y6=>(intro w hSw;(try dsimp only at hSw);go_simp;(try with_reducible rfl))
 (try simp only[Act.put,A2z,A7z,A5z])
 refine wpAnyH_take (i:=7) (oi:={dst:=some 108,op:=Op.nilCheck (Operand.tmp 107),type:=0,pos:= "play.go:216",after:=#[{on:=6,ground:=Ground.data}],guard:=none}) (v:=?v7) rfl (by kernel_rfl) (by kernel_rfl) (by kernel_rfl) (λ_ _ _ h=>h) (Or.inl ⟨by rfl,?y7⟩) (by assumption) ?r7
 case y7=>(intro w hSw;(try dsimp only at hSw);go_simp;(try with_reducible rfl))
 (try simp only[Act.put,A2z,A7z,A5z])
 refine wpAnyH_take (i:=8) (oi:={dst:=some 109,op:=Op.fieldAddr 37 (Operand.tmp 108) 3,type:=0,pos:= "play.go:216",after:=#[{on:=7,ground:=Ground.data}],guard:=none}) (v:=?v8) rfl (by kernel_rfl) (by kernel_rfl) (by kernel_rfl) (λ_ _ _ h=>h) (Or.inl ⟨by rfl,?y8⟩) (by assumption) ?r8
 case y8=>(intro w hSw;(try dsimp only at hSw);go_simp;(try with_reducible rfl))
 (try simp only[Act.put,A2z,A7z,A5z])
 refine wpAnyH_take (i:=9) (oi:={dst:=some 110,op:=Op.load 35 (Operand.tmp 109),type:=35,pos:= "play.go:216",after:=#[{on:=8,ground:=Ground.data}],guard:=none}) (v:=?v9) rfl (by kernel_rfl) (by kernel_rfl) (by kernel_rfl) (λ_ _ _ h=>h) (Or.inl ⟨by rfl,?y9⟩) (by assumption) ?r9
 case y9=>(intro w hSw;(try dsimp only at hSw);go_simp;(try with_reducible rfl))
 (try simp only[Act.put,A2z,A7z,A5z])
 refine wpAnyH_take (i:=10) (oi:={dst:=some 111,op:=Op.call {callee:=Callee.builtin Builtin.len,args:=#[Operand.tmp 110],argTypes:=#[35]},type:=3,pos:= "play.go:216",after:=#[{on:=9,ground:=Ground.data}],guard:=none}) (v:=?v10) rfl (by kernel_rfl) (by kernel_rfl) (by kernel_rfl) (λ_ _ _ h=>h) (Or.inl ⟨by rfl,?y10⟩) (by assumption) ?r10
 case y10=>(intro w hSw;(try dsimp only at hSw);go_simp;(try with_reducible rfl))
 (try simp only[Act.put,A2z,A7z,A5z])
 refine wpAnyH_ready (rs:=[11]) (by kernel_rfl) (by simp) ?_;refine AllReadyH.cons (o:={dst:=some 112,op:=Op.call {callee:=Callee.value (Operand.func 14),args:=#[Operand.tmp 106,Operand.tmp 111],argTypes:=#[3,3]},type:=3,pos:= "play.go:216",after:=#[{on:=5,ground:=Ground.data},{on:=10,ground:=Ground.data}],guard:=none}) rfl (λK hK=>?_) AllReadyH.nil;go_simp;refine(HPK.out _).mono ?_;rintro e w' ⟨rfl,hw'⟩;have hw2:=hw'.symm;subst hw2
 try go_wp2_with fail
 refine hK.out _ _ HRE.out (λhHeld2=>?_);clear hK K
 (try simp only[Act.put,A2z,A7z,A5z])
 refine wpAnyH_take (i:=12) (oi:={dst:=some 113,op:=Op.indexAddr 35 (Operand.tmp 104) (Operand.tmp 112),type:=0,pos:= "play.go:216",after:=#[{on:=3,ground:=Ground.data},{on:=11,ground:=Ground.data}],guard:=none}) (v:=?v12) rfl (by kernel_rfl) (by kernel_rfl) (by kernel_rfl) (λ_ _ _ h=>h) (Or.inl ⟨by rfl,?y12⟩) (by assumption) ?r12
 case y12=>(intro w hSw;(try dsimp only at hSw);go_simp;(try with_reducible rfl))
 (try simp only[Act.put,A2z,A7z,A5z])
 refine wpAnyH_take (i:=13) (oi:={dst:=some 114,op:=Op.load 70 (Operand.tmp 113),type:=70,pos:= "play.go:216",after:=#[{on:=12,ground:=Ground.data}],guard:=none}) (v:=?v13) rfl (by kernel_rfl) (by kernel_rfl) (by kernel_rfl) (λ_ _ _ h=>h) (Or.inl ⟨by rfl,?y13⟩) (by assumption) ?r13
 case y13=>(intro w hSw;(try dsimp only at hSw);go_simp;(try with_reducible rfl))
 (try simp only[Act.put,A2z,A7z,A5z])
 refine wpAnyH_ready (rs:=[15]) (by kernel_rfl) (by simp) ?_;refine AllReadyH.cons (o:={dst:=some 116,op:=Op.call {callee:=Callee.value (Operand.func 17),args:=#[Operand.tmp 114,Operand.tmp 115],argTypes:=#[70,51]},type:=4,pos:= "play.go:216",after:=#[{on:=13,ground:=Ground.data},{on:=14,ground:=Ground.data},{on:=11,ground:=Ground.chain}],guard:=none}) rfl (λK hK=>?_) AllReadyH.nil;go_simp;refine(HTB.out _ ((Ad _ _).drew)).mono ?_;rintro r w4 ⟨rfl,hS4,hX⟩;have HX:=hid hX;clear hX
 try go_wp2_with fail
 refine hK.out _ _ hS4 (λhHeld3=>?_);clear hK K
 (try simp only[Act.put,A2z,A7z,A5z])
 refine wpAnyH_take (i:=16) (oi:={dst:=some 4,op:=Op.assign (Operand.tmp 116),type:=4,pos:= "play.go:216",after:=#[{on:=15,ground:=Ground.data},{on:=15,ground:=Ground.chain},{on:=0,ground:=Ground.phase},{on:=1,ground:=Ground.phase},{on:=2,ground:=Ground.phase},{on:=3,ground:=Ground.phase},{on:=4,ground:=Ground.phase},{on:=5,ground:=Ground.phase},{on:=6,ground:=Ground.phase},{on:=7,ground:=Ground.phase},{on:=8,ground:=Ground.phase},{on:=9,ground:=Ground.phase},{on:=10,ground:=Ground.phase},{on:=11,ground:=Ground.phase},{on:=12,ground:=Ground.phase},{on:=13,ground:=Ground.phase},{on:=14,ground:=Ground.phase},{on:=15,ground:=Ground.phase}],guard:=none}) (v:=?v16) rfl (by kernel_rfl) (by kernel_rfl) (by kernel_rfl) (λ_ _ _ h=>h) (Or.inl ⟨by rfl,?y16⟩) (by assumption) ?r16
 case y16=>(intro w hSw;(try dsimp only at hSw);go_simp;(try with_reducible rfl))
 (try simp only[Act.put,A2z,A7z,A5z])
 refine wpAnyH_done (by kernel_rfl) ?_ _;go_wp2_with fail;go_ret;exact⟨rfl,HX.out⟩
end
theorem XI.seven{OW:Nat->Nat}{wb:Nat}{V:Nat->Value}{l:Nat->List Value}{vs:Value}{tb:List Pr}{O:Nat->Option (Nat×Tg)}{vh vl:Value}{hs:List Hs}{ls:List Ln}{n G:Nat}{w0 w:World}(X:XI OW wb V l vs tb O vh vl hs ls n G w0 w):XI (λb=>if b<w.heap.size then OW b else 7) wb V l vs tb O vh vl hs ls n G w0 w:=⟨X.wi.seven,X.hn,X.ln,X.cn,X.sm⟩
theorem c1H:∀(l:List Hs) (i:Nat) (h:i<l.length),(hsP l)[i*2]?=some (.pointer (some ⟨(l[i]).ps,0,none⟩))/\(hsP l)[i*2+1]?=some (.pointer (some ⟨(l[i]).sr,0,none⟩)):=by
 intro l
 induction l with
 |nil=>intro i h;simp at h
 |cons a r ih=>
  intro i hi
  cases i with
  |zero=>exact⟨rfl,rfl⟩
  |succ i=>
   have:=ih i (by simpa using hi);unfold hsP at this ⊢;rw[F2z,show(i+1)*2=i*2+1+1 by omega,show i*2+1+1+1=(i*2+1)+1+1 by omega];simpa using this
theorem c1I:∀(l:List Ln) (i:Nat) (h:i<l.length),(lsP l)[i*3]?=some (.pointer (some ⟨(l[i]).pc,0,none⟩))/\(lsP l)[i*3+1]?=some (.pointer (some ⟨(l[i]).sr,0,none⟩))/\(lsP l)[i*3+2]?=some (.int .i64 ((l[i]).j:Int)):=by
 intro l
 induction l with
 |nil=>intro i h;simp at h
 |cons a r ih=>
  intro i hi
  cases i with
  |zero=>exact⟨rfl,rfl,rfl⟩
  |succ i=>
   have:=ih i (by simpa using hi);unfold lsP at this ⊢;rw[F2z,show(i+1)*3=i*3+1+1+1 by omega,show i*3+1+1+1+1=(i*3+1)+1+1+1 by omega,show i*3+1+1+1+2=(i*3+2)+1+1+1 by omega];simpa using this
theorem a9Y{w:World}{B:Nat}{T:TypeId}{sz:Nat}{v:Value}{n:Nat}{xs:List Value}(h:w.ownsRow B T sz v n xs)(hn:0<n):∃(g cap:Nat),v=.slice (some ⟨g,0,none⟩) n cap/\g<w.heap.size/\∀(j:Nat) (u:Value),xs[j]?=some u->w.cell? ⟨g,j,none⟩=some u:=by
 obtain⟨h1,h2⟩:=h;rcases h2 with⟨_,h0⟩|⟨g,cap,cur,hv,hB,hg,_,_,_,hc⟩
 ·omega
 ·refine⟨g,cap,hv,heap_lt hg,λj u hj=>?_⟩;rw[Ab hg];have h3:(cur.toList.take (n*sz))[j]?=some u:=by rw[hc];exact hj
  rw[D0z]at h3
  split at h3
  ·simpa using h3
  ·cases h3
section
variable{OW:Nat->Nat}{wb:Nat}{V:Nat->Value}{l:Nat->List Value}{vs:Value}{tb:List Pr}{O:Nat->Option (Nat×Tg)}{vh vl:Value}{hs:List Hs}{ls:List Ln}{n G:Nat}{w0 w:World}{mx:Int}
theorem a4F(X:XI OW wb V l vs tb O vh vl hs ls n G w0 w)(hn:n<=900000)(Gw:Gl w0 mx)(o:OpV)(hk:o.k=30)(C:Cf)(e1:o.ch=C.hd)(e2:o.cb=C.bd)(e3:o.rn=C.rs.length)(e4:o.wn=C.ws.length)(hC:CfG C.rs C.ws o.ra o.rc o.wa o.wc w)(hcw:C.ws.length<=o.wc)(hro:∀r∈C.rs,RtSm r)(hwo:∀x∈C.ws,x.n.size<=1048576/\x.v.size<=1048576)
  (hcf:∀g p,(C.rs≠[]/\o.ra=some ⟨g,p,none⟩)\/(C.ws≠[]/\o.wa=some ⟨g,p,none⟩)->g<w.heap.size/\(g<w0.heap.size\/(O g=none/\OW g=7))) :
  Calls prog 8 #[.pointer (some ⟨wb,0,none⟩),.agg o.cs] w λr w'=>r=.returned (.bool true)/\XS wb (n+1) G (if(Et C.hd C.bd C.rs C.ws).2=0 then hs.length+1 else hs.length) ls.length w0 w':=by
 have hA:=bA w (.cells o.cs 51);have b1:=Ag w (.cells o.cs 51);have HT:=hid (a8D (X.below hA) hn Gw C o.ra o.rc o.wa o.wc (hC.below hA) hcw hro hwo (λg p e=>⟨Af (hcf g p e).1 hA.size,(hcf g p e).2⟩));rw[<-e1,<-e2,<-e3,<-e4]at HT;rw[<-e1,<-e2];generalize (if(Et o.ch o.cb C.rs C.ws).2=0 then hs.length+1 else hs.length)=nh at *
 clear X hA hC hro hwo hcf e1 e2 e3 e4 hcw;go_enter func8,ntmps8;go_upto_region 1 with fail;generalize w.alloc (.cells o.cs 51)=wB at *
 have d0:=(Ab b1 (j:=0)).trans (show _=some (Value.int .i64 o.k)from rfl);have d8:=(Ab b1 (j:=8)).trans (show _=some (Value.int .i64 o.ch)from rfl);have d9:=(Ab b1 (j:=9)).trans (show _=some (Value.int .i64 o.cb)from rfl);have d10:=(Ab b1 (j:=10)).trans (show _=some (Value.slice o.ra o.rn o.rc)from rfl);have d11:=(Ab b1 (j:=11)).trans (show _=some (Value.slice o.wa o.wn o.wc)from rfl);have l1:=heap_lt b1;rw[hk]at d0;clear b1;generalize w.heap.size=nb at *
 have hr:wB.rangeAt nb 8 [.int .i64 o.ch,.int .i64 o.cb,.slice o.ra o.rn o.rc,.slice o.wa o.wn o.wc]:=λj v hj=>by
  match j,hj with
  |0,hj=>cases hj;exact d8
  |1,hj=>cases hj;exact d9
  |2,hj=>cases hj;exact d10
  |3,hj=>cases hj;exact d11
  |j+4,hj=>simp at hj
 have HR:=hid hr;clear hr d8 d9 d10 d11;go_upto_region 8 with fail;have hr:=HR.out;go_wp2_with (refine wpList_load_mid rfl 44 _ rfl nb 8 rfl [.int .i64 o.ch,.int .i64 o.cb,.slice o.ra o.rn o.rc,.slice o.wa o.wn o.wc] _ hr underlying44 rfl (by kernel_rfl) ?_);refine HT.out.mono ?_;rintro r w1 ⟨rfl,hX⟩;have HX:=hid hX;clear hX HT;go_wp2_with fail;go_ret;exact⟨rfl,HX.out⟩
theorem b8Q(X:XI OW wb V l vs tb O vh vl hs ls n G w0 w)(o:OpV)(hk:o.k=31\/o.k=32)(h0:hs.length=0):
  Calls prog 8 #[.pointer (some ⟨wb,0,none⟩),.agg o.cs] w λr w'=>r=.returned (.bool true)/\Bw w w':=by
 have hA:=bA w (.cells o.cs 51);have b1:=Ag w (.cells o.cs 51);have XB:=X.below hA;obtain⟨va,vc,hvh⟩:=Ce XB.hi.hr;subst hvh;have c5:(w.alloc (.cells o.cs 51)).cell? ⟨wb,5,none⟩=some (.slice va hs.length vc):=by rw[Ab XB.wi.blk];rfl
 rw[h0]at c5;have lw:=XB.wi.lt;have HA:=hid hA;have key:∀kk:Int,o.k=kk->(kk=31\/kk=32)->Calls prog 8 #[.pointer (some ⟨wb,0,none⟩),.agg o.cs] w λr w'=>r=.returned (.bool true)/\Bw w w':=by
  intro kk hkk hk;clear X XB hA;go_enter func8,ntmps8;go_upto_region 1 with fail;generalize w.alloc (.cells o.cs 51)=wB at *
  have d0:=(Ab b1 (j:=0)).trans (show _=some (Value.int .i64 o.k)from rfl);have l1:=heap_lt b1;rw[hkk]at d0;clear b1 hkk;rcases hk with rfl|rfl
  ·go_wp2_with fail;go_ret;exact⟨rfl,HA.out⟩
  ·go_wp2_with fail;go_ret;exact⟨rfl,HA.out⟩
 exact key o.k rfl hk
theorem b8R(X:XI OW wb V l vs tb O vh vl hs ls n G w0 w)(o:OpV)(hk:32<o.k)(h0:ls.length=0):
  Calls prog 8 #[.pointer (some ⟨wb,0,none⟩),.agg o.cs] w λr w'=>r=.returned (.bool true)/\Bw w w':=by
 have hA:=bA w (.cells o.cs 51);have b1:=Ag w (.cells o.cs 51);have XB:=X.below hA;obtain⟨va,vc,hvl⟩:=Ce XB.hi.lr;subst hvl;have c6:(w.alloc (.cells o.cs 51)).cell? ⟨wb,6,none⟩=some (.slice va ls.length vc):=by rw[Ab XB.wi.blk];rfl
 rw[h0]at c6;have lw:=XB.wi.lt;have HA:=hid hA;have e0:¬o.k<20:=by omega
 have e1:(o.k==20)=false:=by rw[Ar];omega
 have e2:¬o.k<30:=by omega
 have e3:(o.k==30)=false:=by rw[Ar];omega
 have e4:(o.k==31)=false:=by rw[Ar];omega
 have e5:(o.k==32)=false:=by rw[Ar];omega
 clear X XB hA;go_enter func8,ntmps8;go_upto_region 1 with fail;generalize w.alloc (.cells o.cs 51)=wB at *
 have d0:=(Ab b1 (j:=0)).trans (show _=some (Value.int .i64 o.k)from rfl);have l1:=heap_lt b1;clear b1;go_wp2_with fail;go_ret;exact⟨rfl,HA.out⟩
theorem Gd(w:World)(o:OpV){W:World}(h:W.heap[w.heap.size]?=some (.cells o.cs 51 (0,0))):W.cell? ⟨w.heap.size,1,none⟩=some (.int .i64 o.on)/\W.rangeAt w.heap.size 0 o.cs.toList:=
 ⟨by rw[Ab h];rfl,λj v hj=>by rw[Ab h,C1z,<-Array.getElem?_toList];exact hj⟩
theorem a8E(X:XI OW wb V l vs tb O vh vl hs ls n G w0 w)(hn:n<=900000)(Gw:Gl w0 mx)(o:OpV)(ok:OpOk o)(hk:32<o.k)(hl:0<ls.length)(hz:G+o.s.size<=1900000):
  Calls prog 8 #[.pointer (some ⟨wb,0,none⟩),.agg o.cs] w λr w'=>r=.returned (.bool true)/\∃nh,XS wb (n+1) (G+o.s.size) nh ls.length w0 w':=by
 have hA:=bA w (.cells o.cs 51);have b1:=Ag w (.cells o.cs 51);have XB:=X.below hA;have lob:w.heap.size<(w.alloc (.cells o.cs 51)).heap.size:=by simp
 obtain⟨k,hkl,hkk⟩:=a4C o.on ls.length hl;obtain⟨g,vc,hvl,hg,hcs⟩:=a9Y XB.hi.lr hl;obtain⟨p1,p2,p3⟩:=c1I ls k hkl;have HPK:=hid (λW=>Wx o.on ls.length W ok.on0 ok.on1 (by omega) (by have:=X.ln;omega));rw[hkk]at HPK;have hog:O g=some (0,.lrow):=XB.hi.olr g (by rw[hvl];rfl);have c6:∀ {OW':Nat->Nat} {V':Nat->Value} {l':Nat->List Value} {O':Nat->Option (Nat×Tg)} {hs':List Hs} {m G':Nat} {W:World},XI OW' wb V' l' vs tb O' vh vl hs' ls m G' w0 W->W.cell? ⟨wb,6,none⟩=some (.slice (some ⟨g,0,none⟩) ls.length vc):=λY=>by
  rw[Ab Y.wi.blk,<-hvl];rfl
 have HRD:Hid (RdL wb g ls.length vc k w.heap.size (.pointer (some ⟨(ls[k]).pc,0,none⟩)) (.pointer (some ⟨(ls[k]).sr,0,none⟩)) (.int .i64 ((ls[k]).j:Int)) o.on o.cs.toList (w.alloc (.cells o.cs 51))):=
  ⟨c6 XB,hcs _ _ p1,hcs _ _ p2,hcs _ _ p3,(Gd w o b1).1,(Gd w o b1).2⟩
 have HTB:=hid (λW (hb:Below (w.alloc (.cells o.cs 51)).heap.size (w.alloc (.cells o.cs 51)) W)=>(a8A (XB.below hb) hkl o hz Gw).mono (λr w' (hr:_/\_)=>(show r=.returned (.bool true)/\RdL wb g ls.length vc k w.heap.size (.pointer (some ⟨(ls[k]).pc,0,none⟩)) (.pointer (some ⟨(ls[k]).sr,0,none⟩)) (.int .i64 ((ls[k]).j:Int)) o.on o.cs.toList w'/\(∃nh,XS wb (n+1) (G+o.s.size) nh ls.length w0 w')from by
  obtain⟨h1,⟨OW',O',hs',X'⟩,h4⟩:=hr;have hgk:w'.heap[g]?=(w.alloc (.cells o.cs 51)).heap[g]?:=by
   rw[h4 g (Af hg hb.size) (λi t e=>by rw[hog]at e;cases e),hb.block g hg]
  have hob:w'.heap[w.heap.size]?=some (.cells o.cs 51 (0,0)):=by
   rw[h4 _ (Af lob hb.size) (λi t e=>by have:=X.hi.olt _ _ e;omega),hb.block _ lob];exact b1
  exact⟨h1,⟨c6 X',by rw[Au (w:=w.alloc (.cells o.cs 51)) hgk];exact hcs _ _ p1,by rw[Au (w:=w.alloc (.cells o.cs 51)) hgk];exact hcs _ _ p2,by rw[Au (w:=w.alloc (.cells o.cs 51)) hgk];exact hcs _ _ p3,(Gd w o hob).1,(Gd w o hob).2⟩,hs'.length,OW',V,l,vs,tb,O',vh,vl,hs',ls,X',rfl,rfl⟩)))
 exact c4B wb g vc k ls.length _ _ _ o.k o.on _ _ _ _ _ _ _ _ _ _ _ _ _ _ _ _ _ _ (λw'=>∃nh,XS wb (n+1) (G+o.s.size) nh ls.length w0 w') w _ _ rfl rfl ((Ab b1 (j:=0)).trans rfl) (by omega) (by rw[Ar];omega) (by omega) (by rw[Ar];omega) (by rw[Ar];omega) (by rw[Ar];omega) hk (by omega) (by omega) XB.wi.lt HPK HRD HTB
theorem a4G(X:XI OW wb V l vs tb O vh vl hs ls n G w0 w)(hn:n<=900000)(o:OpV)(ok:OpOk o)(hk:o.k=31\/o.k=32)(hl:0<hs.length)(hG:G<=1900000):
  Calls prog 8 #[.pointer (some ⟨wb,0,none⟩),.agg o.cs] w λr w'=>r=.returned (.bool true)/\∃nh,XS wb (n+1) G nh (if o.k=32 then ls.length+1 else ls.length) w0 w':=by
 have hA:=bA w (.cells o.cs 51);have b1:=Ag w (.cells o.cs 51);have XB:=X.seven.below hA;have lob:w.heap.size<(w.alloc (.cells o.cs 51)).heap.size:=by simp
 obtain⟨k,hkl,hkk⟩:=a4C o.on hs.length hl;obtain⟨g,vc,hvh,hg,hcs⟩:=a9Y XB.hi.hr hl;obtain⟨p1,p2⟩:=c1H hs k hkl;have HPK:=hid (λW=>Wx o.on hs.length W ok.on0 ok.on1 (by omega) (by have:=X.hn;omega));rw[hkk]at HPK;have hog:O g=some (0,.hrow):=XB.hi.ohr g (by rw[hvh];rfl);have hw7:(if g<w.heap.size then OW g else 7)=7:=(XB.wi.rlt g ⟨_,hog⟩).2;have c5:∀ {OW':Nat->Nat} {V':Nat->Value} {l':Nat->List Value} {O':Nat->Option (Nat×Tg)} {vl':Value} {hs':List Hs} {ls':List Ln} {m G':Nat} {W:World},XI OW' wb V' l' vs tb O' vh vl' hs' ls' m G' w0 W->W.cell? ⟨wb,5,none⟩=some (.slice (some ⟨g,0,none⟩) hs.length vc):=λY=>by
  rw[Ab Y.wi.blk,<-hvh];rfl
 have HRD:Hid (RdH wb g hs.length vc k w.heap.size (.pointer (some ⟨(hs[k]).ps,0,none⟩)) (.pointer (some ⟨(hs[k]).sr,0,none⟩)) o.on o.cs.toList (w.alloc (.cells o.cs 51))):=
  ⟨c5 XB,hcs _ _ p1,hcs _ _ p2,(Gd w o b1).1,(Gd w o b1).2⟩
 have fin:∀ {nl:Nat} {W w':World},Below (w.alloc (.cells o.cs 51)).heap.size (w.alloc (.cells o.cs 51)) W->XV (λb=>if b<w.heap.size then OW b else 7) wb vs tb O vh nl (n+1) G w0 W w'->RdH wb g hs.length vc k w.heap.size (.pointer (some ⟨(hs[k]).ps,0,none⟩)) (.pointer (some ⟨(hs[k]).sr,0,none⟩)) o.on o.cs.toList w'/\∃nh,XS wb (n+1) G nh nl w0 w':=λ{nl W w'} hb hr=>by
  obtain⟨⟨OW',V',l',O',vl',hs',ls',X',e9⟩,h4⟩:=hr;have hgk:w'.heap[g]?=(w.alloc (.cells o.cs 51)).heap[g]?:=by
   rw[h4 g (Af hg hb.size) hw7 (λt e=>by rw[hog]at e;cases e;rfl),hb.block g hg]
  have hob:w'.heap[w.heap.size]?=some (.cells o.cs 51 (0,0)):=by
   rw[h4 _ (Af lob hb.size) (if_neg (Nat.lt_irrefl _)) (λt e=>by have:=X.hi.olt _ _ e;omega),hb.block _ lob];exact b1
  exact⟨⟨c5 X',by rw[Au (w:=w.alloc (.cells o.cs 51)) hgk];exact hcs _ _ p1,by rw[Au (w:=w.alloc (.cells o.cs 51)) hgk];exact hcs _ _ p2,(Gd w o hob).1,(Gd w o hob).2⟩,hs'.length,OW',V',l',vs,tb,O',vh,vl',hs',ls',X',rfl,e9⟩
 rcases hk with hk|hk
 ·rw[if_neg (by omega)];have HTB:=hid (λW (hb:Below (w.alloc (.cells o.cs 51)).heap.size (w.alloc (.cells o.cs 51)) W)=>(a4D (XB.below hb) hn hG hkl o hk).mono (λr w' (hr:_/\_)=>(show r=.returned (.bool true)/\_/\_ from⟨hr.1,fin hb hr.2⟩)));exact b8O wb g vc k hs.length _ _ o.k o.on _ _ _ _ _ _ _ _ _ _ _ _ _ _ _ _ _ _ (λw'=>∃nh,XS wb (n+1) G nh ls.length w0 w') w _ _ rfl rfl ((Ab b1 (j:=0)).trans rfl) (by omega) (by rw[Ar];omega) (by omega) (by rw[Ar];omega) (.inl (by rw[hk];rfl)) (by omega) (by omega) XB.wi.lt HPK HRD HTB
 ·rw[if_pos hk];have HTB:=hid (λW (hb:Below (w.alloc (.cells o.cs 51)).heap.size (w.alloc (.cells o.cs 51)) W)=>(a4E (XB.below hb) hn hkl o (by rw[hk];rfl)).mono (λr w' (hr:_/\_)=>(show r=.returned (.bool true)/\_/\_ from⟨hr.1,fin hb hr.2⟩)));exact b8O wb g vc k hs.length _ _ o.k o.on _ _ _ _ _ _ _ _ _ _ _ _ _ _ _ _ _ _ (λw'=>∃nh,XS wb (n+1) G nh (ls.length+1) w0 w') w _ _ rfl rfl ((Ab b1 (j:=0)).trans rfl) (by omega) (by rw[Ar];omega) (by omega) (by rw[Ar];omega) (.inr ⟨by rw[hk];rfl,by rw[hk];rfl⟩) (by omega) (by omega) XB.wi.lt HPK HRD HTB
end
end Go.Proofs.YtbiggccolpchcaaGreatDoor
