/- Joined. -/
import Derived.Test.YtbiggccolpchcaaGreatDoorReG
import Derived.Test.YtbiggccolpchcaaGreatDoorReL
set_option maxRecDepth 100000
set_option maxHeartbeats 16000000
namespace Go.Proofs.YtbiggccolpchcaaGreatDoor
open Go.RowKit _root_.Go.Proofs.Tryz
theorem Xy(r:Rn)(x:Wr)(p1 p2:Addr)(G:Option An)(w:World)(hk:x.k=1)(hr:RnAt r w)(HIN:∀W,Bw w W->Calls prog 310 #[.pointer (some p1),.pointer (some p2)] W (Cz G W)):
  Calls prog 309 #[.agg r.vals,.agg #[.int .i64 x.k,.string x.n,.string x.v,.int .i64 x.lim],.func (.func 310) #[] #[.pointer (some p1),.pointer (some p2)]] w (Cz (if x.v.data.toList∈(Bf r.fs x.n.data.toList).map (λb=>b.data.toList)then G else some ⟨403,[],⟨#[]⟩⟩) w):=by
 obtain⟨hA,R1,X1,A1⟩:=Jx r x w;have HI:=hid HIN;have hvl:(Bf r.fs x.n.data.toList).length<=1000000:=Aj (Co _ _) hr.nf;have HV:=hid (λW (hW:Bw w W)=>Hw r.fs r.fa r.fc x.n W (hr.f.below hW) hr.nf hr.zf);generalize hGG:(if x.v.data.toList∈(Bf r.fs x.n.data.toList).map (λb=>b.data.toList)then G else some ⟨403,[],⟨#[]⟩⟩)=GG at *
 obtain⟨r0,r1,r2,r3,r4,r5,r6,r7,r8⟩:=R1.cells;obtain⟨x0,x1,x2,x3⟩:=X1.cells;have lr:=R1.lt;have lx:=X1.lt;clear HIN R1 X1 hr;obtain⟨qm,qt,qb,fs,fa,fc,ps,pa,pc,⟨hk',hst,ht,hn⟩⟩:=r;obtain⟨xk,xn,xv,xl⟩:=x;simp only[Rn.vals]at *
 subst hk;go_enter func309,ntmps309;go_upto_region 1 with fail;generalize ((w.alloc (.cells #[.string qm,.string qt,.slice fa fs.length fc,.string qb,.slice pa ps.length pc,.int .i64 hk',.int .i64 hst,.string ht,.string hn] 330)).alloc (.cells #[.int .i64 1,.string xn,.string xv,.int .i64 xl] 241)).alloc (.cells #[.int .i64 0,.slice none 0 0,.string ⟨#[]⟩,.bool false] 49)=w1 at *
 have la:=A1.lt;have HV1:=hid (λW (hW:Bw w1 W)=>HV.out W (Bc hA hW));have HI1:=hid (λW (hW:Bw w1 W)=>HI.out W (Bc hA hW));have HA1:=hid A1;have hb1:=Ad w1.heap.size w1;generalize hVS:Bf fs xn.data.toList=vals at *
 clear HI HV r0 r1 r3 r4 r5 r6 r7 r8 hVS A1;go_upto_region 5 with fail;by_cases hm:xv.data.toList∈vals.map (λb=>b.data.toList)
 ·rw[if_pos hm]at hGG;subst hGG;have HC:=hid (λ(l:Oa) (c:Nat) (W:World) (h:Dg vals l W)=>Qo vals l c xv W h hvl);rw[Ak hm]at HC;clear hm
  go_region_held3 (λW=>W.cell? ⟨w.heap.size,2,none⟩=some (.slice fa fs.length fc)/\W.cell? ⟨w.heap.size+1,1,none⟩=some (.string xn)/\W.cell? ⟨w.heap.size+1,2,none⟩=some (.string xv)) (go_keep)
   (first
    |(go_at_call 260;refine(HV1.out _ hb1.drew).mono ?_;rintro x wB ⟨⟨va,vc,rfl,ov⟩,hbB⟩;have e1:=Aa hbB x1;have e2:=Aa hbB x2;have e3:=Aa hbB r2;have HB:=hid (Bc hb1.drew hbB);have HQ:=hid (HC.out va vc wB ov);clear ov)
    |(go_at_call 254;refine HQ.out.mono ?_;rintro x w3 ⟨rfl,rfl⟩))
  have HEND:=hid (HI1.out _ HB.out);have A1:=HA1.out.below HB.out;have hAB:=Bc hA HB.out;have lw:=HB.out.size;clear HI1 HV1 HC HQ HA1;go_wp2_with fail;refine HEND.out.mono ?_
  cases G with
  |none=>
   rintro x w2 ⟨rfl,hb2⟩;exact⟨rfl,rfl,Bc hAB hb2⟩
  |some a=>
   rintro x w2 ⟨⟨vv,rfl,ow⟩,hb2⟩;have A2:=A1.below hb2;have hB2:=Bc hAB hb2;have hno:vv.ownBlock≠some (w.heap.size+1+1):=λe=>by have:=Bx ow _ e;omega
   have HO:=hid (Bt ow hAB.size);obtain⟨ax,cx,rfl⟩:=Ce ow;obtain⟨c0,c1,c2,c3⟩:=A2.cells;have f0:=A2.free 0;have f1:=A2.free 1;have f2:=A2.free 2;have f3:=A2.free 3;have l2:=A2.lt;obtain⟨d0,d1,d2,d3⟩:=(A2.set a.st (.slice ax a.fs.length cx) a.b false).cells;have HF:Hid ((setA (w.heap.size+1+1) a.st (.slice ax a.fs.length cx) a.b false w2).ownsRow w.heap.size 131 2 (.slice ax a.fs.length cx) a.fs.length (Bg a.fs)/\Bw w (setA (w.heap.size+1+1) a.st (.slice ax a.fs.length cx) a.b false w2)):=⟨Cg HO.out hno,Bm hB2 (by omega)⟩;unfold setA at d0 d1 d2 d3;clear ow HO A1;go_wp2_with fail;refine Ae (v:=.agg #[.int .i64 a.st,.slice ax a.fs.length cx,.string a.b,.bool false]) (by simp[results,results309,go_sem,d0,d1,d2,d3]) rfl ?_;exact⟨⟨_,rfl,HF.out.1⟩,HF.out.2⟩
 ·rw[if_neg hm]at hGG;subst hGG;have HC:=hid (λ(l:Oa) (c:Nat) (W:World) (h:Dg vals l W)=>Qo vals l c xv W h hvl);rw[Ao hm]at HC;clear hm
  go_region_held3 (λW=>W.cell? ⟨w.heap.size,2,none⟩=some (.slice fa fs.length fc)/\W.cell? ⟨w.heap.size+1,1,none⟩=some (.string xn)/\W.cell? ⟨w.heap.size+1,2,none⟩=some (.string xv)) (go_keep)
   (first
    |(go_at_call 260;refine(HV1.out _ hb1.drew).mono ?_;rintro x wB ⟨⟨va,vc,rfl,ov⟩,hbB⟩;have e1:=Aa hbB x1;have e2:=Aa hbB x2;have e3:=Aa hbB r2;have HB:=hid (Bc hb1.drew hbB);have HQ:=hid (HC.out va vc wB ov);clear ov)
    |(go_at_call 254;refine HQ.out.mono ?_;rintro x w3 ⟨rfl,rfl⟩))
  have A1:=HA1.out.below HB.out;have hAB:=Bc hA HB.out;obtain⟨c0,c1,c2,c3⟩:=A1.cells;have f0:=A1.free 0;have f1:=A1.free 1;have f2:=A1.free 2;have f3:=A1.free 3;have l2:=A1.lt;obtain⟨d0,d1,d2,d3⟩:=(A1.set 403 (.slice none 0 0) ⟨#[]⟩ false).cells;unfold setA at d0 d1 d2 d3;clear HI1 HV1 HC HQ HA1;go_wp2_with fail;refine Ae (v:=.agg #[.int .i64 403,.slice none 0 0,.string ⟨#[]⟩,.bool false]) (by simp[results,results309,go_sem,d0,d1,d2,d3]) rfl ?_;exact⟨⟨_,rfl,Am _ _ _ _⟩,Bm hAB (by omega)⟩
theorem a6H(r:Rn)(x:Wr)(p1 p2:Addr)(G:Option An)(w:World)(hr:RnAt r w)(hGl:∀a,G=some a->a.fs.length<=50000000)(HIN:∀W,Bw w W->Calls prog 310 #[.pointer (some p1),.pointer (some p2)] W (Cz G W)):
  Calls prog 309 #[.agg r.vals,.agg #[.int .i64 x.k,.string x.n,.string x.v,.int .i64 x.lim],.func (.func 310) #[] #[.pointer (some p1),.pointer (some p2)]] w (Cz (Eh x r.fs r.qb G) w):=by
 by_cases k0:x.k=0
 ·have e:Eh x r.fs r.qb G=G.map λa=>⟨a.st,a.fs++[(x.n,x.v)],a.b⟩:=by unfold Eh;rw[if_pos k0]
  rw[e];exact a6F r x p1 p2 G w k0 hGl HIN
 by_cases k1:x.k=1
 ·have e:Eh x r.fs r.qb G=if x.v.data.toList∈(Bf r.fs x.n.data.toList).map (λb=>b.data.toList)then G else some ⟨403,[],⟨#[]⟩⟩:=by unfold Eh;rw[if_neg k0,if_pos k1]
  rw[e];exact Xy r x p1 p2 G w k1 hr HIN
 by_cases k2:x.k=2
 ·exact Jy r x p1 p2 G w (.inl k2) HIN
 by_cases k3:x.k=3
 ·exact Jy r x p1 p2 G w (.inr (.inl k3)) HIN
 by_cases k4:x.k=4
 ·have e:Eh x r.fs r.qb G=G.map λa=>⟨a.st,a.fs++(Bf r.fs x.n.data.toList).map (λv=>(x.n,v)),a.b⟩:=by unfold Eh;rw[if_neg k0,if_neg k1,if_neg k2,if_neg k3,if_pos k4]
  rw[e];exact a1U r x p1 p2 G w k4 hr hGl HIN
 exact Jy r x p1 p2 G w (.inr (.inr ⟨k0,k1,k2,k3,k4⟩)) HIN
theorem a1V{h:Hn}{qb:By}{ps:List Prm}{a:An}(e:Ew h qb ps=some a):a.fs.length<=1:=by
 unfold Ew at e
 split at e
 ·cases e;simp
 split at e
 ·cases e;simp
 split at e
 ·cases e;simp
 split at e
 ·cases e;simp
 ·cases e
theorem b5Y{x:Wr}{qf:List Prm}{qb:By}{G:Option An}{N:Nat}(h:∀a,G=some a->a.fs.length<=N){a:An}(e:Eh x qf qb G=some a):a.fs.length<=N+(qf.length+1):=by
 unfold Eh at e
 split at e
 ·obtain⟨b,hb,rfl⟩:=Option.map_eq_some_iff.1 e;have:=h b hb;simp;omega
 split at e
 ·split at e
  ·have:=h a e;omega
  ·cases e;simp
 split at e
 ·split at e
  ·cases e;simp
  ·have:=h a e;omega
 split at e
 ·cases G with
  |none=>cases e;simp
  |some b=>have:=h a e;omega
 split at e
 ·obtain⟨b,hb,rfl⟩:=Option.map_eq_some_iff.1 e;have:=h b hb;have:=Co qf x.n.data.toList;simp;omega
 ·have:=h a e;omega
theorem Xz(qf:List Prm)(qb:By)(h:Hn)(ps:List Prm):∀(ws:List Wr) (a:An),Ld qf qb h ps ws=some a->a.fs.length<=1+ws.length*(qf.length+1)
 |[],a,e=>by have:=a1V e;simp;omega
 |x::r,a,e=>by
  have:=b5Y (Xz qf qb h ps r) e;rw[A9z,Nat.add_mul];omega
theorem Qq(r:Rn):∀(ws:List Wr) (a:Oa) (c:Nat) (w:World),Da 4 Wr.cells ws a w->ws.length<=c->ws.length<=1000000->1+ws.length*(r.fs.length+1)<=50000000->RnAt r w ->
  Calls prog 256 #[.agg r.vals,.slice a ws.length c] w (Cz (Ld r.fs r.qb r.h r.ps ws) w)
 |[],a,c,w,_,_,_,_,hr=>a1R r a c w hr
 |x::ws,a,c,w,hm,hc,hl,hz,hr=>by
  obtain⟨g,o,rfl,hg,hcells⟩:=hm 0 (by simp);have hlc:(x::ws).length=ws.length+1:=rfl;rw[hlc]at hc hl hz ⊢;have hz2:1+ws.length*(r.fs.length+1)<=50000000:=by
   rw[Nat.add_mul]at hz;omega
  have hrest:Da 4 Wr.cells ws (if c=1 then some ⟨g,o,none⟩else some ⟨g,o+4,none⟩) w:=by
   intro i hi;have hc1:¬c=1:=by omega
   rw[if_neg hc1];obtain⟨g',o',e,hg',hcc⟩:=hm (i+1) (by simp;omega);simp only[Option.some.injEq,Addr.mk.injEq,and_true]at e;obtain⟨rfl,rfl⟩:=e;refine⟨g,o+4,rfl,hg',λj v hv=>?_⟩;have:=hcc j v (by simpa using hv);rw[show o+4+i*4+j=o+(i+1)*4+j by omega];exact this
  refine Xx r x g o ws.length c (Eh x r.fs r.qb (Ld r.fs r.qb r.h r.ps ws)) w ?_ ?_ ?_ ?_ (by omega) ?_
  ·simpa using hcells 0 (.int .i64 x.k) rfl
  ·simpa using hcells 1 (.string x.n) rfl
  ·simpa using hcells 2 (.string x.v) rfl
  ·simpa using hcells 3 (.int .i64 x.lim) rfl
  ·intro W hW R s;refine a6H r x _ _ _ W (hr.below hW) (λa e=>Aj (Xz _ _ _ _ ws a e) hz2) (λW' hW'=>?_);have hWW:=Bc hW hW';exact a6E r _ _ g o ws.length c _ W' (R.below hW') (Aa hW' s) (by omega) (by omega) (λV hV=>Qq r ws _ (c-1) V (hrest.below (Bc hWW hV)) (by omega) (by omega) hz2 (hr.below (Bc hWW hV)))
theorem a6I(qm qt qb:By)(v:Value)(rt:Int)(pv:Value)(al lo:By)(w:World):Bw w (((w.alloc (.cells #[.string qm,.string qt,v,.string qb] 47)).alloc (.cells #[.int .i64 200,.int .i64 rt,pv,.string al,.string lo] 158)).alloc (.cells #[.int .i64 0,.slice none 0 0,.string ⟨#[]⟩,.bool false] 49))/\(((w.alloc (.cells #[.string qm,.string qt,v,.string qb] 47)).alloc (.cells #[.int .i64 200,.int .i64 rt,pv,.string al,.string lo] 158)).alloc (.cells #[.int .i64 0,.slice none 0 0,.string ⟨#[]⟩,.bool false] 49)).heap[w.heap.size]?=some (.cells #[.string qm,.string qt,v,.string qb] 47 (0,0))/\(((w.alloc (.cells #[.string qm,.string qt,v,.string qb] 47)).alloc (.cells #[.int .i64 200,.int .i64 rt,pv,.string al,.string lo] 158)).alloc (.cells #[.int .i64 0,.slice none 0 0,.string ⟨#[]⟩,.bool false] 49)).heap[w.heap.size+1]?=some (.cells #[.int .i64 200,.int .i64 rt,pv,.string al,.string lo] 158 (0,0))/\AnB (w.heap.size+1+1) 0 (.slice none 0 0) ⟨#[]⟩ false (((w.alloc (.cells #[.string qm,.string qt,v,.string qb] 47)).alloc (.cells #[.int .i64 200,.int .i64 rt,pv,.string al,.string lo] 158)).alloc (.cells #[.int .i64 0,.slice none 0 0,.string ⟨#[]⟩,.bool false] 49)):=by
 have hA1:=bA w (.cells #[.string qm,.string qt,v,.string qb] 47);have hA2:=hA1.alloc hA1.size (.cells #[.int .i64 200,.int .i64 rt,pv,.string al,.string lo] 158);have hA:=hA2.alloc hA2.size (.cells #[.int .i64 0,.slice none 0 0,.string ⟨#[]⟩,.bool false] 49);have q0:=Ag w (.cells #[.string qm,.string qt,v,.string qb] 47);generalize hW1:w.alloc (.cells #[.string qm,.string qt,v,.string qb] 47)=W1 at *
 have z1:W1.heap.size=w.heap.size+1:=by rw[<-hW1];simp
 have q1:=Ag W1 (.cells #[.int .i64 200,.int .i64 rt,pv,.string al,.string lo] 158);have b1:Bw W1 (W1.alloc (.cells #[.int .i64 200,.int .i64 rt,pv,.string al,.string lo] 158)):=bA _ _;generalize hW2:W1.alloc (.cells #[.int .i64 200,.int .i64 rt,pv,.string al,.string lo] 158)=W2 at *
 have z2:W2.heap.size=w.heap.size+1+1:=by rw[<-hW2];simp[z1]
 have q2:=Ag W2 (.cells #[.int .i64 0,.slice none 0 0,.string ⟨#[]⟩,.bool false] 49);have b2:Bw W2 (W2.alloc (.cells #[.int .i64 0,.slice none 0 0,.string ⟨#[]⟩,.bool false] 49)):=bA _ _;rw[z1]at q1;rw[z2]at q2;exact⟨hA,by rw[b2.block _ (by omega),b1.block _ (by omega)];exact q0,by rw[b2.block _ (by omega)];exact q1,q2⟩
theorem Ya(gs gh nh ch:Nat)(aw:Oa)(nw cw:Nat)(r:Rn)(rt:Nat)(al lo:By)(G:Option An)(w:World)(hrt:rt<nh)
  (s1:w.cell? ⟨gs,1,none⟩=some (.slice (some ⟨gh,0,none⟩) nh ch)) (s2:w.cell? ⟨gs,2,none⟩=some (.slice aw nw cw))
  (h0:w.cell? ⟨gh,rt*4,none⟩=some (.int .i64 r.h.k)) (h1:w.cell? ⟨gh,rt*4+1,none⟩=some (.int .i64 r.h.st)) (h2:w.cell? ⟨gh,rt*4+2,none⟩=some (.string r.h.t)) (h3:w.cell? ⟨gh,rt*4+3,none⟩=some (.string r.h.n))
  (HTH:∀W,Bw w W->Calls prog 256 #[.agg r.vals,.slice aw nw cw] W (Cz G W)) :
  Calls prog 212 #[.pointer (some ⟨gs,0,none⟩),.agg #[.string r.qm,.string r.qt,.slice r.fa r.fs.length r.fc,.string r.qb],.agg #[.int .i64 200,.int .i64 rt,.slice r.pa r.ps.length r.pc,.string al,.string lo]] w (Cz G w):=by
 obtain⟨hA,Q1,F1,A1⟩:=a6I r.qm r.qt r.qb (.slice r.fa r.fs.length r.fc) rt (.slice r.pa r.ps.length r.pc) al lo w;have HT:=hid HTH;have q0:_=some (Value.string r.qm):=(Ab Q1 0).trans rfl;have q1:_=some (Value.string r.qt):=(Ab Q1 1).trans rfl;have q2:_=some (Value.slice r.fa r.fs.length r.fc):=(Ab Q1 2).trans rfl;have q3:_=some (Value.string r.qb):=(Ab Q1 3).trans rfl;have f0:_=some (Value.int .i64 200):=(Ab F1 0).trans rfl;have f1:_=some (Value.int .i64 rt):=(Ab F1 1).trans rfl;have f2:_=some (Value.slice r.pa r.ps.length r.pc):=(Ab F1 2).trans rfl;have lg0:gs<w.heap.size:=Ap s1;have y1:=Aa hA s1;have y2:=Aa hA s2;have g0:=Aa hA h0;have g1:=Aa hA h1;have g2:=Aa hA h2;have g3:=Aa hA h3;have k0:(0:Int)<=(rt:Int):=by omega
 have k1:(rt:Int)<(nh:Int):=by omega
 clear HTH Q1 F1 s1 s2 h0 h1 h2 h3;obtain⟨qm,qt,qb,fs,fa,fc,ps,pa,pc,⟨hk',hst,ht,hn'⟩⟩:=r;simp only[Rn.vals]at *
 go_enter func212,ntmps212;go_upto_region 1 with fail;generalize ((w.alloc (.cells #[.string qm,.string qt,.slice fa fs.length fc,.string qb] 47)).alloc (.cells #[.int .i64 200,.int .i64 rt,.slice pa ps.length pc,.string al,.string lo] 158)).alloc (.cells #[.int .i64 0,.slice none 0 0,.string ⟨#[]⟩,.bool false] 49)=w1 at *
 have la:=A1.lt;have lgs:=Ap y1;have lgh:=Ap g0;go_upto_region 3 with fail
 go_region_held3 (λW=>W.cell? ⟨w.heap.size,0,none⟩=some (.string qm)/\W.cell? ⟨w.heap.size,1,none⟩=some (.string qt)/\W.cell? ⟨w.heap.size,2,none⟩=some (.slice fa fs.length fc)/\W.cell? ⟨w.heap.size,3,none⟩=some (.string qb)/\W.cell? ⟨w.heap.size+1,1,none⟩=some (.int .i64 rt)/\W.cell? ⟨w.heap.size+1,2,none⟩=some (.slice pa ps.length pc)/\W.cell? ⟨gs,1,none⟩=some (.slice (some ⟨gh,0,none⟩) nh ch)/\W.cell? ⟨gh,rt*4,none⟩=some (.int .i64 hk')/\W.cell? ⟨gh,rt*4+1,none⟩=some (.int .i64 hst)/\W.cell? ⟨gh,rt*4+2,none⟩=some (.string ht)/\W.cell? ⟨gh,rt*4+3,none⟩=some (.string hn')) (go_keep) (fail)
 go_upto_region 4 with fail;have hA2:=(hA.alloc hA.size (.cells #[.string qm,.string qt,.slice fa fs.length fc,.string qb,.slice pa ps.length pc,.int .i64 hk',.int .i64 hst,.string ht,.string hn'] 330)).drew;have hb12:=(bA w1 (.cells #[.string qm,.string qt,.slice fa fs.length fc,.string qb,.slice pa ps.length pc,.int .i64 hk',.int .i64 hst,.string ht,.string hn'] 330)).drew;have RR:(w1.alloc (.cells #[.string qm,.string qt,.slice fa fs.length fc,.string qb,.slice pa ps.length pc,.int .i64 hk',.int .i64 hst,.string ht,.string hn'] 330)).drew.heap[w1.heap.size]?=some (.cells #[.string qm,.string qt,.slice fa fs.length fc,.string qb,.slice pa ps.length pc,.int .i64 hk',.int .i64 hst,.string ht,.string hn'] 330 (0,0)):=Ag w1 _;have y22:=Aa hb12 y2;have A2:=A1.below hb12;generalize hgr:w1.heap.size=gr at *
 have lgr:gr<(w1.alloc (.cells #[.string qm,.string qt,.slice fa fs.length fc,.string qb,.slice pa ps.length pc,.int .i64 hk',.int .i64 hst,.string ht,.string hn'] 330)).drew.heap.size:=by
  rw[<-hgr];simp
 generalize (w1.alloc (.cells #[.string qm,.string qt,.slice fa fs.length fc,.string qb,.slice pa ps.length pc,.int .i64 hk',.int .i64 hst,.string ht,.string hn'] 330)).drew=w2 at *
 have r0:w2.cell? ⟨gr,0,none⟩=some (.string qm):=(Ab RR 0).trans rfl;have r1:w2.cell? ⟨gr,1,none⟩=some (.string qt):=(Ab RR 1).trans rfl;have r2:w2.cell? ⟨gr,2,none⟩=some (.slice fa fs.length fc):=(Ab RR 2).trans rfl;have r3:w2.cell? ⟨gr,3,none⟩=some (.string qb):=(Ab RR 3).trans rfl;have r4:w2.cell? ⟨gr,4,none⟩=some (.slice pa ps.length pc):=(Ab RR 4).trans rfl;have r5:w2.cell? ⟨gr,5,none⟩=some (.int .i64 hk'):=(Ab RR 5).trans rfl;have r6:w2.cell? ⟨gr,6,none⟩=some (.int .i64 hst):=(Ab RR 6).trans rfl;have r7:w2.cell? ⟨gr,7,none⟩=some (.string ht):=(Ab RR 7).trans rfl;have r8:w2.cell? ⟨gr,8,none⟩=some (.string hn'):=(Ab RR 8).trans rfl;have la2:=A2.lt;have ls2:=Ap y22;have HT2:=hid (λW (hW:Bw w2 W)=>HT.out W (Bc hA2 hW));have HA2:=hid A2;have hb2:=Ad w2.heap.size w2;clear HT RR q0 q1 q2 q3 f0 f1 f2 y1 y2 g0 g1 g2 g3 A1 hb12
 cases G with
 |none=>
  go_region_dies
  all_goals go_wp2_with (go_at_call 256;refine(HT2.out _ hb2.drew).mono ?_;rintro x wA ⟨rfl,hbA⟩;exact⟨rfl,rfl,Bc hA2 (Bc hb2.drew hbA)⟩)
 |some a=>
  have nr:gr≠w.heap.size+1+1:=by omega
  have ns:gs≠w.heap.size+1+1:=by omega
  have HE:=hid (λ(ax:Oa) (cx:Nat) (w3:World) (o3:w3.ownsRow w2.heap.size 131 2 (.slice ax a.fs.length cx) a.fs.length (Bg a.fs)) (hb3:Bw w2 w3)=>(And.intro (Cg (st:=a.st) (vv:=.slice ax a.fs.length cx) (b:=a.b) (cl:=false) (Bt o3 hA2.size) (λe=>by have:=Bx o3 _ e;omega)) (Bm (st:=a.st) (vv:=.slice ax a.fs.length cx) (b:=a.b) (cl:=false) (Bc hA2 hb3) (by omega)):(setA (w.heap.size+1+1) a.st (.slice ax a.fs.length cx) a.b false w3).ownsRow w.heap.size 131 2 (.slice ax a.fs.length cx) a.fs.length (Bg a.fs)/\Bw w (setA (w.heap.size+1+1) a.st (.slice ax a.fs.length cx) a.b false w3)));have HKP:Hid (∀(w3 w4:World),(∃vv,w4=setA (w.heap.size+1+1) a.st vv a.b false w3)->Bw w2 w3->w4.cell? ⟨gs,2,none⟩=some (.slice aw nw cw)/\w4.cell? ⟨gr,0,none⟩=some (.string qm)/\w4.cell? ⟨gr,1,none⟩=some (.string qt)/\w4.cell? ⟨gr,2,none⟩=some (.slice fa fs.length fc)/\w4.cell? ⟨gr,3,none⟩=some (.string qb)/\w4.cell? ⟨gr,4,none⟩=some (.slice pa ps.length pc)/\w4.cell? ⟨gr,5,none⟩=some (.int .i64 hk')/\w4.cell? ⟨gr,6,none⟩=some (.int .i64 hst)/\w4.cell? ⟨gr,7,none⟩=some (.string ht)/\w4.cell? ⟨gr,8,none⟩=some (.string hn')):=by
   rintro w3 w4 ⟨vv,rfl⟩ hb;exact⟨(Bh ns).trans (Aa hb y22),(Bh nr).trans (Aa hb r0),(Bh nr).trans (Aa hb r1),(Bh nr).trans (Aa hb r2),(Bh nr).trans (Aa hb r3),(Bh nr).trans (Aa hb r4),(Bh nr).trans (Aa hb r5),(Bh nr).trans (Aa hb r6),(Bh nr).trans (Aa hb r7),(Bh nr).trans (Aa hb r8)⟩
  go_region_held3 (λW=>W.cell? ⟨gs,2,none⟩=some (.slice aw nw cw)/\W.cell? ⟨gr,0,none⟩=some (.string qm)/\W.cell? ⟨gr,1,none⟩=some (.string qt)/\W.cell? ⟨gr,2,none⟩=some (.slice fa fs.length fc)/\W.cell? ⟨gr,3,none⟩=some (.string qb)/\W.cell? ⟨gr,4,none⟩=some (.slice pa ps.length pc)/\W.cell? ⟨gr,5,none⟩=some (.int .i64 hk')/\W.cell? ⟨gr,6,none⟩=some (.int .i64 hst)/\W.cell? ⟨gr,7,none⟩=some (.string ht)/\W.cell? ⟨gr,8,none⟩=some (.string hn')) (first|exact HKEEP.out|go_keep)
   (first|(go_at_call 256;refine(HT2.out _ hb2.drew).mono ?_;rintro x w3 ⟨⟨vv,rfl,ow⟩,hb3⟩;obtain⟨ax,cx,rfl⟩:=Ce ow;have hbD:=Bc hb2.drew hb3;have o3:=Bt ow hb2.drew.size;have A3:=HA2.out.below hbD;obtain⟨c0,c1,c2,c3⟩:=A3.cells;have f0:=A3.free 0;have f1:=A3.free 1;have f2:=A3.free 2;have f3:=A3.free 3;have l3:=A3.lt;obtain⟨d0,d1,d2,d3⟩:=(A3.set a.st (.slice ax a.fs.length cx) a.b false).cells;have HF:=hid (HE.out ax cx w3 o3 hbD);have z0:=Aa hbD r0;have z1:=Aa hbD r1;have z2:=Aa hbD r2;have z3:=Aa hbD r3;have z4:=Aa hbD r4;have z5:=Aa hbD r5;have z6:=Aa hbD r6;have z7:=Aa hbD r7;have z8:=Aa hbD r8;have zs:=Aa hbD y22;have HKEEP:=hid (HKP.out w3 (setA (w.heap.size+1+1) a.st (.slice ax a.fs.length cx) a.b false w3) ⟨_,rfl⟩ hbD);unfold setA at d0 d1 d2 d3 HKEEP;clear ow o3))
  all_goals clear HT2 HE HKP A2
  all_goals go_wp2_with fail
  all_goals
   refine Ae (v:=.agg #[.int .i64 a.st,.slice ax a.fs.length cx,.string a.b,.bool false]) (by simp[results,results212,go_sem,d0,d1,d2,d3]) rfl ?_;exact⟨⟨_,rfl,HF.out.1⟩,HF.out.2⟩
end Go.Proofs.YtbiggccolpchcaaGreatDoor
