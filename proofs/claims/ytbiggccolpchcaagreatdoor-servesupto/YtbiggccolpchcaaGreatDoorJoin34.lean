/- Joined. -/
import Derived.Laws.IdiomCopy
import Derived.Lib.SlBuf
import Derived.Laws.Cover3
import Derived.Test.YtbiggccolpchcaaGreatDoorJoin33
set_option maxRecDepth 100000
set_option maxHeartbeats 4000000
namespace Go.Proofs.YtbiggccolpchcaaGreatDoor
open Go.RowKit _root_.Go.Proofs.Tryz
structure RtSm(r:Rt):Prop where
 m:r.m.size<=1048576
 p:r.p.size<=1048576
 t:r.h.t.size<=1048576
 n:r.h.n.size<=1048576
theorem RtSm.ok{r:Rt}(h:RtSm r):RtOk r:=⟨by have:=h.m;omega,by have:=h.p;omega,by have:=h.t;omega,by have:=h.n;omega⟩
theorem Qu:∀(ps:List (Int×By)) (l:L8) (mr:Bool) (acc fs:List Prm),Cj ps l mr acc=some fs->fs.length<=acc.length+ps.length
 |[],l,mr,acc,fs,h=>by
  rw[Cj]at h
  split at h
  ·cases h
  ·cases h;simp
 |p::r,l,mr,acc,fs,h=>by
  rw[Cj]at h
  split at h
  ·cases h
  ·split at h
   ·have:=Qu r _ _ _ _ h;rw[A9z]
    split at this
    ·omega
    ·simp at this;omega
   ·cases h
theorem b2D{s:L8}{p:List (Int×By)}(h:Bo s=some p):p=(pcs s).map pcB/\Gt (pcs s)/\pcs s≠[]/\s.length<=64:=by
 have ht:((pcs s).map λx=>(⟨x.toArray⟩:By)).map (·.data.toList)=pcs s:=by rw[E6z];simp[Function.comp_def]
 by_cases hg:Wa s ((pcs s).map λx=>(⟨x.toArray⟩:By))
 ·have h2:=Ib ht hg;rw[h]at h2;obtain⟨g1,g2,g3⟩:=hg;exact⟨Option.some.inj h2,Qm ht g3,b5K g2,g1⟩
 ·rw[It ht hg]at h;cases h
theorem Po(K:Nat)(m l:L8):∀(es:List Ent) (k:Nat),(∀e∈es,e.ps.length<=K)->(Cp m l es k).2.1.length<=K
 |[],_,_=>by simp[Cp]
 |e::r,k,h=>by
  have ih:=Po K m l r (k+1) (λx hx=>h x (by simp[hx]));rw[Cp]
  split
  ·split
   ·rename_i fs hfs
    have h1:=Qu _ _ _ _ _ hfs;have h2:=h e (by simp);simp at h1 ⊢;omega
   ·exact ih
  ·exact ih
theorem c0J(r:Rt):(Cd r).ps.length<=64:=by
 unfold Cd
 cases hp:Bo r.p.data.toList with
 |none=>simp
 |some p=>
  obtain⟨h1,-,-,h4⟩:=b2D hp;have h5:=(Mx _ r.p.data.toList (Ac _)).1;simp only[Option.getD_some];rw[h1,A8z];omega
theorem b6X(hd bd:Int)(rs:List Rt)(ws:List Wr)(m t:L8):(pdG hd bd rs ws m t).ps.length<=1000/\((pdG hd bd rs ws m t).e≠0->(pdG hd bd rs ws m t).ps=[]):=by
 have hz:∀l,(Cv m l (rs.map Cd)).2.1.length<=64:=λl=>by
  have hh:∀e∈rs.map Cd,e.ps.length<=64:=λe he=>by
   obtain⟨r,_,rfl⟩:=List.mem_map.1 he;exact c0J r
  unfold Cv
  split
  ·exact Po 64 _ _ _ _ hh
  ·exact Po 64 _ _ _ _ hh
 unfold pdG
 split
 ·unfold Eu
  split
  ·simp
  ·split
   ·have:=hz (Pm.ahead 63 t);exact⟨by simp only;omega,λh=>absurd rfl h⟩
   ·split
    ·simp
    ·split<;>simp
 ·simp
def rtP(r:Rt):Prm:=(r.m,r.p)
theorem a2R(rs:List Rt):(rs.map rtP).map Bz=rs.map Cd:=by rw[E6z];rfl
theorem c2U{es:List Ent}{r:Rt}(h:(adE r.m.data.toList r.p.data.toList es).2≠0):rtE es r=(adE r.m.data.toList r.p.data.toList es).2:=by
 unfold adE at h ⊢;unfold rtE;by_cases h1:Pm.a1x r.m.data.toList=false
 ·rw[if_pos h1,if_pos h1]
 ·rw[if_neg h1]at h;rw[if_neg h1,if_neg h1]
  cases hp:Bo r.p.data.toList with
  |none=>rfl
  |some p=>
   rw[hp]at h;simp only at h ⊢;by_cases h2:24<=es.length
   ·rw[if_pos h2,if_pos h2]
   ·rw[if_neg h2]at h;rw[if_neg h2,if_neg h2]
    cases hh:Fj r.m.data.toList p es 0 with
    |some j=>simp
    |none=>rw[hh]at h;exact absurd rfl h
theorem c1S{es:List Ent}{r:Rt}(h:(adE r.m.data.toList r.p.data.toList es).2=0):(rtE es r=if Jb r.h.k r.h.st r.h.t.data.toList=false then 12 else 0)/\∃p,Bo r.p.data.toList=some p/\Fj r.m.data.toList p es 0=none/\Pm.a1x r.m.data.toList=true:=by
 unfold adE at h;unfold rtE;by_cases h1:Pm.a1x r.m.data.toList=false
 ·rw[if_pos h1]at h;simp at h
 ·rw[if_neg h1]at h;rw[if_neg h1]
  cases hp:Bo r.p.data.toList with
  |none=>rw[hp]at h;simp at h
  |some p=>
   rw[hp]at h;simp only at h ⊢;by_cases h2:24<=es.length
   ·rw[if_pos h2]at h;simp at h
   ·rw[if_neg h2]at h;rw[if_neg h2]
    cases hh:Fj r.m.data.toList p es 0 with
    |some j=>rw[hh]at h;simp at h
    |none=>exact⟨by simp,p,rfl,hh,by cases q:Pm.a1x r.m.data.toList;exact absurd q h1;rfl⟩
theorem Ud{m:L8}{p:List (Int×By)}:∀ {es:List Ent} {k:Nat},Fj m p es k=none->∀e∈es,e.m.data.toList=m->ovl e.ps p=false
 |[],_,_,e,he,_=>absurd he (by simp)
 |d::r,k,h,e,he,hm=>by
  rw[Fj]at h;by_cases hd:d.m.data.toList=m
  ·rw[if_pos hd]at h;by_cases ho:ovl d.ps p=true
   ·rw[if_pos ho]at h;cases h
   ·rw[if_neg ho]at h;rcases List.mem_cons.1 he with rfl|he
    ·cases q:ovl e.ps p;rfl;exact absurd q ho
    ·exact Ud h e he hm
  ·rw[if_neg hd]at h;rcases List.mem_cons.1 he with rfl|he
   ·exact absurd hm hd
   ·exact Ud h e he hm
theorem Sp.snoc{es:List Prm}{m s:By}{p:List (Int×By)}(h:Sp es)(hp:Bo s.data.toList=some p)(hn:Fj m.data.toList p (es.map Bz) 0=none):Sp (es++[(m,s)]):=λi j hi hj hij he=>by
 rw[A0z]at hi hj;simp at hi hj;have hi':i<es.length:=by omega
 by_cases hj':j<es.length
 ·rw[B4z hi',B4z hj']at *
  exact h i j hi' hj' hij he
 ·have hj2:j=es.length:=by omega
  subst hj2;rw[B4z hi',C2z (Ac _)]at *
  simp only[Nat.sub_self,B7z]at *
  have e2:(Bz (m,s)).ps=p:=by unfold Bz;simp only[hp,Option.getD_some]
  rw[e2];exact Ud hn (Bz es[i]) (List.mem_map.2 ⟨es[i],As hi',rfl⟩) he
def c2V(rs:List Rt)(E:Nat×Int)(w:World)(x:Ending)(w':World):Prop:=
 ∃gt,x=.returned (.tuple #[.pointer (some ⟨gt,0,none⟩),.int .i64 E.1,.int .i64 E.2])/\Bw w w'/\(E.2=0->(∃es v,es.map Bz=rs.map Cd/\TrAt gt gt es v w'/\Sp es/\∀e∈es,e.1.size<=1000)/\w.heap.size<=gt)
def TaI(gt:Nat)(rs:List Rt)(k:Nat)(w1 wr:World):Prop:=
 (∃v,TrAt gt gt ((rs.take k).map rtP) v wr)/\Sp ((rs.take k).map rtP)/\(∀e∈(rs.take k).map rtP,e.1.size<=1000)/\Below gt w1 wr/\gt<wr.heap.size
theorem c2W(rs:List Rt)(k:Nat)(h:k<rs.length)(e:Int)(he:rtE ((rs.take k).map Cd) rs[k]=e):Ge (rs.drop k) ((rs.take k).map Cd) k=if e=0 then Ge (rs.drop (k+1)) ((rs.take (k+1)).map Cd) (k+1)else(k,e):=by
 rw[<-Ax h,Ge,he,A4z h,B2z];rfl
theorem b2E(hd bd:Int)(w:World):
  Calls prog 136 #[.agg #[.int .i64 hd,.int .i64 bd]] w λe w'=>e=.returned (.bool (decide (32<=hd/\hd<=500/\0<=bd/\bd<=200)))/\Bw w w':=by
 go_enter func136,ntmps136;go_wp2
 all_goals
  go_ret;refine⟨?_,bA _ _⟩
  try congr 2
  try simp
  try simp[*]
  try (intros;omega)
theorem TaI.next{gt:Nat}{rs:List Rt}{k:Nat}{w1 wr W w':World}{v':Value}(h:k<rs.length)(hI:TaI gt rs k w1 wr)(hW:Bw wr W)(hb:Below gt W w')(hT:TrAt gt gt ((rs.take k).map rtP++[(rs[k].m,rs[k].p)]) v' w')(hok:(adE rs[k].m.data.toList rs[k].p.data.toList (((rs.take k).map rtP).map Bz)).2=0):TaI gt rs (k+1) w1 w':=by
 obtain⟨-,p,h2,h3,h4⟩:=c1S hok;obtain⟨i1,i2,i3,i4,i5⟩:=hI;have e:(rs.take (k+1)).map rtP=(rs.take k).map rtP++[(rs[k].m,rs[k].p)]:=by
  rw[A4z h,B2z];rfl
 refine⟨⟨v',by rw[e];exact hT⟩,by rw[e];exact i2.snoc h2 h3,λx hx=>?_,(i4.trans (hW.mono (by omega))).trans hb,hT.lt⟩;rw[e,D3z]at hx;rcases hx with hx|hx
 ·exact i3 x hx
 ·have:x=(rs[k].m,rs[k].p):=by simpa using hx
  rw[this];exact Gs h4
theorem a2S(hd bd:Int)(rs:List Rt)(ws:List Wr)(ar:Oa)(cr:Nat)(aw:Oa)(cw:Nat)(w:World)(hR:Da 6 Rt.cells rs ar w)(hW:Da 4 Wr.cells ws aw w)(hro:∀r∈rs,RtSm r)(hwo:∀x∈ws,x.n.size<=1048576/\x.v.size<=1048576):
  Calls prog 114 #[.agg #[.int .i64 hd,.int .i64 bd,.slice ar rs.length cr,.slice aw ws.length cw]] w (c2V rs (Et hd bd rs ws) w):=by
 have HNT:=hid (λW=>Vb W);have HLM:=hid (λW=>b2E hd bd W);have hA:=bA w (.cells #[.int .i64 hd,.int .i64 bd,.slice ar rs.length cr,.slice aw ws.length cw] 44);have hg:(w.alloc (.cells #[.int .i64 hd,.int .i64 bd,.slice ar rs.length cr,.slice aw ws.length cw] 44)).heap[w.heap.size]?=some _:=Ag w _;have hE:Et hd bd rs ws=if decide (32<=hd/\hd<=500/\0<=bd/\bd<=200)=false then(0,1)else if 24<rs.length\/6<ws.length then(0,10)else if(Ge rs [] 0).2=0 then Ml ws 0 else Ge rs [] 0:=rfl
 generalize Et hd bd rs ws=E at *
 generalize hLB:decide (32<=hd/\hd<=500/\0<=bd/\bd<=200)=LB at *
 have HE:=hid hE;have HRw:=hid hR;have HWw:=hid hW;have HRO:=hid hro;have HWO:=hid hwo;clear hR hW hE hro hwo hLB;go_enter func114,ntmps114;go_wp2_with fail;generalize w.alloc (.cells #[.int .i64 hd,.int .i64 bd,.slice ar rs.length cr,.slice aw ws.length cw] 44)=w1 at *
 refine(HNT.out _).mono ?_;rintro x w2 ⟨rfl,hT0,hb2,hz2⟩;have c0:w1.cell? ⟨w.heap.size,0,none⟩=some (.int .i64 hd):=by rw[Ab hg];rfl
 have c1:w1.cell? ⟨w.heap.size,1,none⟩=some (.int .i64 bd):=by rw[Ab hg];rfl
 have c2:w1.cell? ⟨w.heap.size,2,none⟩=some (.slice ar rs.length cr):=by rw[Ab hg];rfl
 have c3:w1.cell? ⟨w.heap.size,3,none⟩=some (.slice aw ws.length cw):=by rw[Ab hg];rfl
 have l1:=Ap c0;have hB2:=Bc hA hb2;have k0:=Aa hb2 c0;have k1:=Aa hb2 c1;have l2:=Ap k0;have HT0:=hid hT0;clear hT0 HNT hg;go_wp2_with fail;refine(HLM.out _).mono ?_;rintro x w3 ⟨rfl,hb3⟩;have hb13:=Bc hb2 hb3;have hB3:=Bc hB2 hb3;have k2:=Aa hb13 c2;have k3:=Aa hb13 c3;have l3:=Ap k2;clear HLM k0 k1
 cases LB
 ·have hE:=HE.out;rw[if_pos rfl]at hE;subst hE;clear HE;go_wp2_with fail;refine Ae (v:=.tuple #[.pointer (some ⟨w1.heap.size,0,none⟩),.int .i64 0,.int .i64 1]) (by simp[results,results114,go_sem]) rfl ?_;exact⟨_,rfl,hB3,λh=>absurd h (by simp)⟩
 ·have hE:=HE.out;rw[if_neg (by simp)]at hE;by_cases hf:24<rs.length\/6<ws.length
  ·rw[if_pos hf]at hE;subst hE;clear HE;by_cases f1:24<rs.length
   ·have f2:(24:Int)<(rs.length:Int):=by omega
    go_wp2_with fail;refine Ae (v:=.tuple #[.pointer (some ⟨w1.heap.size,0,none⟩),.int .i64 0,.int .i64 10]) (by simp[results,results114,go_sem]) rfl ?_;exact⟨_,rfl,hB3,λh=>absurd h (by simp)⟩
   ·have f2:¬(24:Int)<(rs.length:Int):=by omega
    have f3:(6:Int)<(ws.length:Int):=by omega
    go_wp2_with fail;refine Ae (v:=.tuple #[.pointer (some ⟨w1.heap.size,0,none⟩),.int .i64 0,.int .i64 10]) (by simp[results,results114,go_sem]) rfl ?_;exact⟨_,rfl,hB3,λh=>absurd h (by simp)⟩
  ·rw[if_neg hf]at hE;have f2:¬(24:Int)<(rs.length:Int):=by omega
   have f3:¬(6:Int)<(ws.length:Int):=by omega
   have HE1:=hid hE;have I0:Hid (TaI w1.heap.size rs 0 w1 w3):=⟨⟨_,HT0.out.below hb3⟩,λi j hi=>absurd hi (by simp),λe he=>absurd he (by simp),hb13,Af HT0.out.lt hb3.size⟩;generalize hRR:Ge rs [] 0=RR at *
   have HRR:Hid (Ge (rs.drop 0) ((rs.take 0).map Cd) 0=RR):=hRR;clear HE hE hRR HT0;go_wp2_with fail;clear k2 k3
   go_loopw [7] (λi wr=>∃k:Nat,k<=rs.length/\i=.int .i64 k/\Hid (TaI w1.heap.size rs k w1 wr)/\Hid (Ge (rs.drop k) ((rs.take k).map Cd) k=RR)) (λi _=>rs.length-(intOf i).toNat)
   case atStart=>exact⟨0,Ah _,rfl,I0,HRR⟩
   case round=>
    obtain⟨k,hk,rfl,HI,HK⟩:=hrel;obtain⟨⟨v,T⟩,hsp,hsz,hbw,lgs⟩:=HI.out;have hbW:Bw w wr:=hA.trans (hbw.mono (F6z l1));have c2r:wr.cell? ⟨w.heap.size,2,none⟩=some (.slice ar rs.length cr):=by rw[Au (hbw.block w.heap.size l1)];exact c2
    have c3r:wr.cell? ⟨w.heap.size,3,none⟩=some (.slice aw ws.length cw):=by rw[Au (hbw.block w.heap.size l1)];exact c3
    have lr:w.heap.size<wr.heap.size:=Nat.lt_trans l1 lgs;by_cases hlt:k<rs.length
    ·obtain⟨g,o,rfl,hg0,p0,p1,p2,p3,p4,p5⟩:=Np HRw.out hlt;have q0:=Aa hbW p0;have q1:=Aa hbW p1;have hg:g<wr.heap.size:=Nat.lt_trans hg0 lr;have hrs:=HRO.out _ (As hlt);have hm1:=hrs.m;have hm2:=hrs.p;have hm3:=hrs.t;have hrts:=c2W rs k hlt _ rfl;have hre:=a2R (rs.take k);have HAD:=hid (λW (hW:Bw wr W)=>b6P w1.heap.size w1.heap.size ((rs.take k).map rtP) v rs[k].m rs[k].p W (T.below hW) (by unfold maxLen;omega) (by omega) (Ac _) (Aj (F6z lgs) hW.size));have HNX:=hid (λW w' v' (hW:Bw wr W) (hb:Below w1.heap.size W w') (hT:TrAt w1.heap.size w1.heap.size ((rs.take k).map rtP++[(rs[k].m,rs[k].p)]) v' w') (hok:(adE rs[k].m.data.toList rs[k].p.data.toList (((rs.take k).map rtP).map Bz)).2=0)=>TaI.next hlt HI.out hW hb hT hok);have HERR:=hid (λ(h:(adE rs[k].m.data.toList rs[k].p.data.toList (((rs.take k).map rtP).map Bz)).2≠0)=>c2U (es:=((rs.take k).map rtP).map Bz) (r:=rs[k]'hlt) h);have HOK:=hid (λ(h:(adE rs[k].m.data.toList rs[k].p.data.toList (((rs.take k).map rtP).map Bz)).2=0)=>(c1S (es:=((rs.take k).map rtP).map Bz) (r:=rs[k]'hlt) h).1);rw[HK.out,<-hre]at hrts;have HRT:=hid hrts;unfold Iw at HAD;generalize adE rs[k].m.data.toList rs[k].p.data.toList (((rs.take k).map rtP).map Bz)=AE at *
     generalize rtE (((rs.take k).map rtP).map Bz) rs[k]=RE at *
     have HHN:=hid (λW=>Yl rs[k].h.k rs[k].h.st rs[k].h.t rs[k].h.n W (by unfold maxLen;omega));generalize Jb rs[k].h.k rs[k].h.st rs[k].h.t.data.toList=HB at *
     generalize rs[k]=r at *
     obtain⟨rm,rp,⟨rk,rst,rt,rn⟩⟩:=r;simp only at *
     have P2:=hid (And.intro p2 (And.intro p3 (And.intro p4 p5)));have P0:=hid p0;have P1:=hid p1;clear T HI HK hrts hre p0 p1 p2 p3 p4 p5 hsp hsz hm1 hm2 hm3 hrs HRR;go_upto_region 10 with fail
     go_region_held3 (λW=>W.cell? ⟨w.heap.size,2,none⟩=some (.slice (some ⟨g,o,none⟩) rs.length cr)/\W.cell? ⟨g,o+k*6,none⟩=some (.string rm)/\W.cell? ⟨g,o+k*6+1,none⟩=some (.string rp)) (go_keep)
      (first|(go_at_call 35;refine(HAD.out _ (Ad wr.heap.size wr).drew).mono ?_;rintro x w4 ⟨rfl,hbl,had1,had2⟩;have hb4:Bw w1 w4:=(hbw.trans ((Ad wr.heap.size wr).drew.mono (F6z lgs))).trans hbl;have hB4:=hA.trans (hb4.mono (F6z l1));have r0:=Aa hB4 P0.out;have r1:=Aa hB4 P1.out;have r2:w4.cell? ⟨w.heap.size,2,none⟩=some (.slice (some ⟨g,o,none⟩) rs.length cr):=(Au (hb4.block w.heap.size l1)).trans c2;have HX:=hid (And.intro hbl had2);have lg4:g<w4.heap.size:=Ap r0;have lw4:=Ap r2;clear had1 had2 hbl))
     all_goals
      by_cases q:AE.2=0
      ·have hq:(AE.2 != 0)=false:=by rw[q];rfl
       obtain⟨v',T4⟩:=HX.out.2 q;have HN4:=hid (HNX.out _ _ v' (Ad wr.heap.size wr).drew HX.out.1 T4 q);have hre2:=HOK.out q;have s2:=Aa hB4 P2.out.1;have s3:=Aa hB4 P2.out.2.1;have s4:=Aa hB4 P2.out.2.2.1;have s5:=Aa hB4 P2.out.2.2.2;have HH:=hid (HHN.out w4);clear HAD HNX HERR HOK HHN T4 HX;go_wp2_with fail;refine HH.out.mono ?_;rintro x w5 ⟨rfl,hb5⟩;have hb15:Bw w1 w5:=hb4.trans (hb5.mono (F6z HN4.out.2.2.2.2));have hB5:=Bc hB4 hb5
       cases HB
       ·rw[if_pos rfl]at hre2;have hrt:=HRT.out;rw[hre2,if_neg (by decide)]at hrt;have hE:=HE1.out;rw[hrt,if_neg (by simp)]at hE;have HEE:=hid hE;clear HH hrt hE hre2 HRT;go_wp2_with fail;refine Ae (v:=.tuple #[.pointer (some ⟨w1.heap.size,0,none⟩),.int .i64 k,.int .i64 12]) (by simp[results,results114,go_sem]) rfl ?_;rw[HEE.out];exact⟨_,rfl,hB5,λh=>absurd h (by simp)⟩
       ·rw[if_neg (by simp)]at hre2;have hrt:=HRT.out;rw[hre2,if_pos rfl]at hrt;have HRT2:=hid hrt.symm;have HN5:Hid (TaI w1.heap.size rs (k+1) w1 w5):=⟨⟨_,(HN4.out.1.choose_spec).below hb5⟩,HN4.out.2.1,HN4.out.2.2.1,hb15,Af HN4.out.2.2.2.2 hb5.size⟩;clear HH hrt hre2 HRT HN4;go_wp2_with fail;exact⟨⟨k+1,by omega,by go_num,HN5,HRT2⟩,by simp[intOf];omega⟩
      ·have hq:(AE.2 != 0)=true:=by simpa using q
       have hrt:=HRT.out;rw[HERR.out q,if_neg q]at hrt;have hE:=HE1.out;rw[hrt,if_neg q]at hE;have HEE:=hid hE;clear HAD HNX HERR HOK HHN HX HRT hrt hE;go_wp2_with fail;refine Ae (v:=.tuple #[.pointer (some ⟨w1.heap.size,0,none⟩),.int .i64 k,.int .i64 AE.2]) (by simp[results,results114,go_sem]) rfl ?_;rw[HEE.out];exact⟨_,rfl,hB4,λh=>absurd h q⟩
    ·have hne:¬(k:Int)<(rs.length:Int):=by omega
     have hkk:rs.take k=rs:=Aq (by omega);have hr0:=HK.out;rw[Az (by omega),Ge]at hr0;have hE:=HE1.out;rw[<-hr0,if_pos rfl]at hE;have HEE:Hid (E=Ml (ws.drop 0) 0):=hE;rw[hkk]at hsp hsz T;have HFIN:=hid (λW (hW:Bw wr W)=>(⟨_,_,a2R rs,T.below hW,hsp,hsz⟩:∃es v,es.map Bz=rs.map Cd/\TrAt w1.heap.size w1.heap.size es v W/\Sp es/\∀e∈es,e.1.size<=1000));clear HI HK T hsp hsz hr0 hE HE1 HRR;go_wp2_with fail
     go_loopw [11] (λi ws'=>∃j:Nat,j<=ws.length/\i=.int .i64 j/\Hid (E=Ml (ws.drop j) j)/\Bw wr ws') (λi _=>ws.length-(intOf i).toNat)
     case atStart=>exact⟨0,Ah _,rfl,HEE,Ad _ _⟩
     case round=>
      rename_i wj _
      obtain⟨j,hj,rfl,HJ,hbj⟩:=hrel;have hBj:=Bc hbW hbj;have c3j:=Aa hbj c3r;have lj:=Ap c3j;by_cases hltw:j<ws.length
      ·obtain⟨gw,ow,rfl,hgw,p0,p1,p2,p3⟩:=Ky HWw.out hltw;have q0:=Aa hBj p0;have q1:=Aa hBj p1;have q2:=Aa hBj p2;have q3:=Aa hBj p3;have hgj:=Ap q0;have hwz:=(HWO.out _ (As hltw)).1;have HWA:=hid (λW=>a7C ws[j].k ws[j].lim ws[j].n ws[j].v W (by unfold maxLen;omega));have hws:=HJ.out;rw[<-Ax hltw,Ml]at hws;have HWS:=hid hws;generalize Jc ws[j].k ws[j].n.data.toList ws[j].v.data.toList ws[j].lim=WB at *
       generalize ws[j]=x at *
       obtain⟨xk,xn,xv,xl⟩:=x;simp only at *
       clear HJ hws p0 p1 p2 p3;go_wp2_with fail;refine(HWA.out _).mono ?_;rintro x w6 ⟨rfl,hb6⟩;have hb6r:=Bc hbj hb6;have hB6:=Bc hBj hb6;clear HWA
       cases WB
       ·have hws:=HWS.out;rw[if_neg (by simp)]at hws;have HWS2:=hid hws;clear HWS hws;go_wp2_with fail;refine Ae (v:=.tuple #[.pointer (some ⟨w1.heap.size,0,none⟩),.int .i64 j,.int .i64 13]) (by simp[results,results114,go_sem]) rfl ?_;rw[HWS2.out];exact⟨_,rfl,hB6,λh=>absurd h (by simp)⟩
       ·have hws:=HWS.out;rw[if_pos rfl]at hws;have HWS2:=hid hws;clear HWS hws;go_wp2_with fail;exact⟨⟨j+1,by omega,by go_num,HWS2,hb6r⟩,by simp[intOf];omega⟩
      ·have hne:¬(j:Int)<(ws.length:Int):=by omega
       have hws:=HJ.out;rw[Az (by omega),Ml]at hws;have HWS2:=hid hws;have HF:=hid (HFIN.out _ hbj);clear HJ hws HFIN;go_wp2_with fail;refine Ae (v:=.tuple #[.pointer (some ⟨w1.heap.size,0,none⟩),.int .i64 0,.int .i64 0]) (by simp[results,results114,go_sem]) rfl ?_;rw[HWS2.out];exact⟨_,rfl,hBj,λ_=>⟨HF.out,hA.size⟩⟩
def Fs(g m:Nat)(w:World):Prop:=∀j,j<m->(w.cell? ⟨g,j,none⟩).isSome=true/\w.frozen? ⟨g,j,none⟩=false
theorem Fs.below{g m:Nat}{w w':World}{B:Nat}(h:Fs g m w)(hb:Below B w w')(hg:g<B):Fs g m w':=λj hj=>by
 obtain⟨h1,h2⟩:=h j hj;exact⟨by rw[hb.cell hg];exact h1,by rw[hb.frozen hg];exact h2⟩
theorem Fs.cell{g m:Nat}{w:World}(h:Fs g m w)(j:Nat)(hj:j<m):∃v,w.cell? ⟨g,j,none⟩=some v:=Option.isSome_iff_exists.mp (h j hj).1
theorem Fs.sets{g m o:Nat}{w:World}(h:Fs g m w)(cs:List Value)(hl:o+cs.length<=m):Fs g m (w.setCells g o cs):=λj hj=>by
 refine⟨?_,by rw[World.frozen?_setCells];exact(h j hj).2⟩;by_cases hk:o<=j/\j<o+cs.length
 ·have:=World.cell?_setCells_in g cs o w (λi hi=>(h (o+i) (by omega)).1) (j-o) (by omega);rw[show o+(j-o)=j from by omega]at this;rw[this];rfl
 ·rw[World.cell?_setCells_out g cs o w ⟨g,j,none⟩ (λ_ _=>by show j<o\/o+cs.length<=j;omega)];exact(h j hj).1
theorem Pp{α:Type}{sz:Nat}{f:α->List Value}(hf:∀x,(f x).length=sz):∀(l:List α) (i:Nat) (h:i<l.length) (j:Nat) (v:Value),(f l[i])[j]?=some v->(l.flatMap f)[i*sz+j]?=some v
 |[],i,h,_,_,_=>absurd h (by simp)
 |x::r,0,_,j,v,hv=>by
  rw[F2z];simp only[Nat.zero_mul,C1z];simp only[B7z]at hv;obtain⟨hj,rfl⟩:=List.getElem?_eq_some_iff.1 hv;rw[F5z hj];exact hv
 |x::r,i+1,h,j,v,hv=>by
  have ih:=Pp hf r i (by simpa using h) j v (by simpa using hv);rw[F2z,F1z (by rw[hf x,F0z];omega),hf x];rw[show(i+1)*sz+j-sz=i*sz+j by rw[F0z];omega];exact ih
theorem Mf{α:Type}{sz:Nat}{f:α->List Value}(hf:∀x,(f x).length=sz)(l:List α):(l.flatMap f).length=l.length*sz:=by
 induction l with
 |nil=>simp
 |cons a r ih=>rw[F2z,A0z,ih,hf a,A9z,F0z];omega
theorem b6Y{α:Type}{sz:Nat}{f:α->List Value}(hz:0<sz)(hf:∀x,(f x).length=sz){l:List α}{ad:Addr}{w:World}(h:Da sz f l (some ad) w):∀j v,(l.flatMap f)[j]?=some v->w.cell? (ad.add j)=some v:=λj v hj=>by
 have hl:j<(l.flatMap f).length:=(List.getElem?_eq_some_iff.1 hj).1;rw[Mf hf]at hl;have hi:j / sz<l.length:=(Nat.div_lt_iff_lt_mul hz).2 hl;have hr:j % sz<sz:=Nat.mod_lt _ hz;have hd:j / sz*sz+j % sz=j:=by rw[Nat.mul_comm];exact Nat.div_add_mod j sz
 obtain⟨g,o,e,_,hc⟩:=h (j / sz) hi;obtain rfl:ad=⟨g,o,none⟩:=by simpa using e
 have hv:(f l[j / sz])[j % sz]?=some ((f l[j / sz])[j % sz]'(by rw[hf];exact hr)):=Av _;have h1:=Pp hf l (j / sz) hi (j % sz) _ hv;rw[hd,hj]at h1;have h2:=hc (j % sz) _ hv;rw[Addr.add_lit,show o+j=o+j / sz*sz+j % sz from by omega,h2,h1]
def LvM{α:Type}(sz:Nat)(f:α->List Value)(L:List α)(g:Nat)(w:World):Prop:=
 ∀i (h:i<L.length) j v,(f L[i])[j]?=some v->w.cell? ⟨g,i*sz+j,none⟩=some v
theorem LvM.below{α:Type}{sz:Nat}{f:α->List Value}{L:List α}{g:Nat}{w w':World}{B:Nat}(h:LvM sz f L g w)(hb:Below B w w')(hg:g<B):LvM sz f L g w':=λi hi j v hv=>by
 rw[hb.cell hg];exact h i hi j v hv
theorem LvM.mu{α:Type}{sz:Nat}{f:α->List Value}{l L:List α}{g:Nat}{w:World}(h:LvM sz f (l++L) g w)(hg:g<w.heap.size):Da sz f l (some ⟨g,0,none⟩) w:=λi hi=>by
 refine⟨g,0,rfl,hg,λj v hv=>?_⟩;rw[C1z];exact h i (by rw[A0z];omega) j v (by rw[B4z hi];exact hv)
theorem Qv{α:Type}{sz:Nat}{f:α->List Value}(hf:∀x,(f x).length=sz){g m:Nat}{w:World}(h:Fs g m w)(l:List α)(hl:l.length*sz<=m):Fs g m (w.setCells g 0 (l.flatMap f))/\LvM sz f l g (w.setCells g 0 (l.flatMap f)):=by
 have hlen:=Mf hf l;refine⟨h.sets _ (by omega),λi hi j v hv=>?_⟩;have h1:=Pp hf l i hi j v hv;obtain⟨hj,rfl⟩:=List.getElem?_eq_some_iff.1 h1;have:=World.cell?_setCells_in g (l.flatMap f) 0 w (λi hi=>by rw[C1z];exact(h i (by omega)).1) _ hj;rw[C1z]at this;exact this
theorem LvM.snoc{α:Type}{sz:Nat}{f:α->List Value}(hf:∀x,(f x).length=sz){L:List α}{g m:Nat}{w:World}(h:LvM sz f L g w)(ho:Fs g m w)(x:α)(hm:L.length*sz+sz<=m):
  LvM sz f (L++[x]) g (w.setCells g (L.length*sz) (f x)):=λi hi j v hv=>by
 rw[A0z,List.length_singleton]at hi;by_cases hk:i<L.length
 ·rw[B4z hk]at hv;have hj:j<sz:=by have:=(List.getElem?_eq_some_iff.1 hv).1;rw[hf]at this;exact this
  have hle:i*sz+sz<=L.length*sz:=by
   have:(i+1)*sz<=L.length*sz:=D1z _ hk;rw[F0z]at this;exact this
  rw[World.cell?_setCells_out g (f x) _ w _ (λ_ _=>by left;show i*sz+j<L.length*sz;omega)];exact h i hk j v hv
 ·obtain rfl:i=L.length:=by omega
  rw[C2z (Ac _)]at hv;simp only[Nat.sub_self,B7z]at hv;obtain⟨hj,rfl⟩:=List.getElem?_eq_some_iff.1 hv;exact World.cell?_setCells_in g (f x) (L.length*sz) w (λi hi=>(ho _ (by rw[hf]at hi;omega)).1) j hj
def LfM{α:Type}(sz:Nat)(f:α->List Value)(L:List α)(k g:Nat)(w:World):Prop:=
 ∀i (h:i<L.length) j v,k<=i->(f L[i])[j]?=some v->w.cell? ⟨g,i*sz+j,none⟩=some v
theorem LfM.below{α:Type}{sz:Nat}{f:α->List Value}{L:List α}{k g:Nat}{w w':World}{B:Nat}(h:LfM sz f L k g w)(hb:Below B w w')(hg:g<B):LfM sz f L k g w':=λi hi j v hk hv=>by
 rw[hb.cell hg];exact h i hi j v hk hv
theorem LfM.next{α:Type}{sz:Nat}{f:α->List Value}{L:List α}{k g:Nat}{w:World}(h:LfM sz f L k g w)(cs:List Value)(hc:cs.length=sz):LfM sz f L (k+1) g (w.setCells g (k*sz) cs):=λi hi j v hk hv=>by
 have hle:k*sz+sz<=i*sz:=by
  have:(k+1)*sz<=i*sz:=D1z _ hk;rw[F0z]at this;exact this
 rw[World.cell?_setCells_out g cs _ w _ (λ_ _=>by right;show k*sz+cs.length<=i*sz+j;omega)];exact h i hi j v (by omega) hv
theorem Wi{w:World}{B:Nat}{e:TypeId}{sz g n:Nat}{xs:List Value}(h:w.ownsRow B e sz (.slice (some ⟨g,0,none⟩) n n) n xs):Fs g (n*sz) w/\g<w.heap.size:=by
 rcases h.2 with⟨h2,_⟩|⟨g',cap,cur,hv,hB,hg,hc,hm,hsz,ht⟩
 ·cases h2
 ·simp only[Value.slice.injEq,Option.some.injEq,Addr.mk.injEq,and_true,true_and]at hv;obtain⟨rfl,rfl⟩:=hv;refine⟨λj hj=>⟨?_,Ai hg j⟩,?_⟩
  ·rw[Ab hg];simp;omega
  ·rcases B8z g w.heap.size with h'|h'
   ·exact h'
   ·simp[Array.getElem?_eq_none h']at hg
theorem Dk{B g o:Nat}{w w':World}(h:Below B w w')(hg:B<=g)(cs:List Value):Below B w (w'.setCells g o cs):=Lib.below_setCells g hg cs o h
section
variable{P:Program}
theorem Lk(w:World)(dT sT ty elem:TypeId)(sz b o dLen dCap:Nat)(a:Addr)(sLen sCap:Nat)(cs:List Value)
  (hu:P.underlying dT=some (.slice elem)) (hs:(P.info? elem).map (·.size)=some sz) (hn:cs.length=Nat.min sLen dLen*sz)
  (hsrc:∀j v,cs[j]?=some v->w.cell? (a.add j)=some v) (hc:∀j,j<cs.length->(w.cell? ⟨b,o+j,none⟩).isSome=true) (hf:∀j,j<cs.length->w.frozen? ⟨b,o+j,none⟩=false) (h1:∀v∈cs,v.oneCell'=true) :
  (Builtin.copy_ #[dT,sT] ty #[.slice (some ⟨b,o,none⟩) dLen dCap,.slice (some a) sLen sCap]).run P w=.ok (goInt (Nat.min sLen dLen)) (w.setCells b o cs):=by
 have hl:=run_loadCells_list (P:=P) w a cs hsrc;have hst:=run_storeCells_cells (P:=P) b o cs 0 w (by simpa using hc) (by simpa using hf) h1
 cases hq:P.info? elem with
 |none=>simp[hq]at hs
 |some i=>
  have hi:i.size=sz:=by simpa[hq]using hs
  simp[Builtin.copy_,run_underlying hu,Builtin.lenOf,Builtin.firstCells,sizeOf,typeInfo,hq,hi,<-hn,hl,hst]
theorem Eb(w:World)(t e:TypeId)(a:Oa)(l c:Nat)(h:P.underlying t=some (.slice e)):(binOp .eql t (.slice a l c) (.slice none 0 0)).run P w=.ok (.bool a.isNone) w:=by
 simp only[binOp];simp[run_equal_slice_nil w t e a l c h]
end
theorem c2X(rs:List Rt):∀u∈rs.flatMap Rt.cells,u.oneCell'=true:=λu hu=>by
 obtain⟨r,_,hr⟩:=List.mem_flatMap.mp hu;simp[Rt.cells]at hr;rcases hr with rfl|rfl|rfl|rfl|rfl|rfl<;>rfl
theorem c2Y(ws:List Wr):∀u∈ws.flatMap Wr.cells,u.oneCell'=true:=λu hu=>by
 obtain⟨r,_,hr⟩:=List.mem_flatMap.mp hu;simp[Wr.cells]at hr;rcases hr with rfl|rfl|rfl|rfl<;>rfl
def mkR(n:Nat):Rt:=⟨⟨#[71,69,84]⟩,⟨#[47,42,(48+n).toUInt8]⟩,⟨n,200+n,Bp.a5i n,⟨#[]⟩⟩⟩
def mkW(n:Nat):Wr:=⟨n,⟨#[88]⟩,Bp.a5i n,0⟩
end Go.Proofs.YtbiggccolpchcaaGreatDoor
namespace Go.Proofs.YtbiggccolpchcaaGreatDoor
open Go.RowKit Bn _root_.Go.Proofs.Tryz
section
variable{O:Nat->Nat}{wb:Nat}{V:Nat->Value}{l:Nat->List Value}{vs:Value}{tb:List Pr}{n:Nat}{w0 w w1 w2:World}
end
structure OpV where
 k:Int
 on:Int
 a:Int
 s:By
 t:By
 za:Oa
 zn:Nat
 zc:Nat
 lh:Int
 lb:Int
 ch:Int
 cb:Int
 ra:Oa
 rn:Nat
 rc:Nat
 wa:Oa
 wn:Nat
 wc:Nat
 qm:By
 qt:By
 fa:Oa
 fn:Nat
 fc:Nat
 qb:By
 st:Int
 xa:Oa
 xn:Nat
 xc:Nat
 ab:By
 cl:Bool
abbrev OpV.cs(o:OpV):Array Value:=#[.int .i64 o.k,.int .i64 o.on,.int .i64 o.a,.string o.s,.string o.t,.slice o.za o.zn o.zc,.int .i64 o.lh,.int .i64 o.lb,.int .i64 o.ch,.int .i64 o.cb,.slice o.ra o.rn o.rc,.slice o.wa o.wn o.wc,.string o.qm,.string o.qt,.slice o.fa o.fn o.fc,.string o.qb,.int .i64 o.st,.slice o.xa o.xn o.xc,.string o.ab,.bool o.cl]
section
variable{O:Nat->Nat}{wb:Nat}{V:Nat->Value}{l:Nat->List Value}{vs:Value}{tb:List Pr}{n:Nat}{w0 w:World}
end
theorem Yo(w:World)(a b:Array Value)(t u:TypeId):Bw w ((w.alloc (.cells a t)).alloc (.cells b u))/\((w.alloc (.cells a t)).alloc (.cells b u)).heap[w.heap.size]?=some (.cells a t (0,0))/\((w.alloc (.cells a t)).alloc (.cells b u)).heap[w.heap.size+1]?=some (.cells b u (0,0)):=by
 have h1:=bA w (.cells a t);have b1:=Ag w (.cells a t);have b2:=Ag (w.alloc (.cells a t)) (.cells b u);have z1:(w.alloc (.cells a t)).heap.size=w.heap.size+1:=by simp
 rw[z1]at b2;exact⟨h1.alloc h1.size _,by rw[Ba _ _ _ (by rw[z1];omega)];exact b1,b2⟩
section
variable{O:Nat->Nat}{wb:Nat}{V:Nat->Value}{l:Nat->List Value}{vs:Value}{tb:List Pr}{n:Nat}{w0 w:World}
end
section
variable{O:Nat->Nat}{wb:Nat}{V:Nat->Value}{l:Nat->List Value}{vs:Value}{tb:List Pr}{n:Nat}{w0 w:World}
end
end Go.Proofs.YtbiggccolpchcaaGreatDoor
