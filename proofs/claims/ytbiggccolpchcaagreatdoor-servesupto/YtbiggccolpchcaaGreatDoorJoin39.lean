/- Joined. -/
import Derived.Test.YtbiggccolpchcaaGreatDoorRyH
set_option maxRecDepth 100000
set_option maxHeartbeats 4000000
namespace Go.Proofs.YtbiggccolpchcaaGreatDoor
open Go.RowKit _root_.Go.Proofs.Tryz
theorem c0V(l:List By)(s:L8):Uh l s=decide (s∈l.map (λb=>b.data.toList)):=by
 unfold Uh;rw[B9z];simp only[List.any_eq_true,decide_eq_true_eq,E5z]
theorem c3M(k lim:Int)(n v:By)(qf:List Prm)(qb:By):Jz ⟨k,n,v,lim⟩ qf qb=if k=1/\Uh (Bf qf n.data.toList) v.data.toList=false then 403 else if k=2/\lim<(qb.size:Int)then 413 else 0:=by
 unfold Jz;rw[c0V];simp only[decide_eq_false_iff_not]
theorem c0W(qf:List Prm)(qb:By)(ws:List Wr)(k:Nat)(h:k<ws.length):Dz qf qb (ws.drop k)=if Jz ws[k] qf qb=0 then((Dz qf qb (ws.drop (k+1))).1+1,(Dz qf qb (ws.drop (k+1))).2)else(0,Jz ws[k] qf qb):=by
 rw[<-Ax h,Dz]
theorem a7O{D:Nat×Int}{k:Nat}{xk xl:Int}{HB:Bool}{n:Nat}{T:Nat×Int}(h:D=((if(if xk=1/\HB=false then(403:Int)else if xk=2/\xl<(n:Int)then 413 else 0)=0 then(T.1+1,T.2)else(0,if xk=1/\HB=false then(403:Int)else if xk=2/\xl<(n:Int)then 413 else 0)).1+k,(if(if xk=1/\HB=false then(403:Int)else if xk=2/\xl<(n:Int)then 413 else 0)=0 then(T.1+1,T.2)else(0,if xk=1/\HB=false then(403:Int)else if xk=2/\xl<(n:Int)then 413 else 0)).2)):
  (xk=1->HB=false->D=(k,403))/\(xk=2->xl<(n:Int)->D=(k,413))/\(¬(xk=1/\HB=false)->¬(xk=2/\xl<(n:Int))->D=(T.1+(k+1),T.2)):=by
 refine⟨λh1 h2=>?_,λh1 h2=>?_,λh1 h2=>?_⟩
 ·subst h1 h2;simpa using h
 ·subst h1;simpa[h2]using h
 ·rw[if_neg h1,if_neg h2,if_pos rfl]at h;rw[h];simp only[Prod.mk.injEq,and_true];omega
theorem b2M(ws:List Wr)(a:Oa)(c:Nat)(qm qt qb:By)(fs:List Prm)(fa:Oa)(fc:Nat)(w:World)(hm:Da 4 Wr.cells ws a w)(hwl:ws.length<=1000000)(hf:Nc fs fa w)(hl:fs.length<=1000000)(hz:∀i (h:i<fs.length),fs[i].1.size<=maxLen)(hwn:∀x∈ws,x.n.size<=maxLen):
  Calls prog 263 #[.slice a ws.length c,.agg #[.string qm,.string qt,.slice fa fs.length fc,.string qb]] w λx w'=>x=.returned (.tuple #[.int .i64 (Dz fs qb ws).1,.int .i64 (Dz fs qb ws).2])/\Bw w w':=by
 have hA:=bA w (.cells #[.string qm,.string qt,.slice fa fs.length fc,.string qb] 47);have Q0:=Bl.new w #[.string qm,.string qt,.slice fa fs.length fc,.string qb] 47;have HW:=hid hm;have HF:=hid hf;have HZ:=hid hz;have HWN:=hid hwn;generalize hD:Dz fs qb ws=D;have HD0:Hid (D=((Dz fs qb (ws.drop 0)).1+0,(Dz fs qb (ws.drop 0)).2)):=hid (by rw[D6z,hD,Nat.add_zero]);clear hm hf hz hwn hD;go_enter func263,ntmps263;go_wp2_with fail;generalize w.alloc (.cells #[.string qm,.string qt,.slice fa fs.length fc,.string qb] 47)=w1 at *
 have l1:=Q0.lt
 go_loopw [6,7,8] (λi _ _ wr=>∃k:Nat,k<=ws.length/\i=.int .i64 k/\Hid (D=((Dz fs qb (ws.drop k)).1+k,(Dz fs qb (ws.drop k)).2))/\Bw w1 wr) (λi _ _ _=>ws.length-(intOf i).toNat)
 case atStart=>exact⟨0,Ah _,rfl,HD0,Ad _ _⟩
 case round=>
  obtain⟨k,hk,rfl,HK,hbw⟩:=hrel;have hbW:=Bc hA hbw;have Q1:=Q0.below hbw;have q2:wr.cell? ⟨w.heap.size,2,none⟩=some (.slice fa fs.length fc):=(Q1.cell 2).trans rfl;have q3:wr.cell? ⟨w.heap.size,3,none⟩=some (.string qb):=(Q1.cell 3).trans rfl;have lq:=Q1.lt;by_cases hlt:k<ws.length
  ·obtain⟨g,o,rfl,hg0,p0,p1,p2,p3⟩:=Ky HW.out hlt;have c0:=Aa hbW p0;have c1:=Aa hbW p1;have c2:=Aa hbW p2;have c3:=Aa hbW p3;have hg:g<wr.heap.size:=Af hg0 hbW.size;have hda:=c0W fs qb ws k hlt;have hnk:=HWN.out _ (As hlt);generalize ws[k]=x at *
   obtain⟨xk,xn,xv,xl⟩:=x;simp only at *
   rw[c3M]at hda;have hd:=HK.out;rw[hda]at hd;obtain⟨hd1,hd2,hd3⟩:=a7O hd;have HD1:=hid hd1;have HD2:=hid hd2;have HD3:=hid hd3;clear hd1 hd2 hd3;have HVL:=hid (λW (hW:Bw w W)=>Oj fs fa fc xn W (HF.out.below hW) (by omega) hnk HZ.out);have hvl:(Bf fs xn.data.toList).length<=1000000:=Aj (Co _ _) hl;generalize Bf fs xn.data.toList=L at *
   have HHO:=hid (λa c W (h:Dg L a W)=>a7L L a c xv W h hvl);generalize Uh L xv.data.toList=HB at *
   clear HK HD0 hda hd p0 p1 p2 p3 Q1;go_upto_region 4 with fail
   go_region_held3 (λW=>W.cell? ⟨w.heap.size,2,none⟩=some (.slice fa fs.length fc)/\W.cell? ⟨g,o+k*4+1,none⟩=some (.string xn)) (first|go_keep)
    (first|(go_at_call 188;refine(HVL.out _ hbW.drew).mono ?_;rintro x w4 ⟨⟨a4,e4,rfl,st4⟩,hb4⟩;have hb4':=Bc (Ad wr.heap.size wr).drew hb4;have k0:=Aa hb4' c0;have k1:=Aa hb4' c1;have k2:=Aa hb4' c2;have k3:=Aa hb4' c3;have j2:=Aa hb4' q2;have j3:=Aa hb4' q3;have hg4:=Af hg hb4'.size;have lq4:=Af lq hb4'.size;have ST4:=hid st4;clear st4 hb4))
   all_goals
    have HH:=hid (HHO.out a4 e4 w4 ST4.out);have hB4:=Bc hbW hb4';have hbw4:=Bc hbw hb4';clear HVL HHO ST4 hb4';go_wp2_with fail;refine HH.out.mono ?_;rintro x w5 ⟨rfl,hb5⟩;have r0:=Aa hb5 k0;have r3:=Aa hb5 k3;have s3:=Aa hb5 j3;have hg5:=Af hg4 hb5.size;have lq5:=Af lq4 hb5.size;have hB5:=Bc hB4 hb5;have hbw5:=Bc hbw4 hb5;clear HH k0 k1 k2 k3 j2 j3;by_cases z1:xk=1
    ·subst z1;have v1:((1:Int)==1)=true:=rfl;have v2:((1:Int)==2)=false:=rfl
     cases HB with
     |false=>
      have hd:=HD1.out rfl rfl;subst hd;clear HD1 HD2 HD3;go_wp2_with fail;refine Ae (v:=.tuple #[.int .i64 k,.int .i64 403]) (by simp[results,results263,go_sem]) rfl ?_;exact⟨rfl,hB5⟩
     |true=>
      have HDN:=hid (HD3.out (by simp) (by simp));clear HD1 HD2 HD3;go_wp2_with fail
      go_quiet (fail)
      go_wp2_with fail;exact⟨⟨k+1,by omega,by go_num,HDN,below_drewN hbw5 _⟩,by simp[intOf];omega⟩
    ·have u1:(xk==1)=false:=by simpa using z1
     by_cases z2:xk=2
     ·subst z2;have v2:((2:Int)==2)=true:=rfl;by_cases z3:xl<(qb.size:Int)
      ·have hd:=HD2.out rfl z3;subst hd;clear HD1 HD2 HD3;go_wp2_with fail
       go_quiet (fail)
       go_wp2_with fail;refine Ae (v:=.tuple #[.int .i64 k,.int .i64 413]) (by simp[results,results263,go_sem]) rfl ?_;exact⟨rfl,below_drewN hB5 _⟩
      ·have HDN:=hid (HD3.out (λq=>z1 q.1) (λq=>z3 q.2));clear HD1 HD2 HD3;go_wp2_with fail
       go_quiet (fail)
       go_wp2_with fail;exact⟨⟨k+1,by omega,by go_num,HDN,below_drewN hbw5 _⟩,by simp[intOf];omega⟩
     ·have u2:(xk==2)=false:=by simpa using z2
      have HDN:=hid (HD3.out (λq=>z1 q.1) (λq=>z2 q.1));clear HD1 HD2 HD3 z1 z2;go_wp2_with fail
      go_quiet (fail)
      go_wp2_with fail;exact⟨⟨k+1,by omega,by go_num,HDN,below_drewN hbw5 _⟩,by simp[intOf];omega⟩
  ·have hne:¬(k:Int)<(ws.length:Int):=by omega
   obtain rfl:k=ws.length:=by omega
   have hs:=HK.out;rw[Az (by omega)]at hs;simp only[Dz,C1z]at hs;subst hs;clear HK HD0;go_wp2_with fail;refine Ae (v:=.tuple #[.int .i64 ws.length,.int .i64 0]) (by simp[results,results263,go_sem]) rfl ?_;exact⟨rfl,hbW⟩
structure RoI(w:World)(c q f:Array Value)(ga:Nat)(st:Int)(vv:Value)(b:By)(wr:World):Prop where
 c:Bl w.heap.size c 44 wr
 q:Bl (w.heap.size+1) q 47 wr
 f:Bl (w.heap.size+1+1) f 158 wr
 r:AnB (w.heap.size+1+1+1) 0 (.slice none 0 0) ⟨#[]⟩ false wr
 a:AnB ga st vv b false wr
 g:w.heap.size+1+1+1<ga
 bl:Bw w wr
theorem RoI.below{w:World}{c q f:Array Value}{ga:Nat}{st:Int}{vv:Value}{b:By}{wr w':World}(h:RoI w c q f ga st vv b wr)(hb:Bw wr w'):RoI w c q f ga st vv b w':=
 ⟨h.c.below hb,h.q.below hb,h.f.below hb,h.r.below hb,h.a.below hb,h.g,Bc h.bl hb⟩
theorem RoI.keep{w:World}{c q f:Array Value}{ga:Nat}{st:Int}{vv:Value}{b:By}{wr w':World}(h:RoI w c q f ga st vv b wr)(hk:∀g,g<=ga->w'.heap[g]?=wr.heap[g]?)(hb:Bw w w'):RoI w c q f ga st vv b w':=by
 have hg:=h.g;exact⟨h.c.keep (hk _ (by omega)),h.q.keep (hk _ (by omega)),h.f.keep (hk _ (by omega)),h.r.bl.keep (hk _ (by omega)),h.a.bl.keep (hk _ (Ac _)),h.g,hb⟩
theorem RoI.set{w:World}{c q f:Array Value}{ga:Nat}{st:Int}{vv:Value}{b:By}{wr:World}(h:RoI w c q f ga st vv b wr)(st':Int)(vv':Value)(b':By):RoI w c q f ga st' vv' b' (setA ga st' vv' b' false wr):=by
 have hg:=h.g;exact⟨h.c.otherA (by omega) _ _ _ _,h.q.otherA (by omega) _ _ _ _,h.f.otherA (by omega) _ _ _ _,h.r.bl.otherA (by omega) _ _ _ _,h.a.set _ _ _ _,h.g,Bm h.bl (by omega)⟩
theorem a9L(c q f:Array Value)(w:World):Bw w ((((w.alloc (.cells c 44)).alloc (.cells q 47)).alloc (.cells f 158)).alloc (.cells #[.int .i64 0,.slice none 0 0,.string ⟨#[]⟩,.bool false] 49))/\Bl w.heap.size c 44 ((((w.alloc (.cells c 44)).alloc (.cells q 47)).alloc (.cells f 158)).alloc (.cells #[.int .i64 0,.slice none 0 0,.string ⟨#[]⟩,.bool false] 49))/\Bl (w.heap.size+1) q 47 ((((w.alloc (.cells c 44)).alloc (.cells q 47)).alloc (.cells f 158)).alloc (.cells #[.int .i64 0,.slice none 0 0,.string ⟨#[]⟩,.bool false] 49))/\Bl (w.heap.size+1+1) f 158 ((((w.alloc (.cells c 44)).alloc (.cells q 47)).alloc (.cells f 158)).alloc (.cells #[.int .i64 0,.slice none 0 0,.string ⟨#[]⟩,.bool false] 49))/\AnB (w.heap.size+1+1+1) 0 (.slice none 0 0) ⟨#[]⟩ false ((((w.alloc (.cells c 44)).alloc (.cells q 47)).alloc (.cells f 158)).alloc (.cells #[.int .i64 0,.slice none 0 0,.string ⟨#[]⟩,.bool false] 49)):=by
 have h1:=bA w (.cells c 44);have b1:=Bl.new w c 44;have z1:(w.alloc (.cells c 44)).heap.size=w.heap.size+1:=by simp
 generalize w.alloc (.cells c 44)=W1 at *
 have h2:=h1.alloc h1.size (.cells q 47);have b2:=Bl.new W1 q 47;have k1:=b1.alloc (.cells q 47);have z2:(W1.alloc (.cells q 47)).heap.size=w.heap.size+1+1:=by simp[z1]
 rw[z1]at b2;generalize W1.alloc (.cells q 47)=W2 at *
 have h3:=h2.alloc h2.size (.cells f 158);have b3:=Bl.new W2 f 158;have m1:=k1.alloc (.cells f 158);have m2:=b2.alloc (.cells f 158);have z3:(W2.alloc (.cells f 158)).heap.size=w.heap.size+1+1+1:=by simp[z2]
 rw[z2]at b3;generalize W2.alloc (.cells f 158)=W3 at *
 have b4:=Bl.new W3 #[.int .i64 0,.slice none 0 0,.string ⟨#[]⟩,.bool false] 49;rw[z3]at b4;exact⟨h3.alloc h3.size _,m1.alloc _,m2.alloc _,b3.alloc _,b4⟩
def RoG(w:World)(c q f:Array Value)(ga:Nat)(G:Option An)(ok:Value)(wr:World):Prop:=
 match G with
 |none=>ok=.bool false/\RoI w c q f ga 0 (.slice none 0 0) ⟨#[]⟩ wr
 |some a=>ok=.bool true/\∃vv,RoI w c q f ga a.st vv a.b wr/\wr.ownsRow w.heap.size 131 2 vv a.fs.length (Bg a.fs)/\∀g,vv.ownBlock=some g->ga<g
def RuG(w:World)(c q f:Array Value)(ga:Nat)(G:Option An)(up:Value)(wr:World):Prop:=
 match G with
 |none=>up=.bool true/\RoI w c q f ga 0 (.slice none 0 0) ⟨#[]⟩ wr
 |some a=>up=.bool false/\∃vv,RoI w c q f ga a.st vv a.b wr/\wr.ownsRow w.heap.size 131 2 vv a.fs.length (Bg a.fs)/\∀g,g<=ga->vv.ownBlock≠some g
theorem c0X{α:Type}{sz:Nat}{f:α->List Value}{l:List α}{a:Oa}{w:World}(h:Da sz f l a w)(n:Nat):Da sz f (l.take n) a w:=λi hi=>by
 have hi2:i<l.length:=by rw[B0z]at hi;omega
 obtain⟨g,o,h1,h2,h3⟩:=h i hi2;exact⟨g,o,h1,h2,λj v hv=>h3 j v (by simpa using hv)⟩
end Go.Proofs.YtbiggccolpchcaaGreatDoor
