/- A ware that copies fields. -/
import Derived.Test.YtbiggccolpchcaaGreatDoorReF
set_option maxRecDepth 100000
set_option maxHeartbeats 8000000
namespace Go.Proofs.YtbiggccolpchcaaGreatDoor
open Go.RowKit _root_.Go.Proofs.Tryz
theorem Dg.of_sl{w:World}{B:Nat}{e:TypeId}{a:Oa}{n c:Nat}{l:List By}(h:w.ownsRow B e 1 (.slice a n c) n (l.map Value.string)):Dg l a w:=by
 obtain⟨a',c',e,hs⟩:=Dg.of_owns h;simp only[Value.slice.injEq]at e;rw[e.1];exact hs
theorem Xw{a:Oa}{n c g:Nat}(h:a=some ⟨g,0,none⟩):(Value.slice a n c).ownBlock=some g:=by rw[h];rfl
theorem a6G(fs:List (By×By))(a:Oa)(cap:Nat)(name:By)(w:World)(hf:Df fs a w)(hl:fs.length<=1000000)(hsz:∀i (h:i<fs.length),fs[i].1.size<=maxLen):
  Calls prog 260 #[.slice a fs.length cap,.string name] w λe w'=>(∃a' c',e=.returned (.slice a' (Bf fs name.data.toList).length c')/\w'.ownsRow w.heap.size 9 1 (.slice a' (Bf fs name.data.toList).length c') (Bf fs name.data.toList).length ((Bf fs name.data.toList).map Value.string))/\Bw w w':=by
 obtain⟨i0,hi,hz0,hz1,hz2⟩:=info_parts Tryz.info9;have HF:Hid (Df fs a w):=hf;have HZ:Hid (∀i (h:i<fs.length),fs[i].1.size<=maxLen):=hsz;clear hf hsz;go_enter func260,ntmps260;go_wp2
 go_loopw [5,7,10] (λv _ i wr=>∃k:Nat,k<=fs.length/\i=.int .i64 k/\wr.ownsRow w.heap.size 9 1 v (Bf (fs.take k) name.data.toList).length ((Bf (fs.take k) name.data.toList).map Value.string)/\Bw w wr) (λ_ _ i _=>fs.length-(intOf i).toNat)
 case atStart=>exact⟨0,Ah _,rfl,Am _ _ _ _,Ad _ _⟩
 case round=>
  obtain⟨k,hk,rfl,hown,hbw⟩:=hrel;by_cases hlt:k<fs.length
  ·obtain⟨g,rfl,hg,hc1,hc2⟩:=(HF.out.below hbw) k hlt;have hsk:=HZ.out k hlt;have HV:Hid ((Pm.a0d fs[k].1.data.toList name.data.toList=true->Bf (fs.take (k+1)) name.data.toList=Bf (fs.take k) name.data.toList++[fs[k].2])/\(Pm.a0d fs[k].1.data.toList name.data.toList=false->Bf (fs.take (k+1)) name.data.toList=Bf (fs.take k) name.data.toList)):=⟨Hv hlt,Jd hlt⟩;have hvl:=Co (fs.take k) name.data.toList;rw[B0z]at hvl;obtain⟨f,hfk⟩:∃f,f=fs[k]:=⟨_,rfl⟩;rw[<-hfk]at hc1 hc2 hsk HV;clear hfk;obtain⟨nm,vl⟩:=f;simp only at hc1 hc2 hsk HV
   cases hal:Pm.a0d nm.data.toList name.data.toList
   ·have HE:=(show Hid _ from HV.out.2 hal);go_wp2_with (go_at_call 246;refine(Ek _ _ _ hsk).mono ?_;rintro e w1 ⟨rfl,hb1⟩);have hb2:=Bc ((Ad _ wr).alloc (Ac _) _) hb1;exact⟨⟨k+1,by omega,by go_num,by rw[HE.out];exact Be hown hb2,hbw.trans (hb2.mono hbw.size)⟩,by simp[intOf];omega⟩
   ·have HE:=(show Hid _ from HV.out.1 hal);go_wp2_with fail;refine(Ek _ _ _ hsk).mono ?_;rintro e w1 ⟨rfl,hb1⟩;rw[hal];have hb2:=Bc ((Ad _ wr).alloc (Ac _) _) hb1;have hown2:=Be hown hb2;have q1:=Aa hb1 (a:=⟨wr.heap.size,1,none⟩) (v:=.string vl) (by simp);have hsz1:w.heap.size<=w1.heap.size:=Aj hbw.size hb2.size;clear hb1 hown hal hc1 hc2 hsk;go_wp2_with (at_builtin;refine wpList_append_own _ rfl _ _ 99 rfl w.heap.size 9 i0 (.string ⟨#[]⟩) 1 16 underlying99 hi hz0 hz1 hz2 rfl (by decide) _ _ _ rfl (hown2.alloc _) ⟨w1.heap.size,0,none⟩ 1 1 [.string vl] rfl rfl ?c1 ?c2 ?c3 ?c4 ?c5 ?_)
    case c1=>
     intro j u hj
     match j,hj with
     |0,hj=>simp at hj;subst hj;simp[Addr.add]
    case c2=>intro u hu;simp at hu;subst hu;rfl
    case c3=>unfold maxLen;omega
    case c4=>omega
    case c5=>simp;omega
    intro v' w2 hown' hgrow _;have hb3:Bw w w2:=((hbw.trans (hb2.mono hbw.size)).alloc hsz1 _).grown hgrow (by simp;omega) (Bx hown2);clear hgrow;go_wp2;refine⟨⟨k+1,by omega,by go_num,?_,hb3⟩,by simp[intOf];omega⟩;rw[HE.out,A0z,B2z];exact hown'
  ·have HT:Hid (fs.take k=fs):=Aq (by omega);rw[HT.out]at hown;obtain⟨a',c',rfl,-⟩:=Dg.of_owns hown;go_wp2;go_ret;exact⟨⟨a',c',rfl,hown⟩,hbw⟩
theorem a1U(r:Rn)(x:Wr)(p1 p2:Addr)(G:Option An)(w:World)(hk:x.k=4)(hr:RnAt r w)(hGl:∀a,G=some a->a.fs.length<=50000000)(HIN:∀W,Bw w W->Calls prog 310 #[.pointer (some p1),.pointer (some p2)] W (Cz G W)):
  Calls prog 309 #[.agg r.vals,.agg #[.int .i64 x.k,.string x.n,.string x.v,.int .i64 x.lim],.func (.func 310) #[] #[.pointer (some p1),.pointer (some p2)]] w (Cz (G.map λa=>⟨a.st,a.fs++(Bf r.fs x.n.data.toList).map (λv=>(x.n,v)),a.b⟩) w):=by
 obtain⟨hA,R1,X1,A1⟩:=Jx r x w;have HI:=hid HIN;have hvl:(Bf r.fs x.n.data.toList).length<=1000000:=Aj (Co _ _) hr.nf;have HV:=hid (λW (hW:Bw w W)=>a6G r.fs r.fa r.fc x.n W (hr.f.below hW) hr.nf hr.zf);obtain⟨r0,r1,r2,r3,r4,r5,r6,r7,r8⟩:=R1.cells;obtain⟨x0,x1,x2,x3⟩:=X1.cells;have lr:=R1.lt;have lx:=X1.lt;clear HIN R1 X1 hr;obtain⟨qm,qt,qb,fs,fa,fc,ps,pa,pc,⟨hk',hst,ht,hn⟩⟩:=r;obtain⟨xk,xn,xv,xl⟩:=x;simp only[Rn.vals]at *
 subst hk;go_enter func309,ntmps309;go_upto_region 1 with fail;generalize ((w.alloc (.cells #[.string qm,.string qt,.slice fa fs.length fc,.string qb,.slice pa ps.length pc,.int .i64 hk',.int .i64 hst,.string ht,.string hn] 330)).alloc (.cells #[.int .i64 4,.string xn,.string xv,.int .i64 xl] 241)).alloc (.cells #[.int .i64 0,.slice none 0 0,.string ⟨#[]⟩,.bool false] 49)=w1 at *
 have la:=A1.lt;have HI1:=hid (λW (hW:Bw w1 W)=>HI.out W (Bc hA hW));have HV1:=hid (λW (hW:Bw w1 W)=>HV.out W (Bc hA hW));have HA1:=hid A1;have hb1:=Ad w1.heap.size w1;generalize hVS:Bf fs xn.data.toList=vals at *
 have HVS:=hid hVS;clear HI HV r0 r1 r3 r4 r5 r6 r7 r8 hVS;go_upto_region 13 with fail
 cases G with
 |none=>
  go_region_dies
  all_goals go_wp2_with (go_at_call 310;refine(HI1.out _ hb1.drew).mono ?_;rintro x wA ⟨rfl,hbA⟩;exact⟨rfl,rfl,Bc hA (Bc hb1.drew hbA)⟩)
 |some a=>
  have hlen:=hGl a rfl;have ne0:w.heap.size≠w.heap.size+1+1:=by omega
  have ne1:w.heap.size+1≠w.heap.size+1+1:=by omega
  have HW1:=hid (λ(wA wB:World) (vv:Value) (va:Oa) (vc:Nat) (ow:wA.ownsRow w1.drew.heap.size 131 2 vv a.fs.length (Bg a.fs)) (hbA:Below w1.drew.heap.size w1.drew wA) (ov:wB.ownsRow wA.heap.size 9 1 (.slice va vals.length vc) vals.length (vals.map Value.string)) (hbB:Bw wA wB)=>Xv a vv xn vals va vc w1 wB (Be ow hbB) (Bc (Bc hb1.drew hbA) hbB) (Dg.of_sl ov) (λg e=>De ov g (Xw e)) (λg e e2=>by have:=De ow _ e2;have:=Bx ov g (Xw e);omega) (by omega));have HKP:Hid (∀(w3 w4:World),(∃vv,w4=setA (w.heap.size+1+1) a.st vv a.b false w3)->Bw w1 w3->w4.cell? ⟨w.heap.size,2,none⟩=some (.slice fa fs.length fc)/\w4.cell? ⟨w.heap.size+1,1,none⟩=some (.string xn)):=by
   rintro w3 w4 ⟨vv,rfl⟩ hb;exact⟨(Bh ne0).trans (Aa hb r2),(Bh ne1).trans (Aa hb x1)⟩
  have HE:=hid (λ(fs:List Prm) (ax:Oa) (cx:Nat) (w3:World)=>a1T (a:=a) (fs:=fs) (ax:=ax) (cx:=cx) (w3:=w3) hA la HA1.out);generalize hFS:a.fs++vals.map (λv=>(xn,v))=FSs at *
  go_region_held3 (λW=>W.cell? ⟨w.heap.size,2,none⟩=some (.slice fa fs.length fc)/\W.cell? ⟨w.heap.size+1,1,none⟩=some (.string xn)) (first|exact HKEEP.out|exact⟨HKEEP.out.1,HKEEP.out.2⟩|go_keep)
   (first
    |(go_at_call 310;refine(HI1.out _ hb1.drew).mono ?_;rintro x wA ⟨⟨vv,rfl,ow⟩,hbA⟩;have e1:=Aa hbA x1;have e2:=Aa hbA r2;obtain⟨av,cv,rfl⟩:=Ce ow;have HWA:=hid (And.intro ow hbA);have HB:=hid (Bc hb1.drew hbA);clear ow)
    |(go_at_call 260;refine(HV1.out _ HB.out).mono ?_;rintro x wB ⟨⟨va,vc,rfl,ov⟩,hbB⟩;have e1:=Aa (Bc HB.out hbB) x1;have e2:=Aa (Bc HB.out hbB) r2;have HW:=hid (HW1.out _ wB _ va vc HWA.out.1 HWA.out.2 ov hbB);clear ov)
    |(go_at_call 351;refine HW.out.mono ?_;rintro x w3 ⟨ax,cx,rfl,o3,hb3⟩;obtain⟨A3,o4,hb4⟩:=HE.out FSs ax cx w3 o3 hb3;obtain⟨c0,c1,c2,c3⟩:=A3.cells;have f0:=A3.free 0;have f1:=A3.free 1;have f2:=A3.free 2;have f3:=A3.free 3;have l3:=A3.lt;obtain⟨d0,d1,d2,d3⟩:=(A3.set a.st (.slice ax FSs.length cx) a.b false).cells;unfold setA at d0 d1 d2 d3;have HF:=hid (And.intro o4 hb4);have e1:=Aa hb3 x1;have e2:=Aa hb3 r2;have HKEEP:=hid (HKP.out w3 (setA (w.heap.size+1+1) a.st (.slice ax FSs.length cx) a.b false w3) ⟨_,rfl⟩ hb3);unfold setA at HKEEP;clear o3 o4))
  all_goals clear HW HW1 HE HKP HI1 HV1 A1
  all_goals go_wp2_with fail
  all_goals
   refine Ae (v:=.agg #[.int .i64 a.st,.slice ax FSs.length cx,.string a.b,.bool false]) (by simp[results,results309,go_sem,d0,d1,d2,d3]) rfl ?_;have h1:=HF.out.1;have h2:=HF.out.2;clear HF;have hvs:=HVS.out;clear HVS;subst hFS;subst hvs;exact⟨⟨_,rfl,h1⟩,h2⟩
end Go.Proofs.YtbiggccolpchcaaGreatDoor
