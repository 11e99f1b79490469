/- Joined. -/
import Derived.Test.YtbiggccolpchcaaGreatDoorJoin11
set_option maxRecDepth 100000
set_option maxHeartbeats 4000000
namespace Go.Proofs.YtbiggccolpchcaaGreatDoor
open Go.RowKit _root_.Go.Proofs.Tryz
structure Ent where
 m:By
 ps:List (Int×By)
 a:Oa
 c:Nat
def Pe(es:List Ent):List Value:=es.flatMap λe=>[.string e.m,.slice e.a e.ps.length e.c]
theorem b0X(es:List Ent)(e:Ent):Pe (es++[e])=Pe es++[.string e.m,.slice e.a e.ps.length e.c]:=by simp[Pe]
theorem a0Q:∀(es:List Ent) (i:Nat) (h:i<es.length),(Pe es)[i*2]?=some (.string es[i].m)/\(Pe es)[i*2+1]?=some (.slice es[i].a es[i].ps.length es[i].c)
 |[],i,h=>absurd h (by simp)
 |f::fs,0,h=>by simp[Pe]
 |f::fs,i+1,h=>by
  have:=a0Q fs i (by simpa using h);have e:Pe (f::fs)=(.string f.m)::(.slice f.a f.ps.length f.c)::Pe fs:=by simp[Pe]
  rw[e,show(i+1)*2=i*2+1+1 from by omega,B6z,B6z,show i*2+1+1+1=(i*2+1)+1+1 from by omega,B6z,B6z];exact this
def b9G(es:List Ent)(a:Oa)(w:World):Prop:=
 ∀i (h:i<es.length),∃g,a=some ⟨g,0,none⟩/\g<w.heap.size/\w.cell? ⟨g,i*2,none⟩=some (.string es[i].m)/\w.cell? ⟨g,i*2+1,none⟩=some (.slice es[i].a es[i].ps.length es[i].c)
theorem b9G.below{es:List Ent}{a:Oa}{w w':World}(h:b9G es a w)(hb:Bw w w'):b9G es a w':=λi hi=>by
 obtain⟨g,h1,h2,h3,h4⟩:=h i hi;exact⟨g,h1,Af h2 hb.size,Aa hb h3,Aa hb h4⟩
theorem Js{w:World}{B:Nat}{e:TypeId}{v:Value}{es:List Ent}(h:w.ownsRow B e 2 v es.length (Pe es)):∃a cap,v=.slice a es.length cap/\b9G es a w:=by
 obtain⟨h1,h2⟩:=h;rcases h2 with⟨h2,h3⟩|⟨g,cap,cur,hv,hB,hg,hc,hm,hsz,ht⟩
 ·refine⟨none,0,?_,λi hi=>?_⟩
  ·rw[h3];exact h2
  ·omega
 ·refine⟨some ⟨g,0,none⟩,cap,hv,λi hi=>⟨g,rfl,?_,?_,?_⟩⟩
  ·rcases B8z g w.heap.size with h'|h'
   ·exact h'
   ·simp[Array.getElem?_eq_none h']at hg
  all_goals
   obtain⟨m1,m2⟩:=a0Q es i hi;rw[<-ht,D0z]at m1 m2;rw[Ab hg]
  ·split at m1
   ·simpa using m1
   ·cases m1
  ·split at m2
   ·simpa using m2
   ·cases m2
structure TbAt(gt o B:Nat)(es:List Ent)(v:Value)(w:World):Prop where
 cel:w.cell? ⟨gt,o,none⟩=some v
 fre:w.frozen? ⟨gt,o,none⟩=false
 row:w.ownsRow B 233 2 v es.length (Pe es)
 pat:∀i (h:i<es.length),Ii es[i].ps es[i].a w
 far:∀i (h:i<es.length) (g:Nat),es[i].a=some ⟨g,0,none⟩->g≠gt/\v.ownBlock≠some g
 blk:∀i (h:i<es.length) (g:Nat),es[i].a=some ⟨g,0,none⟩->g<w.heap.size
 own:v.ownBlock≠some gt
 few:es.length<=24
 szs:∀i (h:i<es.length),es[i].ps.length<=1000000
 new:∀i (h:i<es.length) (g:Nat),es[i].a=some ⟨g,0,none⟩->B<=g
theorem TbAt.lt{gt o B:Nat}{es:List Ent}{v:Value}{w:World}(h:TbAt gt o B es v w):gt<w.heap.size:=Ap h.cel
theorem TbAt.below{gt o B:Nat}{es:List Ent}{v:Value}{w w':World}(h:TbAt gt o B es v w)(hb:Bw w w'):TbAt gt o B es v w':=
 ⟨Aa hb h.cel,by rw[hb.frozen h.lt];exact h.fre,Be h.row hb,λi hi=>(h.pat i hi).below hb,h.far,λi hi g hg=>Af (h.blk i hi g hg) hb.size,h.own,h.few,h.szs,h.new⟩
def Cp(m l:L8):List Ent->Nat->Nat×List Prm×Int
 |[],_=>(0,[],11)
 |e::r,k=>if e.m.data.toList=m then(match Cj e.ps (l.drop 1) true []with
  |some fs=>(k,fs,0)
  |none=>Cp m l r (k+1))else Cp m l r (k+1)
theorem Fi(a b:By):(a.toList==b.toList)=decide (a.data.toList=b.data.toList):=by
 rw[A1z,A1z,B9z,beq_iff_eq,decide_eq_true_iff]
theorem Vv(gt o B:Nat)(es:List Ent)(v:Value)(m s:By)(w:World)(hT:TbAt gt o B es v w)(hp:Pm.a1z s.data.toList=true)(h1s:1<=s.size)(hs:s.size<=140737488355328):
  Calls prog 106 #[.pointer (some ⟨gt,o,none⟩),.string m,.string s] w λr w'=>(∃vv,r=.returned (.tuple #[.int .i64 (Cp m.data.toList s.data.toList es 0).1,vv,.int .i64 (Cp m.data.toList s.data.toList es 0).2.2])/\w'.ownsRow w.heap.size 129 2 vv (Cp m.data.toList s.data.toList es 0).2.1.length (Bg (Cp m.data.toList s.data.toList es 0).2.1))/\Bw w w':=by
 have HIP:=hid (λW=>Ik s W hs);rw[hp]at HIP;have HT:=hid hT;obtain⟨av,cv,rfl,hen⟩:=Js hT.row;have HE:=hid hen;have cel:=hT.cel;have lt0:=hT.lt;have hfw:=hT.few;clear hT hen;generalize hFF:Cp m.data.toList s.data.toList es 0=FF at *
 have HFF:=hid hFF;clear hFF;go_enter func106,ntmps106;go_wp2_with fail;refine(HIP.out _).mono ?_;rintro e w1 ⟨rfl,hb1⟩;have cel1:=Aa hb1 cel;have lt1:gt<w1.heap.size:=Af lt0 hb1.size;clear HIP cel lt0;go_wp2_with fail
 go_loopw [21] (λi wr=>∃k:Nat,k<=es.length/\i=.int .i64 k/\Hid (Cp m.data.toList s.data.toList (es.drop k) k=FF)/\Bw w wr) (λi _=>es.length-(intOf i).toNat)
 case atStart=>exact⟨0,Ah _,rfl,HFF,hb1⟩
 case round=>
  obtain⟨k,hk,rfl,HK,hbw⟩:=hrel;by_cases hlt:k<es.length
  ·obtain⟨g,rfl,hg,hc1,hc2⟩:=(HE.out.below hbw) k hlt;have hpc:=(HT.out.pat k hlt).below hbw;have hps:=HT.out.szs k hlt;rw[<-Ax hlt,Cp]at HK;generalize es[k]=en at *
   obtain⟨em,eps,ea,ec⟩:=en;simp only at hc1 hc2 hpc hps HK;have hA:=bA wr (.cells #[.string em,.slice ea eps.length ec] 233);have hB:=Bc hbw hA;have HM:=hid (λW (hW:Bw w W) (h:Ii eps ea W)=>Vu eps ea ec s W h hps h1s hs);have hbe:=Fi em m;by_cases hme:em.data.toList=m.data.toList
   ·rw[if_pos hme]at HK;rw[Ak hme]at hbe;go_wp2_with fail;refine(HM.out _ hB (hpc.below hA)).mono ?_;rintro e w2 ⟨hma,hb2⟩;have hB2:=Bc hB hb2
    cases hMB:Cj eps (List.drop 1 s.data.toList) true []with
    |none=>
     rw[hMB]at hma HK;obtain rfl:e=.returned (.tuple #[.slice none 0 0,.bool false]):=hma;go_wp2;exact⟨⟨k+1,by omega,by go_num,HK,hB2⟩,by simp[intOf];omega⟩
    |some pf=>
     rw[hMB]at hma HK;obtain⟨vv,rfl,ow⟩:=hma;have HOW:=hid ow;clear ow hMB;go_wp2
     try rw[Exit.noGoto_ret]
     refine Ae (v:=.tuple #[.int .i64 k,vv,.int .i64 0]) (by simp[results,results106,go_sem]) rfl ?_;rw[<-HK.out];exact⟨⟨vv,rfl,Bt HOW.out (Aj hbw.size hA.size)⟩,hB2⟩
   ·rw[if_neg hme]at HK;rw[Ao hme]at hbe;clear HM;go_wp2;exact⟨⟨k+1,by omega,by go_num,HK,hB⟩,by simp[intOf];omega⟩
  ·have hke:k=es.length:=by omega
   rw[hke,List.drop_length,Cp]at HK;go_wp2
   try rw[Exit.noGoto_ret]
   refine Ae (v:=.tuple #[.int .i64 0,.slice none 0 0,.int .i64 11]) (by simp[results,results106,go_sem]) rfl ?_;rw[<-HK.out];exact⟨⟨_,rfl,Am _ _ _ _⟩,hbw⟩
def Fj(m:L8)(p:List (Int×By)):List Ent->Nat->Option Nat
 |[],_=>none
 |e::r,k=>if e.m.data.toList=m then(if ovl e.ps p=true then some k else Fj m p r (k+1))else Fj m p r (k+1)
def c4Q(gt:Nat)(v:Value)(w w':World):Prop:=∀g,g<w.heap.size->g≠gt->v.ownBlock≠some g->w'.heap[g]?=w.heap[g]?
theorem c2F:(prog.info? 233).map (λi=>(i.zero,i.size,i.bytes))=some (some (.agg #[.string ⟨#[]⟩,.slice none 0 0]),2,40):=by kernel_rfl
theorem a8R(gt o B:Nat)(es:List Ent)(v:Value)(m s:By)(p:List (Int×By))(mx:Int)(w:World)(hT:TbAt gt o B es v w)(hmm:Pm.a1x m.data.toList=true)(hms:m.size<=1000)(hp:Bo s.data.toList=some p)(hs:s.size<=1000)(hm:w.cell? ⟨0,0,none⟩=some (.int .i64 mx))(nn ee:Int)(hres:(24<=es.length/\nn=0/\ee=10)\/(es.length<24/\∃j:Nat,Fj m.data.toList p es 0=some j/\nn=j/\ee=9)):
    Calls prog 102 #[.pointer (some ⟨gt,o,none⟩),.string m,.string s] w λr w'=>r=.returned (.tuple #[.int .i64 nn,.int .i64 ee])/\Bw w w':=by
  have HIM:=hid (λW=>Ct m W (by unfold maxLen;omega));rw[hmm]at HIM;have HRP:=hid (λW (hW:Bw w W)=>Hc s mx W (by omega) (Aa hW hm));rw[hp]at HRP;have HT:=hid hT;obtain⟨av,cv,rfl,hen⟩:=Js hT.row;have HE:=hid hen;have cel:=hT.cel;have lt0:=hT.lt;have hfw:=hT.few;clear hT hen hm;rcases hres with⟨hfull,rfl,rfl⟩|⟨hfull,j,hj,rfl,rfl⟩
  all_goals
   go_enter func102,ntmps102;go_wp2_with fail;refine(HIM.out _).mono ?_;rintro e w1 ⟨rfl,hw1⟩;have hw2:=hw1.symm;subst hw2;clear hw1;go_wp2_with fail;refine(HRP.out _ (Ad _ _)).mono ?_;rintro e w2 ⟨⟨vp,rfl,owp⟩,hB2⟩;obtain⟨pa,pc,rfl,hpc0⟩:=Mt owp;have cel2:=Aa hB2 cel;have lt2:gt<w2.heap.size:=Af lt0 hB2.size;have HPC:=hid hpc0;clear HIM HRP cel lt0 owp hpc0
  · have hi:(24:Int)<=(es.length:Int):=by omega
    go_wp2
    go_ret2
    exact⟨rfl,hB2⟩
  · have hi:¬(24:Int)<=(es.length:Int):=by omega
    have HJ:=hid hj;clear hj;go_wp2_with fail
    go_loopw [34] (λi wr=>∃k:Nat,k<=es.length/\i=.int .i64 k/\Hid (Fj m.data.toList p (es.drop k) k=some j)/\Bw w wr/\Bw w2 wr) (λi _=>es.length-(intOf i).toNat)
    case atStart=>exact⟨0,Ah _,rfl,HJ,hB2,Ad _ _⟩
    case round=>
      obtain⟨k,hk,rfl,HK,hbw,hbw2⟩:=hrel;by_cases hlt:k<es.length
      · obtain⟨g,rfl,hg,hc1,hc2⟩:=(HE.out.below hbw) k hlt
        have hpc:=(HT.out.pat k hlt).below hbw;have hps:=HT.out.szs k hlt;rw[<-Ax hlt,Fj]at HK;generalize es[k]=en at *
        obtain⟨em,eps,ea,ec⟩:=en;simp only at hc1 hc2 hpc hps HK;have hA:=bA wr (.cells #[.string em,.slice ea eps.length ec] 233);have hB:=Bc hbw hA;have hBb:=Bc hbw2 hA;have HOV:=hid (λW (h1:Ii eps ea W) (h2:Ii p pa W)=>No eps p ea pa ec pc W h1 h2 hps);have hbe:=Fi em m;by_cases hme:em.data.toList=m.data.toList
        · rw[if_pos hme]at HK
          rw[Ak hme]at hbe;go_wp2_with fail;refine(HOV.out _ (hpc.below hA) (HPC.out.below hBb)).mono ?_;rintro e w3 ⟨rfl,hb3⟩;have hB3:=Bc hB hb3;have hB3b:=Bc hBb hb3
          cases hov:ovl eps p
          · rw[hov,if_neg (by simp)]at HK
            go_wp2;exact⟨⟨k+1,by omega,by go_num,HK,hB3,hB3b⟩,by simp[intOf];omega⟩
          · rw[hov,if_pos rfl]at HK
            have hjk:=Option.some.inj HK.out;subst hjk;go_wp2
            try rw[Exit.noGoto_ret]
            refine Ae (v:=.tuple #[.int .i64 k,.int .i64 9]) (by simp[results,results102,go_sem]) rfl ?_;exact⟨rfl,hB3⟩
        · rw[if_neg hme]at HK
          rw[Ao hme]at hbe;clear HOV;go_wp2;exact⟨⟨k+1,by omega,by go_num,HK,hB,hBb⟩,by simp[intOf];omega⟩
      · exfalso
        have h1:=HK.out;rw[show k=es.length from by omega,List.drop_length,Fj]at h1
        cases h1
theorem Ii.keep{ps:List (Int×By)}{a:Oa}{w w':World}(h:Ii ps a w)(hz:w.heap.size<=w'.heap.size)(hk:∀g,a=some ⟨g,0,none⟩->∀j,w'.cell? ⟨g,j,none⟩=w.cell? ⟨g,j,none⟩):Ii ps a w':=λi hi=>by
 obtain⟨g,h1,h2,h3,h4⟩:=h i hi;exact⟨g,h1,Af h2 hz,by rw[hk g h1];exact h3,by rw[hk g h1];exact h4⟩
structure Added(gt o B:Nat)(es:List Ent)(v:Value)(m:By)(p:List (Int×By))(w w':World):Prop where
 tb:∃a c v',TbAt gt o B (es++[⟨m,p,a,c⟩]) v' w'/\(v'.ownBlock=v.ownBlock\/∃r,v'.ownBlock=some r/\w.heap.size<=r)/\∀g,a=some ⟨g,0,none⟩->w.heap.size<=g
 bl:Below B w w'
 kp:c4Q gt v w w'
 ob:∃x,∀cs t,w.heap[gt]?=some (.cells cs t (0,0))->w'.heap[gt]?=some (.cells (cs.setIfInBounds o x) t (0,0))
theorem De{w:World}{B:Nat}{e:TypeId}{sz:Nat}{v:Value}{n:Nat}{xs:List Value}(h:w.ownsRow B e sz v n xs):∀r,v.ownBlock=some r->r<w.heap.size:=λr hr=>by
 rcases B8z r w.heap.size with h'|h'
 ·exact h'
 ·exact absurd hr (Sj h h')
theorem b9H{gt o B:Nat}{es:List Ent}{v:Value}{m:By}{p:List (Int×By)}{pa:Oa}{pc:Nat}{w wr W3 w4:World}{gg cap:Nat}
  (hT:TbAt gt o B es v w) (hbr:Bw w wr) (hb3:Bw wr W3) (hgrow:W3.grownBy w4 v.ownBlock)
  (hown:w4.ownsRow B 233 2 (.slice (some ⟨gg,0,none⟩) (es.length+1) cap) (es.length+1) (Pe es++[.string m,.slice pa p.length pc])) (hat:v.ownBlock=some gg\/gg=W3.heap.size)
  (hpc:Ii p pa wr) (hpn:∀g,pa=some ⟨g,0,none⟩->w.heap.size<=g/\g<wr.heap.size) (hB:B<=gt) (hBw:B<=w.heap.size) (hf:es.length<24) (hpl:p.length<=1000000) :
  Added gt o B es v m p w (w4.setCell ⟨gt,o,none⟩ (.slice (some ⟨gg,0,none⟩) (es.length+1) cap)):=by
 have hbW:=Bc hbr hb3;have T3:=hT.below hbW;have hgl:=hT.lt;have hvl:=De hT.row;have z1:=hbr.size;have z2:=hb3.size;have z3:=hgrow.size;have hgt3:gt<W3.heap.size:=T3.lt;have hne:gg≠gt:=by
  rcases hat with h|h
  ·intro e;rw[e]at h;exact hT.own h
  ·omega
 have hc4:w4.cell? ⟨gt,o,none⟩=some v:=Ez hgrow T3.cel hT.own;have hcell:∀g,g<W3.heap.size->g≠gt->v.ownBlock≠some g->∀j,(w4.setCell ⟨gt,o,none⟩ (.slice (some ⟨gg,0,none⟩) (es.length+1) cap)).cell? ⟨g,j,none⟩=W3.cell? ⟨g,j,none⟩:=λg h1 h2 h3 j=>by
  rw[World.cell?_setCell_other _ _ _ _ (λe=>by simp only[Addr.mk.injEq]at e;first|exact h2 e.1|exact h2 e.1.symm)];exact Au (hgrow.block g h1 (λe=>h3 e.symm))
 have hzs:(w4.setCell ⟨gt,o,none⟩ (.slice (some ⟨gg,0,none⟩) (es.length+1) cap)).heap.size=w4.heap.size:=by simp
 refine⟨⟨pa,pc,.slice (some ⟨gg,0,none⟩) (es.length+1) cap,⟨?_,?_,?_,λi hi=>?_,λi hi g hg=>?_,λi hi g hg=>?_,?_,?_,λi hi=>?_,λi hi g hg=>?_⟩,?_,λg hg=>(hpn g hg).1⟩,?_,λg h1 h2 h3=>?_,⟨_,λcs t hcs=>heap_setCell_same _ _ _ _ _ _ (by rw[hgrow.block gt hgt3 (λe=>hT.own e.symm),hbW.block gt hgl];exact hcs)⟩⟩
 ·exact World.cell?_setCell_same _ _ _ hc4
 ·rw[World.frozen?_setCell];have:w4.heap[gt]?=W3.heap[gt]?:=hgrow.block gt hgt3 (λe=>hT.own e.symm);have hf3:=T3.fre;unfold World.frozen? at hf3 ⊢;rw[this];exact hf3
 ·rw[A0z,b0X];exact Bv hown (by simp[Value.ownBlock,hne]) o _
 ·by_cases hlt:i<es.length
  ·rw[B4z hlt];exact(T3.pat i hlt).keep (by omega) (λg hg j=>hcell g (T3.blk i hlt g hg) (hT.far i hlt g hg).1 (hT.far i hlt g hg).2 j)
  ·have:i=es.length:=by rw[A0z]at hi;simp at hi;omega
   subst this;rw[C2z (Ac _)];simp only[Nat.sub_self,B7z];exact(hpc.below hb3).keep (by omega) (λg hg j=>hcell g (by have:=(hpn g hg).2;omega) (by have:=(hpn g hg).1;omega) (λe=>by have:=hvl g e;have:=(hpn g hg).1;omega) j)
 ·by_cases hlt:i<es.length
  ·rw[B4z hlt]at hg;refine⟨(hT.far i hlt g hg).1,λe=>?_⟩;simp only[Value.ownBlock,Option.some.injEq]at e;subst e;rcases hat with h|h
   ·exact(hT.far i hlt gg hg).2 h
   ·have:=T3.blk i hlt gg hg;omega
  ·have:i=es.length:=by rw[A0z]at hi;simp at hi;omega
   subst this;rw[C2z (Ac _)]at hg;simp only[Nat.sub_self,B7z]at hg;have hq:=hpn g hg;refine⟨by omega,λe=>?_⟩;simp only[Value.ownBlock,Option.some.injEq]at e;subst e;rcases hat with h|h
   ·have:=hvl gg h;omega
   ·omega
 ·by_cases hlt:i<es.length
  ·rw[B4z hlt]at hg;have:=T3.blk i hlt g hg;omega
  ·have:i=es.length:=by rw[A0z]at hi;simp at hi;omega
   subst this;rw[C2z (Ac _)]at hg;simp only[Nat.sub_self,B7z]at hg;have hq:=hpn g hg;omega
 ·simp[Value.ownBlock,hne]
 ·rw[A0z];simp;omega
 ·by_cases hlt:i<es.length
  ·rw[B4z hlt];exact hT.szs i hlt
  ·have:i=es.length:=by rw[A0z]at hi;simp at hi;omega
   subst this;rw[C2z (Ac _)];simpa using hpl
 ·by_cases hlt:i<es.length
  ·rw[B4z hlt]at hg;exact hT.new i hlt g hg
  ·have:i=es.length:=by rw[A0z]at hi;simp at hi;omega
   subst this;rw[C2z (Ac _)]at hg;simp only[Nat.sub_self,B7z]at hg;have hq:=hpn g hg;omega
 ·rcases hat with h|h
  ·exact .inl (by rw[h];rfl)
  ·exact .inr ⟨gg,rfl,by omega⟩
 ·exact((hbW.mono hBw).grown hgrow (by omega) (λk hk=>Bx hT.row k hk)).setCell hB _
 ·have hh:(w4.setCell ⟨gt,o,none⟩ (.slice (some ⟨gg,0,none⟩) (es.length+1) cap)).heap[g]?=w4.heap[g]?:=heap_setCell_other w4 ⟨gt,o,none⟩ g _ h2;rw[hh,hgrow.block g (by omega) (λe=>h3 e.symm)];exact hbW.block g h1
theorem Mu{gt o:Nat}{wr w4 w5:World}{E:Obj}{row:Option Nat}(hg:(w4.alloc E).grownBy w5 row)(hb:Below wr.drew.heap.size wr.drew w4)(hf:wr.frozen? ⟨gt,o,none⟩=false)(hl:gt<wr.heap.size)(hn:row≠some gt):w5.frozen? ⟨gt,o,none⟩=false:=by
 have l4:gt<w4.heap.size:=Af hl hb.size;have h1:w5.heap[gt]?=(w4.alloc E).heap[gt]?:=hg.block gt (by simp;omega) (λe=>hn e.symm);have h2:(w4.alloc E).heap[gt]?=w4.heap[gt]?:=(bA w4 E).block gt l4;have h3:w4.heap[gt]?=wr.heap[gt]?:=hb.block gt hl;rw[World.frozen?_of_block (w:=wr) (show w5.heap[gt]?=wr.heap[gt]? by rw[h1,h2,h3])];exact hf
theorem b4O(gt o B:Nat)(es:List Ent)(v:Value)(m s:By)(p:List (Int×By))(mx:Int)(w:World)(hT:TbAt gt o B es v w)(hmm:Pm.a1x m.data.toList=true)(hms:m.size<=1000)(hp:Bo s.data.toList=some p)(hpl:p.length<=1000000)(hs:s.size<=1000)(hm:w.cell? ⟨0,0,none⟩=some (.int .i64 mx))(hB:B<=gt)(hBw:B<=w.heap.size)(hf:es.length<24)(hno:Fj m.data.toList p es 0=none):
  Calls prog 102 #[.pointer (some ⟨gt,o,none⟩),.string m,.string s] w λr w'=>r=.returned (.tuple #[.int .i64 (es.length:Nat),.int .i64 0])/\Added gt o B es v m p w w':=by
 obtain⟨i0,hi,hz0,hz1,hz2⟩:=info_parts c2F;have HIM:=hid (λW=>Ct m W (by unfold maxLen;omega));rw[hmm]at HIM;have HRP:=hid (λW (hW:Bw w W)=>Hc s mx W (by omega) (Aa hW hm));rw[hp]at HRP;have HCL:=hid (λW=>Db m W (by omega));have HT:=hid hT;obtain⟨av,cv,rfl,hen⟩:=Js hT.row;have HE:=hid hen;have cel:=hT.cel;have lt0:=hT.lt;have hfw:=hT.few;clear hT hen hm;go_enter func102,ntmps102;go_wp2_with fail;refine(HIM.out _).mono ?_;rintro e w1 ⟨rfl,hw1⟩;have hw2:=hw1.symm;subst hw2;clear hw1;go_wp2_with fail;refine(HRP.out _ (Ad _ _)).mono ?_;rintro e w2 ⟨⟨vp,rfl,owp⟩,hB2⟩;have HPN:Hid (∀g,vp.ownBlock=some g->w.heap.size<=g/\g<w2.heap.size):=λg hg=>⟨Bx owp g hg,De owp g hg⟩;obtain⟨pa,pc,rfl,hpc0⟩:=Mt owp;have cel2:=Aa hB2 cel;have lt2:gt<w2.heap.size:=Af lt0 hB2.size;have HPC:=hid hpc0;clear HIM HRP cel owp hpc0;have hi24:¬(24:Int)<=(es.length:Int):=by omega
 have HJ:=hid hno;clear hno;go_wp2_with fail
 go_loopw [34] (λi wr=>∃k:Nat,k<=es.length/\i=.int .i64 k/\Hid (Fj m.data.toList p (es.drop k) k=none)/\Bw w wr/\Bw w2 wr) (λi _=>es.length-(intOf i).toNat)
 case atStart=>exact⟨0,Ah _,rfl,HJ,hB2,Ad _ _⟩
 case round=>
  obtain⟨k,hk,rfl,HK,hbw,hbw2⟩:=hrel;by_cases hlt:k<es.length
  ·obtain⟨g,rfl,hg,hc1,hc2⟩:=(HE.out.below hbw) k hlt;have hpc:=(HT.out.pat k hlt).below hbw;have hps:=HT.out.szs k hlt;rw[<-Ax hlt,Fj]at HK;generalize es[k]=en at *
   obtain⟨em,eps,ea,ec⟩:=en;simp only at hc1 hc2 hpc hps HK;have hA:=bA wr (.cells #[.string em,.slice ea eps.length ec] 233);have hBa:=Bc hbw hA;have hBb:=Bc hbw2 hA;have HOV:=hid (λW (h1:Ii eps ea W) (h2:Ii p pa W)=>No eps p ea pa ec pc W h1 h2 hps);have hbe:=Fi em m;by_cases hme:em.data.toList=m.data.toList
   ·rw[if_pos hme]at HK;rw[Ak hme]at hbe;go_wp2_with fail;refine(HOV.out _ (hpc.below hA) (HPC.out.below hBb)).mono ?_;rintro e w3 ⟨rfl,hb3⟩;have hB3:=Bc hBa hb3;have hB3b:=Bc hBb hb3
    cases hov:ovl eps p
    ·rw[hov,if_neg (by simp)]at HK;go_wp2;exact⟨⟨k+1,by omega,by go_num,HK,hB3,hB3b⟩,by simp[intOf];omega⟩
    ·rw[hov,if_pos rfl]at HK;exact absurd HK.out (by simp)
   ·rw[if_neg hme]at HK;rw[Ao hme]at hbe;clear HOV;go_wp2;exact⟨⟨k+1,by omega,by go_num,HK,hBa,hBb⟩,by simp[intOf];omega⟩
  ·have hke:¬(k:Int)<(es.length:Int):=by omega
   have Tr:=HT.out.below hbw;have cel3:=Tr.cel;have fre3:=Tr.fre;have lt3:=Tr.lt;have ow3:=Tr.row;have hbz:=hbw.size;have hbz2:=hbw2.size;have hnown:=Tr.own;have hBr:B<=wr.heap.size:=by omega
   clear HK cel2 lt2;go_wp2_with fail
   go_region_law
    (first
     |(refine step_append_lies _ (by rfl) _ _ _ (by rfl) B 233 i0 _ 2 40 underlying169 hi hz0 hz1 hz2 rfl (by omega) (.slice av es.length cv) es.length (Pe es) (by rfl) ((Be ow3.drew hb4).alloc _) ⟨w4.heap.size,0,none⟩ 1 1 [.string m,.slice pa p.length pc] (by rfl) (by rfl) (World.news_of_block (cs:=#[.string m,.slice pa p.length pc]) (t:=233) (fr:=(0,0)) (Ag w4 _)) (by simp[Value.oneCell']) (by omega) (by unfold maxLen;omega) (by omega) (Aj (Aj hBr hb4.size) (by simp)) (w4.heap.size+1) (by simp) ?_;intro gg cap w5 hown5 hgrow hat hlt5;have c5:=Ez hgrow (Hu k4) hnown;have f5:w5.frozen? ⟨gt,o,none⟩=false:=Mu hgrow hb4 fre3 lt3 hnown;have l5:gt<w5.heap.size:=Af (Af lt3 hb4.size) (Aj (by simp) hgrow.size))
     |(go_simp;go_at_call 154;refine(HCL.out _).mono ?_;rintro e w4 ⟨rfl,hb4⟩;have k4:=Aa hb4 (show wr.drew.cell? ⟨gt,o,none⟩=_ from cel3);have l4:gt<w4.heap.size:=Af lt3 hb4.size))
   all_goals
    have hE:Bw wr (w4.alloc (.cells #[.string m,.slice pa p.length pc] 233)):=(Bc (Ad wr.heap.size wr).drew hb4).alloc (Bc (Ad wr.heap.size wr).drew hb4).size _;have hAD:=hid (b9H HT.out hbw hE hgrow hown5 (hat.imp_right (λh=>by rw[h];simp)) (HPC.out.below hbw2) (λg hg=>by have:=HPN.out g (by rw[hg];rfl);omega) hB hBw hf hpl);clear hE hgrow hown5 hat hlt5;go_wp2
    go_ret2
    exact⟨rfl,hAD.out⟩
theorem b4P(p:Value)(m s:By)(w:World)(hmm:Pm.a1x m.data.toList=false)(hms:m.size<=maxLen):
  Calls prog 102 #[p,.string m,.string s] w λr w'=>r=.returned (.tuple #[.int .i64 0,.int .i64 1])/\Bw w w':=by
 have HIM:=hid (λW=>Ct m W hms);rw[hmm]at HIM;go_enter func102,ntmps102;go_wp2_with fail;refine(HIM.out _).mono ?_;rintro e w1 ⟨rfl,hw1⟩;subst hw1;go_wp2
 go_ret2
 exact⟨rfl,Ad _ _⟩
theorem b4Q(p:Value)(m s:By)(mx:Int)(w:World)(hmm:Pm.a1x m.data.toList=true)(hms:m.size<=maxLen)(hp:Bo s.data.toList=none)(hs:s.size<=281474976710656)(hm:w.cell? ⟨0,0,none⟩=some (.int .i64 mx)):
  Calls prog 102 #[p,.string m,.string s] w λr w'=>r=.returned (.tuple #[.int .i64 0,.int .i64 8])/\Bw w w':=by
 have HIM:=hid (λW=>Ct m W hms);rw[hmm]at HIM;have HRP:=hid (Hc s mx w hs hm);rw[hp]at HRP;clear hm;go_enter func102,ntmps102;go_wp2_with fail;refine(HIM.out _).mono ?_;rintro e w1 ⟨rfl,hw1⟩;have hw2:=hw1.symm;subst hw2;clear hw1;go_wp2_with fail;refine HRP.out.mono ?_;rintro e w2 ⟨he,hB2⟩;obtain rfl:e=.returned (.tuple #[.slice none 0 0,.int .i64 8]):=he;go_wp2
 go_ret2
 exact⟨rfl,hB2⟩
structure Hn where
 k:Int
 st:Int
 t:By
 n:By
structure Rt where
 m:By
 p:By
 h:Hn
structure Wr where
 k:Int
 n:By
 v:By
 lim:Int
def Hn.cells(h:Hn):List Value:=[.int .i64 h.k,.int .i64 h.st,.string h.t,.string h.n]
def Wr.cells(x:Wr):List Value:=[.int .i64 x.k,.string x.n,.string x.v,.int .i64 x.lim]
def Rt.cells(r:Rt):List Value:=[.string r.m,.string r.p,.int .i64 r.h.k,.int .i64 r.h.st,.string r.h.t,.string r.h.n]
def hnC(hs:List Hn):List Value:=hs.flatMap Hn.cells
def wrC(ws:List Wr):List Value:=ws.flatMap Wr.cells
theorem b4R(hs:List Hn)(h:Hn):hnC (hs++[h])=hnC hs++h.cells:=by simp[hnC]
theorem b4S(ws:List Wr)(x:Wr):wrC (ws++[x])=wrC ws++x.cells:=by simp[wrC]
def Da{α:Type}(sz:Nat)(f:α->List Value)(l:List α)(a:Oa)(w:World):Prop:=
 ∀i (h:i<l.length),∃g o,a=some ⟨g,o,none⟩/\g<w.heap.size/\∀j (v:Value),(f l[i])[j]?=some v->w.cell? ⟨g,o+i*sz+j,none⟩=some v
theorem Da.below{α:Type}{sz:Nat}{f:α->List Value}{l:List α}{a:Oa}{w w':World}(h:Da sz f l a w)(hb:Bw w w'):Da sz f l a w':=λi hi=>by
 obtain⟨g,o,h1,h2,h3⟩:=h i hi;exact⟨g,o,h1,Af h2 hb.size,λj v hv=>Aa hb (h3 j v hv)⟩
structure StI(gs B:Nat)(es:List Ent)(hs:List Hn)(ws:List Wr)(v vh vw:Value)(w:World):Prop where
 blk:w.heap[gs]?=some (.cells #[v,vh,vw] 287 (0,0))
 tb:TbAt gs 0 B es v w
 hr:w.ownsRow B 73 4 vh hs.length (hnC hs)
 wr:w.ownsRow B 241 4 vw ws.length (wrC ws)
 h1:vh.ownBlock≠some gs
 h2:∀r,vh.ownBlock=some r->v.ownBlock≠some r/\vw.ownBlock≠some r/\∀i (h:i<es.length),es[i].a≠some ⟨r,0,none⟩
 w1:vw.ownBlock≠some gs
 w2:∀r,vw.ownBlock=some r->v.ownBlock≠some r/\vh.ownBlock≠some r/\∀i (h:i<es.length),es[i].a≠some ⟨r,0,none⟩
theorem StI.below{gs B:Nat}{es:List Ent}{hs:List Hn}{ws:List Wr}{v vh vw:Value}{w w':World}(h:StI gs B es hs ws v vh vw w)(hb:Bw w w'):StI gs B es hs ws v vh vw w':=
 ⟨by rw[hb.block gs h.tb.lt];exact h.blk,h.tb.below hb,Be h.hr hb,Be h.wr hb,h.h1,h.h2,h.w1,h.w2⟩
def rtE(es:List Ent)(r:Rt):Int:=
 if Pm.a1x r.m.data.toList=false then 1 else match Bo r.p.data.toList with
  |none=>8
  |some p=>if 24<=es.length then 10 else if(Fj r.m.data.toList p es 0).isSome=true then 9 else if Jb r.h.k r.h.st r.h.t.data.toList=false then 12 else 0
theorem a0R{w w':World}{B:Nat}{e:TypeId}{sz:Nat}{v:Value}{n:Nat}{xs:List Value}(h:w.ownsRow B e sz v n xs)(hk:∀r,v.ownBlock=some r->w'.heap[r]?=w.heap[r]?):w'.ownsRow B e sz v n xs:=by
 obtain⟨q1,q2⟩:=h;refine⟨q1,?_⟩;rcases q2 with q2|⟨r,cap,cur,hv,hB,hgr,q3⟩
 ·exact .inl q2
 ·exact .inr ⟨r,cap,cur,hv,hB,by rw[hk r (by rw[hv];rfl)];exact hgr,q3⟩
def WrB(g:Nat)(k lim:Int)(n v:By)(w:World):Prop:=w.heap[g]?=some (.cells #[.int .i64 k,.string n,.string v,.int .i64 lim] 241 (0,0))
theorem WrB.cells{g:Nat}{k lim:Int}{n v:By}{w:World}(h:WrB g k lim n v w):w.cell? ⟨g,0,none⟩=some (.int .i64 k)/\w.cell? ⟨g,1,none⟩=some (.string n)/\w.cell? ⟨g,2,none⟩=some (.string v)/\w.cell? ⟨g,3,none⟩=some (.int .i64 lim):=by
 refine⟨?_,?_,?_,?_⟩<;>(rw[Ab h];rfl)
theorem WrB.free{g:Nat}{k lim:Int}{n v:By}{w:World}(h:WrB g k lim n v w)(j:Nat):w.frozen? ⟨g,j,none⟩=false:=Ai h j
theorem WrB.lt{g:Nat}{k lim:Int}{n v:By}{w:World}(h:WrB g k lim n v w):g<w.heap.size:=Ap h.cells.1
theorem WrB.below{g:Nat}{k lim:Int}{n v:By}{w w':World}(h:WrB g k lim n v w)(hb:Bw w w'):WrB g k lim n v w':=by
 have:=hb.block g h.lt;unfold WrB at *;rw[this];exact h
theorem WrB.set1{g:Nat}{k lim:Int}{n v:By}{w:World}(h:WrB g k lim n v w)(n':By):WrB g k lim n' v (w.setCell ⟨g,1,none⟩ (.string n')):=by
 unfold WrB at *;rw[heap_setCell_same w g 1 _ _ _ h];rfl
theorem WrB.set2{g:Nat}{k lim:Int}{n v:By}{w:World}(h:WrB g k lim n v w)(v':By):WrB g k lim n v' (w.setCell ⟨g,2,none⟩ (.string v')):=by
 unfold WrB at *;rw[heap_setCell_same w g 2 _ _ _ h];rfl
theorem WrB.other{g':Nat}{k lim:Int}{n v:By}{w:World}(h:WrB g' k lim n v w){g:Nat}(hg:g'≠g)(o:Nat)(x:Value):WrB g' k lim n v (w.setCell ⟨g,o,none⟩ x):=by
 unfold WrB at *;rw[heap_setCell_other w ⟨g,o,none⟩ g' x hg];exact h
structure CwI(w:World)(k lim:Int)(n v:By)(W:World):Prop where
 h:WrB w.heap.size k lim n v W
 r:WrB (w.heap.size+1) 0 0 ⟨#[]⟩ ⟨#[]⟩ W
 b:Bw w W
theorem CwI.step{w W W':World}{k lim:Int}{n v:By}(h:CwI w k lim n v W)(hb:Bw W W'):CwI w k lim n v W':=⟨h.h.below hb,h.r.below hb,Bc h.b hb⟩
theorem CwI.sets{w W:World}{k lim:Int}{n v:By}(h:CwI w k lim n v W):(W.setCell ⟨w.heap.size,1,none⟩ (.string n)).cell? ⟨w.heap.size,1,none⟩=some (.string n)/\(W.setCell ⟨w.heap.size,1,none⟩ (.string n)).cell? ⟨w.heap.size,2,none⟩=some (.string v)/\((W.setCell ⟨w.heap.size,1,none⟩ (.string n)).setCell ⟨w.heap.size,2,none⟩ (.string v)).cell? ⟨w.heap.size,1,none⟩=some (.string n)/\((W.setCell ⟨w.heap.size,1,none⟩ (.string n)).setCell ⟨w.heap.size,2,none⟩ (.string v)).cell? ⟨w.heap.size,2,none⟩=some (.string v):=
 ⟨(h.h.set1 n).cells.2.1,(h.h.set1 n).cells.2.2.1,((h.h.set1 n).set2 v).cells.2.1,((h.h.set1 n).set2 v).cells.2.2.1⟩
theorem CwI.fin{w W:World}{k lim:Int}{n v:By}(h:CwI w k lim n v W):CwI w k lim n v ((W.setCell ⟨w.heap.size,1,none⟩ (.string n)).setCell ⟨w.heap.size,2,none⟩ (.string v)):=
 ⟨(h.h.set1 n).set2 v,(h.r.other (by omega) 1 _).other (by omega) 2 _,(h.b.setCell (Ac _) _).setCell (Ac _) _⟩
theorem Uy(k lim:Int)(n v:By)(w:World)(hn:n.size<=281474976710656)(hv:v.size<=281474976710656):
  Calls prog 200 #[.agg #[.int .i64 k,.string n,.string v,.int .i64 lim]] w λe w'=>e=.returned (.agg #[.int .i64 k,.string n,.string v,.int .i64 lim])/\Bw w w':=by
 have HC1:=hid (λW=>Db n W hn);have HC2:=hid (λW=>Db v W hv);have h1:WrB w.heap.size k lim n v (w.alloc (.cells #[.int .i64 k,.string n,.string v,.int .i64 lim] 241)):=Ag w _;have z1:(w.alloc (.cells #[.int .i64 k,.string n,.string v,.int .i64 lim] 241)).heap.size=w.heap.size+1:=by simp
 have h1':=h1.below (bA _ (.cells #[.int .i64 0,.string ⟨#[]⟩,.string ⟨#[]⟩,.int .i64 0] 241));have h2':WrB (w.heap.size+1) 0 0 ⟨#[]⟩ ⟨#[]⟩ ((w.alloc (.cells #[.int .i64 k,.string n,.string v,.int .i64 lim] 241)).alloc (.cells #[.int .i64 0,.string ⟨#[]⟩,.string ⟨#[]⟩,.int .i64 0] 241)):=by
  rw[<-z1];exact Ag _ _
 have hA:=(bA w (.cells #[.int .i64 k,.string n,.string v,.int .i64 lim] 241)).alloc (by simp) (.cells #[.int .i64 0,.string ⟨#[]⟩,.string ⟨#[]⟩,.int .i64 0] 241);clear h1 z1 hn hv;go_enter func200,ntmps200;go_upto_region 1 with fail;generalize (w.alloc (.cells #[.int .i64 k,.string n,.string v,.int .i64 lim] 241)).alloc (.cells #[.int .i64 0,.string ⟨#[]⟩,.string ⟨#[]⟩,.int .i64 0] 241)=w1 at *
 have I1:=hid (CwI.step (w:=w) ⟨h1',h2',hA⟩ (Ad w1.heap.size w1).drew);obtain⟨c0,c1,c2,c3⟩:=h1'.cells;have l1:=h1'.lt;have f1:=h1'.free 1;have f2:=h1'.free 2;clear h1' h2' hA;go_cut [3]from 3 (λ_ wx=>Hid (CwI w k lim n v wx))
 case first=>
  go_region_held3 (λW=>W.cell? ⟨w.heap.size,1,none⟩=some (.string n)/\W.cell? ⟨w.heap.size,2,none⟩=some (.string v)) (go_keep)
   (first
    |(go_at_call_of 154 (Value.string n);refine(HC1.out _).mono ?_;rintro e wA ⟨rfl,hbA⟩;have IA:=hid (I1.out.step hbA);clear hbA;obtain⟨a0,a1,a2,a3⟩:=IA.out.h.cells;have la:=IA.out.h.lt)
    |(go_at_call_of 154 (Value.string v);refine(HC2.out _).mono ?_;rintro e wB ⟨rfl,hbB⟩;have IB:=hid (IA.out.step hbB);clear hbB;obtain⟨b0,b1,b2,b3⟩:=IB.out.h.cells;have lb:=IB.out.h.lt;have g1:=IB.out.h.free 1;have g2:=IB.out.h.free 2;obtain⟨s2,s3,s4,s5⟩:=IB.out.sets))
  all_goals (try go_wp2_with fail)
  all_goals go_meet
  all_goals exact IB.out.fin
 case rest=>
  obtain⟨hh,hr,hb⟩:=hcut.out;obtain⟨d0,d1,d2,d3⟩:=hh.cells;obtain⟨r0,r1,r2,r3⟩:=hr.cells;have y0:=hr.free 0;have y1:=hr.free 1;have y2:=hr.free 2;have y3:=hr.free 3;have ll:=hh.lt;have lr:=hr.lt;have BB:=hid hb;clear c0 c1 c2 c3 l1 f1 f2 HC1 HC2 I1 hcut hb;go_wp2;refine Ae (v:=.agg #[.int .i64 k,.string n,.string v,.int .i64 lim]) (by simp[results,results200,go_sem,r0,r1,r2,r3]) rfl ?_;exact⟨rfl,(((BB.out.setCell (Al _) _).setCell (Al _) _).setCell (Al _) _).setCell (Al _) _⟩
def RtB(g:Nat)(r:Rt)(w:World):Prop:=w.heap[g]?=some (.cells #[.string r.m,.string r.p,.int .i64 r.h.k,.int .i64 r.h.st,.string r.h.t,.string r.h.n] 75 (0,0))
theorem RtB.cells{g:Nat}{r:Rt}{w:World}(h:RtB g r w):w.cell? ⟨g,0,none⟩=some (.string r.m)/\w.cell? ⟨g,1,none⟩=some (.string r.p)/\w.cell? ⟨g,2,none⟩=some (.int .i64 r.h.k)/\w.cell? ⟨g,3,none⟩=some (.int .i64 r.h.st)/\w.cell? ⟨g,4,none⟩=some (.string r.h.t)/\w.cell? ⟨g,5,none⟩=some (.string r.h.n):=by
 refine⟨?_,?_,?_,?_,?_,?_⟩<;>(rw[Ab h];rfl)
theorem RtB.lt{g:Nat}{r:Rt}{w:World}(h:RtB g r w):g<w.heap.size:=Ap h.cells.1
theorem RtB.below{g:Nat}{r:Rt}{w w':World}(h:RtB g r w)(hb:Bw w w'):RtB g r w':=by
 have:=hb.block g h.lt;unfold RtB at *;rw[this];exact h
structure RtOk(r:Rt):Prop where
 m:r.m.size<=281474976710656
 p:r.p.size<=281474976710656
 t:r.h.t.size<=281474976710656
 n:r.h.n.size<=281474976710656
theorem Vw{s:By}{p:List (Int×By)}(h:Bo s.data.toList=some p):s.size<=64:=by
 unfold Bo at h;by_cases hc:s.data.toList.length<=64/\Lib.hasPrefix s.data.toList [47]=true
 ·have:s.data.toList.length=s.size:=by simp
  omega
 ·rw[if_neg hc]at h;cases h
theorem Gs{s:By}(h:Pm.a1x s.data.toList=true):s.size<=1000:=by
 unfold Pm.a1x at h;rw[A3z]at h;have h1:=of_decide_eq_true h.1;have:s.data.toList.length=s.size:=by simp
 omega
theorem b4T(gs B:Nat)(es:List Ent)(v:Value)(r:Rt)(mx:Int)(w:World)(hT:TbAt gs 0 B es v w)(hr:RtOk r)(hm:w.cell? ⟨0,0,none⟩=some (.int .i64 mx))(e:Int)(he:rtE es r=e)(h0:e≠0)(h12:e≠12):
  Calls prog 102 #[.pointer (some ⟨gs,0,none⟩),.string r.m,.string r.p] w λx w'=>(∃n,x=.returned (.tuple #[.int .i64 n,.int .i64 e]))/\Bw w w':=by
 unfold rtE at he
 cases hmm:Pm.a1x r.m.data.toList
 ·rw[hmm,if_pos rfl]at he;subst he;exact(b4P _ r.m r.p w hmm (by have:=hr.m;unfold maxLen;omega)).mono λx w' ⟨h1,h2⟩=>⟨⟨_,h1⟩,h2⟩
 ·rw[hmm,if_neg (by simp)]at he
  cases hp:Bo r.p.data.toList with
  |none=>
   rw[hp]at he;simp only at he;subst he;exact(b4Q _ r.m r.p mx w hmm (by have:=hr.m;unfold maxLen;omega) hp hr.p hm).mono λx w' ⟨h1,h2⟩=>⟨⟨_,h1⟩,h2⟩
  |some p=>
   rw[hp]at he;simp only at he;have hs:=Vw hp;by_cases h24:24<=es.length
   ·rw[if_pos h24]at he;subst he;exact(a8R gs 0 B es v r.m r.p p mx w hT hmm (Gs hmm) hp (by omega) hm 0 10 (.inl ⟨h24,rfl,rfl⟩)).mono λx w' ⟨h1,h2⟩=>⟨⟨_,h1⟩,h2⟩
   ·rw[if_neg h24]at he
    cases hh:Fj r.m.data.toList p es 0 with
    |some j=>
     rw[hh]at he;simp only[Option.isSome_some,if_true]at he;subst he;exact(a8R gs 0 B es v r.m r.p p mx w hT hmm (Gs hmm) hp (by omega) hm j 9 (.inr ⟨by omega,j,hh,rfl,rfl⟩)).mono λx w' ⟨h1,h2⟩=>⟨⟨_,h1⟩,h2⟩
    |none=>
     rw[hh]at he;simp only[Option.isSome_none,C6z,if_false]at he;by_cases hq:Jb r.h.k r.h.st r.h.t.data.toList=false
     ·rw[if_pos hq]at he;exact absurd he.symm h12
     ·rw[if_neg hq]at he;exact absurd he.symm h0
theorem b4U{es:List Ent}{r:Rt}(h:rtE es r=0\/rtE es r=12):Pm.a1x r.m.data.toList=true/\∃p,Bo r.p.data.toList=some p/\es.length<24/\Fj r.m.data.toList p es 0=none/\(rtE es r=0↔Jb r.h.k r.h.st r.h.t.data.toList=true):=by
 unfold rtE at h ⊢
 cases hmm:Pm.a1x r.m.data.toList
 ·rw[hmm,if_pos rfl]at h;omega
 ·rw[hmm,if_neg (by simp)]at h;refine⟨rfl,?_⟩
  cases hp:Bo r.p.data.toList with
  |none=>rw[hp]at h;simp only at h;omega
  |some p=>
   rw[hp]at h;simp only at h;by_cases h24:24<=es.length
   ·rw[if_pos h24]at h;omega
   ·rw[if_neg h24]at h
    cases hh:Fj r.m.data.toList p es 0 with
    |some j=>rw[hh]at h;simp at h
    |none=>
     refine⟨p,rfl,by omega,hh,?_⟩;simp only[if_neg (show ¬(true=false) by simp),if_neg h24,hh,Option.isSome_none,C6z,if_false]
     cases Jb r.h.k r.h.st r.h.t.data.toList<;>simp
def Rt.agg(r:Rt):Value:=.agg #[.string r.m,.string r.p,.int .i64 r.h.k,.int .i64 r.h.st,.string r.h.t,.string r.h.n]
def Rt.obj(r:Rt):Obj:=.cells #[.string r.m,.string r.p,.int .i64 r.h.k,.int .i64 r.h.st,.string r.h.t,.string r.h.n] 75
theorem a0S(gs B:Nat)(es:List Ent)(v:Value)(r:Rt)(mx:Int)(w:World)(hT:TbAt gs 0 B es v w)(hr:RtOk r)(hm:w.cell? ⟨0,0,none⟩=some (.int .i64 mx))(e:Int)(he:rtE es r=e)(h0:e≠0)(h12:e≠12):
  Calls prog 198 #[.pointer (some ⟨gs,0,none⟩),r.agg] w λx w'=>x=.returned (.int .i64 e)/\Bw w w':=by
 have lt0:=hT.lt;have HA:=hid (λW (hW:Bw w W)=>b4T gs B es v r mx W (hT.below hW) hr (Aa hW hm) e he h0 h12);have hA:=bA w r.obj;have h1:RtB w.heap.size r (w.alloc r.obj):=Ag w _;have ltA:gs<(w.alloc r.obj).heap.size:=by simp;omega
 obtain⟨rm,rp,⟨hk,hst,ht,hn⟩⟩:=r;simp only[Rt.agg,Rt.obj]at *
 clear hT hm he hr;go_enter func198,ntmps198;go_upto_region 1 with fail;generalize w.alloc (.cells #[.string rm,.string rp,.int .i64 hk,.int .i64 hst,.string ht,.string hn] 75)=w1 at *
 obtain⟨c0,c1,c2,c3,c4,c5⟩:=h1.cells;have l1:=h1.lt;simp only at c0 c1 c2 c3 c4 c5;have hA1:=hA.drew
 go_region_held3 (λW=>W.cell? ⟨w.heap.size,0,none⟩=some (.string rm)/\W.cell? ⟨w.heap.size,1,none⟩=some (.string rp)) (go_keep)
  (first|(go_at_call 102;refine(HA.out _ hA1).mono ?_;rintro x w2 ⟨⟨n,rfl⟩,hb2⟩;have hB2:=Bc hA1 hb2;have d0:=Aa hb2 (show w1.drew.cell? ⟨w.heap.size,0,none⟩=_ from c0);have d1:=Aa hb2 (show w1.drew.cell? ⟨w.heap.size,1,none⟩=_ from c1)))
 all_goals (try go_wp2_with fail)
 all_goals go_ret
 all_goals exact⟨rfl,hB2⟩
theorem Mv{w w':World}{B gs j:Nat}{e:TypeId}{sz:Nat}{v x:Value}{n:Nat}{xs:List Value}{row:Option Nat}(h:w.ownsRow B e sz v n xs)(hg:w.grownBy w' row)(h1:v.ownBlock≠some gs)(h2:∀r,row=some r->v.ownBlock≠some r):(w'.setCell ⟨gs,j,none⟩ x).ownsRow B e sz v n xs:=
 a0R h λr hr=>by
  rw[heap_setCell_other w' ⟨gs,j,none⟩ r x (λe=>h1 (by rw[hr,e]))];exact hg.block r (De h r hr) (λe=>h2 r e.symm hr)
theorem a0T{gs B j:Nat}{es:List Ent}{v x:Value}{w w':World}{row:Option Nat}{cs:Array Value}{t:TypeId}(hT:TbAt gs 0 B es v w)(hg:w.grownBy w' row)(h1:row≠some gs)(h2:∀r,row=some r->v.ownBlock≠some r/\∀i (h:i<es.length),es[i].a≠some ⟨r,0,none⟩)(hj:j≠0)(hb:w.heap[gs]?=some (.cells cs t (0,0))):TbAt gs 0 B es v (w'.setCell ⟨gs,j,none⟩ x):=by
 have hgs:=hT.lt;have hb':w'.heap[gs]?=some (.cells cs t (0,0)):=by rw[hg.block gs hgs (λe=>h1 e.symm)];exact hb
 have hbn:=heap_setCell_same w' gs j cs t x hb';have hz:=hg.size;refine⟨?_,Ai hbn 0,Mv hT.row hg hT.own (λr hr=>(h2 r hr).1),λi hi=>?_,hT.far,λi hi g hgg=>?_,hT.own,hT.few,hT.szs,hT.new⟩
 ·rw[World.cell?_setCell_other _ _ _ _ (λe=>by simp only[Addr.mk.injEq]at e;first|exact hj e.2.1|exact hj e.2.1.symm)];exact Ez hg hT.cel h1
 ·refine(hT.pat i hi).keep (by simp;omega) (λg hgg k=>?_);have hgl:=hT.blk i hi g hgg;have hne:=(hT.far i hi g hgg).1;rw[World.cell?_setCell_other _ _ _ _ (λe=>by simp only[Addr.mk.injEq]at e;first|exact hne e.1|exact hne e.1.symm)];exact Au (hg.block g hgl (λe=>(h2 g e.symm).2 i hi hgg))
 ·have:=hT.blk i hi g hgg;simp;omega
theorem StI.added{gs B:Nat}{es:List Ent}{hs:List Hn}{ws:List Wr}{v vh vw:Value}{w w':World}{m:By}{p:List (Int×By)}(h:StI gs B es hs ws v vh vw w)(ha:Added gs 0 B es v m p w w'):∃a c v',StI gs B (es++[⟨m,p,a,c⟩]) hs ws v' vh vw w':=by
 obtain⟨⟨a,c,v',ht,hvo,han⟩,hbl,hkp,⟨x,hx⟩⟩:=ha;have hb:=hx _ _ h.blk;have hxv:x=v':=by
  have:=ht.cel;rw[Ab hb]at this;simpa using this
 subst hxv;have far:∀(u:Value),(∀r,u.ownBlock=some r->r<w.heap.size)->(∀r,u.ownBlock=some r->v.ownBlock≠some r/\∀i (hi:i<es.length),es[i].a≠some ⟨r,0,none⟩)->∀r,u.ownBlock=some r->x.ownBlock≠some r/\∀i (hi:i<(es++[(⟨m,p,a,c⟩:Ent)]).length),(es++[(⟨m,p,a,c⟩:Ent)])[i].a≠some ⟨r,0,none⟩:=λu hu hf r hr=>by
  have hl:=hu r hr;refine⟨λe=>?_,λi hi e=>?_⟩
  ·rcases hvo with q|⟨r',q,hq⟩
   ·rw[q]at e;exact(hf r hr).1 e
   ·rw[q]at e;simp at e;omega
  ·by_cases hlt:i<es.length
   ·rw[B4z hlt]at e;exact(hf r hr).2 i hlt e
   ·have:i=es.length:=by rw[A0z]at hi;simp at hi;omega
    subst this;rw[C2z (Ac _)]at e;simp only[Nat.sub_self,B7z]at e;have:=han r e;omega
 have kh:∀r,vh.ownBlock=some r->w'.heap[r]?=w.heap[r]?:=λr hr=>hkp r (De h.hr r hr) (λe=>h.h1 (by rw[hr,e])) (h.h2 r hr).1;have kw:∀r,vw.ownBlock=some r->w'.heap[r]?=w.heap[r]?:=λr hr=>hkp r (De h.wr r hr) (λe=>h.w1 (by rw[hr,e])) (h.w2 r hr).1;refine⟨a,c,x,hb,ht,a0R h.hr kh,a0R h.wr kw,h.h1,λr hr=>?_,h.w1,λr hr=>?_⟩
 ·have:=far vh (De h.hr) (λr hr=>⟨(h.h2 r hr).1,(h.h2 r hr).2.2⟩) r hr;exact⟨this.1,(h.h2 r hr).2.1,this.2⟩
 ·have:=far vw (De h.wr) (λr hr=>⟨(h.w2 r hr).1,(h.w2 r hr).2.2⟩) r hr;exact⟨this.1,(h.w2 r hr).2.1,this.2⟩
theorem StI.hand{gs B:Nat}{es:List Ent}{hs:List Hn}{ws:List Wr}{v vh vw:Value}{w w':World}{gg cap:Nat}{h0:Hn}(h:StI gs B es hs ws v vh vw w)(hg:w.grownBy w' vh.ownBlock)
  (ho:w'.ownsRow B 73 4 (.slice (some ⟨gg,0,none⟩) (hs.length+1) cap) (hs.length+1) (hnC hs++h0.cells)) (hat:vh.ownBlock=some gg\/w.heap.size<=gg) :
  StI gs B es (hs++[h0]) ws v (.slice (some ⟨gg,0,none⟩) (hs.length+1) cap) vw (w'.setCell ⟨gs,1,none⟩ (.slice (some ⟨gg,0,none⟩) (hs.length+1) cap)):=by
 have hgs:=h.tb.lt;have hb':w'.heap[gs]?=_:=(hg.block gs hgs (λe=>h.h1 e.symm)).trans h.blk;have hne:gg≠gs:=by
  rcases hat with q|q
  ·intro e;rw[e]at q;exact h.h1 q
  ·omega
 have hbn:=heap_setCell_same w' gs 1 _ _ (.slice (some ⟨gg,0,none⟩) (hs.length+1) cap) hb';have hfar:v.ownBlock≠some gg/\vw.ownBlock≠some gg/\∀i (h:i<es.length),es[i].a≠some ⟨gg,0,none⟩:=by
  rcases hat with q|q
  ·exact h.h2 gg q
  ·refine⟨λe=>?_,λe=>?_,λi hi e=>?_⟩
   ·have:=De h.tb.row gg e;omega
   ·have:=De h.wr gg e;omega
   ·have:=h.tb.blk i hi gg e;omega
 refine⟨hbn,a0T h.tb hg h.h1 (λr hr=>⟨(h.h2 r hr).1,(h.h2 r hr).2.2⟩) (by omega) h.blk,?_,Mv h.wr hg h.w1 (λr hr=>(h.h2 r hr).2.1),by simp[Value.ownBlock,hne],λr hr=>?_,h.w1,λr hr=>⟨(h.w2 r hr).1,λe=>?_,(h.w2 r hr).2.2⟩⟩
 ·rw[A0z,b4R];exact Bv ho (by simp[Value.ownBlock,hne]) 1 _
 ·simp only[Value.ownBlock,Option.some.injEq]at hr;subst hr;exact hfar
 ·simp only[Value.ownBlock,Option.some.injEq]at e;subst e;exact hfar.2.1 hr
theorem StI.ware{gs B:Nat}{es:List Ent}{hs:List Hn}{ws:List Wr}{v vh vw:Value}{w w':World}{gg cap:Nat}{x0:Wr}(h:StI gs B es hs ws v vh vw w)(hg:w.grownBy w' vw.ownBlock)
  (ho:w'.ownsRow B 241 4 (.slice (some ⟨gg,0,none⟩) (ws.length+1) cap) (ws.length+1) (wrC ws++x0.cells)) (hat:vw.ownBlock=some gg\/w.heap.size<=gg) :
  StI gs B es hs (ws++[x0]) v vh (.slice (some ⟨gg,0,none⟩) (ws.length+1) cap) (w'.setCell ⟨gs,2,none⟩ (.slice (some ⟨gg,0,none⟩) (ws.length+1) cap)):=by
 have hgs:=h.tb.lt;have hb':w'.heap[gs]?=_:=(hg.block gs hgs (λe=>h.w1 e.symm)).trans h.blk;have hne:gg≠gs:=by
  rcases hat with q|q
  ·intro e;rw[e]at q;exact h.w1 q
  ·omega
 have hbn:=heap_setCell_same w' gs 2 _ _ (.slice (some ⟨gg,0,none⟩) (ws.length+1) cap) hb';have hfar:v.ownBlock≠some gg/\vh.ownBlock≠some gg/\∀i (h:i<es.length),es[i].a≠some ⟨gg,0,none⟩:=by
  rcases hat with q|q
  ·exact h.w2 gg q
  ·refine⟨λe=>?_,λe=>?_,λi hi e=>?_⟩
   ·have:=De h.tb.row gg e;omega
   ·have:=De h.hr gg e;omega
   ·have:=h.tb.blk i hi gg e;omega
 refine⟨hbn,a0T h.tb hg h.w1 (λr hr=>⟨(h.w2 r hr).1,(h.w2 r hr).2.2⟩) (by omega) h.blk,Mv h.hr hg h.h1 (λr hr=>(h.w2 r hr).2.1),?_,h.h1,λr hr=>⟨(h.h2 r hr).1,λe=>?_,(h.h2 r hr).2.2⟩,by simp[Value.ownBlock,hne],λr hr=>?_⟩
 ·rw[A0z,b4S];exact Bv ho (by simp[Value.ownBlock,hne]) 2 _
 ·simp only[Value.ownBlock,Option.some.injEq]at e;subst e;exact hfar.2.1 hr
 ·simp only[Value.ownBlock,Option.some.injEq]at hr;subst hr;exact hfar
def Gb(l:L8)(es:List Ent):List By:=(es.filter λe=>(Cj e.ps (l.drop 1) true []).isSome).map (·.m)
theorem Sq(l:L8)(es:List Ent)(k:Nat)(h:k<es.length):Gb l (es.take (k+1))=Gb l (es.take k)++(if(Cj es[k].ps (l.drop 1) true []).isSome=true then[es[k].m]else[]):=by
 unfold Gb;rw[A4z h,List.filter_append,B2z]
 congr 1
 by_cases hm:(Cj es[k].ps (l.drop 1) true []).isSome=true
 ·rw[if_pos hm];have:[es[k]].filter (λe=>(Cj e.ps (l.drop 1) true []).isSome)=[es[k]]:=List.filter_cons_of_pos hm;rw[this];rfl
 ·rw[if_neg hm];have:[es[k]].filter (λe=>(Cj e.ps (l.drop 1) true []).isSome)=[]:=List.filter_cons_of_neg hm;rw[this];rfl
theorem Lz(l:L8)(es:List Ent)(k:Nat):(Gb l (es.take k)).length<=(es.take k).length:=by
 unfold Gb;rw[A8z];exact List.length_filter_le _ _
theorem Pf{s:By}(h:0<s.size):Pm.a4e s.data.toList=if((s[0].toNat:Int)==58)=true then 1 else if((s[0].toNat:Int)==42)=true then 2 else 0:=by
 obtain⟨⟨l⟩⟩:=s
 cases l with
 |nil=>exact absurd h (by simp[ByteArray.size])
 |cons a r=>
  show(if([58]:L8).isPrefixOf (a::r)=true then(1:Int)else if([42]:L8).isPrefixOf (a::r)=true then 2 else 0)=(if((a.toNat:Int)==58)=true then 1 else if((a.toNat:Int)==42)=true then 2 else 0);have h2:([58]:L8).isPrefixOf (a::r)=(58==a):=by simp[List.isPrefixOf]
  have h3:([42]:L8).isPrefixOf (a::r)=(42==a):=by simp[List.isPrefixOf]
  rw[h2,h3];have e1:=Pm.a0g (p:=λa=>((58:UInt8)==a)==((a.toNat:Int)==58)) (by decide +kernel) a;have e2:=Pm.a0g (p:=λa=>((42:UInt8)==a)==((a.toNat:Int)==42)) (by decide +kernel) a;have e1':((58:UInt8)==a)=((a.toNat:Int)==58):=by simpa using e1
  have e2':((42:UInt8)==a)=((a.toNat:Int)==42):=by simpa using e2
  rw[e1',e2']
theorem Jt{s:By}(h:¬0<s.size):s.data.toList=[]:=by
 have hl:s.data.toList.length=s.size:=by simp
 exact Ay (by omega)
theorem Sr{s:By}(h:¬0<s.size):Pm.a4e s.data.toList=0:=by
 rw[Jt h];rfl
theorem Ho{s:By}(h:0<s.size):s.toList.isEmpty=false:=by
 have hl:s.data.toList.length=s.size:=by simp
 rw[A1z]
 cases hd:s.data.toList with
 |nil=>rw[hd]at hl;simp at hl;omega
 |cons=>rfl
theorem Jg{s:By}(h:¬0<s.size):s.toList.isEmpty=true:=by
 rw[A1z,Jt h];rfl
def Dq(s:By):By:=if Pm.a4e s.data.toList=0 then⟨#[]⟩else s.extract 1 s.size
theorem Kw(s:By)(w:World):
  Calls prog 157 #[.string s] w λe w'=>e=.returned (.bool (Pm.a4e s.data.toList==2))/\Bw w w':=by
 by_cases h0:0<s.size
 ·have HK:=hid (Pf h0);have he:=Ho h0;generalize Pm.a4e s.data.toList=K at *
  cases hb:((s[0].toNat:Int)==42)
  ·have HF:Hid ((K==2)=false):=by unfold Hid;rw[HK.out,hb];cases((s[0].toNat:Int)==58)<;>rfl
   go_enter func157,ntmps157;go_wp2;go_ret;exact⟨Bd HF.out.symm,Ad _ _⟩
  ·have HF:Hid ((K==2)=true):=by
    unfold Hid;rw[HK.out,hb];have:((s[0].toNat:Int)==58)=false:=by rw[Ar];rw[beq_iff_eq]at hb;omega
    rw[this];rfl
   go_enter func157,ntmps157;go_wp2;go_ret;exact⟨Bd HF.out.symm,Ad _ _⟩
 ·have HK:=hid (Sr h0);have he:=Jg h0;generalize Pm.a4e s.data.toList=K at *
  have HF:Hid ((K==2)=false):=by unfold Hid;rw[HK.out];rfl
  go_enter func157,ntmps157;go_wp2;go_ret;exact⟨Bd HF.out.symm,Ad _ _⟩
theorem Gi(s:By)(w:World):
  Calls prog 156 #[.string s] w λe w'=>e=.returned (.bool (Pm.a4e s.data.toList==0))/\Bw w w':=by
 by_cases h0:0<s.size
 ·have HK:=hid (Pf h0);have he:=Ho h0;generalize Pm.a4e s.data.toList=K at *
  cases ha:((s[0].toNat:Int)==58)
  ·have ha':((s[0].toNat:Int) != 58)=true:=by rw[bne,ha];rfl
   cases hb:((s[0].toNat:Int)==42)
   ·have HF:Hid ((K==0)=true):=by unfold Hid;rw[HK.out,ha,hb];rfl
    have hb':((s[0].toNat:Int) != 42)=true:=by rw[bne,hb];rfl
    go_enter func156,ntmps156;go_wp2;go_ret;exact⟨Bd HF.out.symm,Ad _ _⟩
   ·have HF:Hid ((K==0)=false):=by unfold Hid;rw[HK.out,ha,hb];rfl
    have hb':((s[0].toNat:Int) != 42)=false:=by rw[bne,hb];rfl
    go_enter func156,ntmps156;go_wp2;go_ret;exact⟨Bd HF.out.symm,Ad _ _⟩
  ·have ha':((s[0].toNat:Int) != 58)=false:=by rw[bne,ha];rfl
   have HF:Hid ((K==0)=false):=by unfold Hid;rw[HK.out,ha];rfl
   go_enter func156,ntmps156;go_wp2;go_ret;exact⟨Bd HF.out.symm,Ad _ _⟩
 ·have HK:=hid (Sr h0);have he:=Jg h0;generalize Pm.a4e s.data.toList=K at *
  have HF:Hid ((K==0)=true):=by unfold Hid;rw[HK.out];rfl
  go_enter func156,ntmps156;go_wp2;go_ret;exact⟨Bd HF.out.symm,Ad _ _⟩
theorem Mw(s:By)(w:World)(hs:s.size<=maxLen):
  Calls prog 158 #[.string s] w λe w'=>e=.returned (.string (Dq s))/\Bw w w':=by
 unfold maxLen at hs;have HN:Hid (Dq s=if Pm.a4e s.data.toList=0 then⟨#[]⟩else s.extract 1 s.size):=rfl;generalize Dq s=NM at *
 by_cases h0:0<s.size
 ·have HK:=hid (Pf h0);have he:=Ho h0;generalize Pm.a4e s.data.toList=K at *
  cases ha:((s[0].toNat:Int)==58)
  ·cases hb:((s[0].toNat:Int)==42)
   ·have HF:Hid (NM=⟨#[]⟩):=by unfold Hid;rw[HN.out,HK.out,ha,hb];rfl
    clear HN HK;go_enter func158,ntmps158;go_wp2;go_ret;exact⟨by rw[HF.out];rfl,Ad _ _⟩
   ·have HF:Hid (NM=s.extract 1 s.size):=by unfold Hid;rw[HN.out,HK.out,ha,hb];rfl
    clear HN HK;go_enter func158,ntmps158;go_wp2;go_ret;exact⟨by rw[HF.out];rfl,Ad _ _⟩
  ·have HF:Hid (NM=s.extract 1 s.size):=by unfold Hid;rw[HN.out,HK.out,ha];rfl
   clear HN HK;go_enter func158,ntmps158;go_wp2;go_ret;exact⟨by rw[HF.out];rfl,Ad _ _⟩
 ·have HK:=hid (Sr h0);have he:=Jg h0;have HF:Hid (NM=⟨#[]⟩):=by unfold Hid;rw[HN.out,HK.out];rfl
  clear HN HK;go_enter func158,ntmps158;go_wp2;go_ret;exact⟨by rw[HF.out];rfl,Ad _ _⟩
end Go.Proofs.YtbiggccolpchcaaGreatDoor
