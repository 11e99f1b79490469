/- Joined. -/
import Derived.Test.YtbiggccolpchcaaGreatDoorJoin18
set_option maxRecDepth 100000
set_option maxHeartbeats 4000000
namespace Go.Proofs.YtbiggccolpchcaaGreatDoor
open Go.RowKit _root_.Go.Proofs.Tryz
def Iw(gt B:Nat)(es:List Prm)(m s:By)(w:World)(x:Ending)(w':World):Prop:=
 x=.returned (.tuple #[.int .i64 (adE m.data.toList s.data.toList (es.map Bz)).1,.int .i64 (adE m.data.toList s.data.toList (es.map Bz)).2])/\Below B w w'/\((adE m.data.toList s.data.toList (es.map Bz)).2≠0->Bw w w')/\((adE m.data.toList s.data.toList (es.map Bz)).2=0->∃v',TrAt gt B (es++[(m,s)]) v' w')
theorem Iw.err{gt B:Nat}{es:List Prm}{m s:By}{w w':World}{x:Ending}{R:Int×Int}(hR:adE m.data.toList s.data.toList (es.map Bz)=R)(h0:R.2≠0)(hx:x=.returned (.tuple #[.int .i64 R.1,.int .i64 R.2]))(hb:Bw w w')(hB:B<=w.heap.size):Iw gt B es m s w x w':=by
 unfold Iw;rw[hR];exact⟨hx,hb.mono hB,λ_=>hb,λh=>absurd h h0⟩
theorem b1W(m:L8)(p:List (Int×By))(es:List Prm)(k:Nat)(h:k<es.length){pe:List (Int×By)}(hp:Bo es[k].2.data.toList=some pe):Fj m p ((es.map Bz).drop k) k=if es[k].1.data.toList=m then(if ovl pe p=true then some k else Fj m p ((es.map Bz).drop (k+1)) (k+1))else Fj m p ((es.map Bz).drop (k+1)) (k+1):=by
 rw[<-Ax (by simpa using h),Fj,List.getElem_map];simp only[Bz,hp,Option.getD_some]
theorem c2Q:(prog.info? 179).map (λi=>(i.zero,i.size,i.bytes))=some (some (.agg #[.string ⟨#[]⟩,.string ⟨#[]⟩]),2,32):=by kernel_rfl
theorem b6O{gt B:Nat}{es:List Prm}{v:Value}{m s:By}{w wr w4:World}{gg cap:Nat}{E:Obj}
  (hT:TrAt gt B es v w) (hbr:Bw w wr) (hgrow:(wr.alloc E).grownBy w4 v.ownBlock)
  (hown:w4.ownsRow B 179 2 (.slice (some ⟨gg,0,none⟩) (es.length+1) cap) (es.length+1) (Bg es++[.string m,.string s])) (hat:v.ownBlock=some gg\/gg=(wr.alloc E).heap.size)
  (hB:B<=gt) (hBw:B<=w.heap.size) (hf:es.length<24) (hp:(Bo s.data.toList).isSome=true) :
  TrAt gt B (es++[(m,s)]) (.slice (some ⟨gg,0,none⟩) (es.length+1) cap) (w4.setCell ⟨gt,0,none⟩ (.slice (some ⟨gg,0,none⟩) (es.length+1) cap))/\Below B w (w4.setCell ⟨gt,0,none⟩ (.slice (some ⟨gg,0,none⟩) (es.length+1) cap))/\w4.cell? ⟨gt,0,none⟩=some v/\w4.frozen? ⟨gt,0,none⟩=false/\gt<w4.heap.size:=by
 have hb3:Bw wr (wr.alloc E):=bA _ E;have hbW:=Bc hbr hb3;have T3:=hT.below hbW;have hgl:=hT.lt;have z1:=hbr.size;have z2:=hb3.size;have z3:=hgrow.size;have hgt3:gt<(wr.alloc E).heap.size:=T3.lt;have hne:gg≠gt:=by
  rcases hat with h|h
  ·intro e;rw[e]at h;exact hT.own h
  ·omega
 have hc4:w4.cell? ⟨gt,0,none⟩=some v:=Ez hgrow T3.cel hT.own;have hf4:w4.frozen? ⟨gt,0,none⟩=false:=by
  have e:w4.heap[gt]?=(wr.alloc E).heap[gt]?:=hgrow.block gt hgt3 (λe=>hT.own e.symm);have hf3:=T3.fre;unfold World.frozen? at hf3 ⊢;rw[e];exact hf3
 refine⟨⟨World.cell?_setCell_same _ _ _ hc4,?_,?_,?_,?_,?_⟩,?_,hc4,hf4,by omega⟩
 ·rw[World.frozen?_setCell];exact hf4
 ·rw[A0z,Gh];exact Bv hown (by simp[Value.ownBlock,hne]) 0 _
 ·simp[Value.ownBlock,hne]
 ·rw[A0z];simp;omega
 ·intro e he;rcases List.mem_append.1 he with he|he
  ·exact hT.pat e he
  ·simp at he;rw[he];exact hp
 ·exact((hbW.mono hBw).grown hgrow (by omega) (λk hk=>Bx hT.row k hk)).setCell hB _
theorem b6P(gt B:Nat)(es:List Prm)(v:Value)(m s:By)(w:World)(hT:TrAt gt B es v w)(hms:m.size<=maxLen)(hs:s.size<=4398046511104)(hB:B<=gt)(hBw:B<=w.heap.size):
  Calls prog 35 #[.pointer (some ⟨gt,0,none⟩),.string m,.string s] w (Iw gt B es m s w):=by
 obtain⟨i0,hi,hz0,hz1,hz2⟩:=info_parts c2Q;have HIM:=hid (λW=>Mp m W hms);have HIP:=hid (λW=>a5Z s W hs);have lt0:=hT.lt;have cel:=hT.cel;have hfw:=hT.few;have HT:=hid hT;obtain⟨av,cv,rfl,hen⟩:=b5Q hT.row;have HE:=hid hen;have hR1:Pm.a1x m.data.toList=false->adE m.data.toList s.data.toList (es.map Bz)=(0,1):=λh=>by unfold adE;rw[if_pos h]
 have hR2:Pm.a1x m.data.toList=true->adE m.data.toList s.data.toList (es.map Bz)=match Bo s.data.toList with
  |none=>(0,8)
  |some p=>if 24<=es.length then(0,10)else match Fj m.data.toList p (es.map Bz) 0 with
   |some j=>((j:Nat),9)
   |none=>((es.length:Nat),0):=λh=>by unfold adE;rw[if_neg (by rw[h];simp),A8z];all_goals (cases Bo s.data.toList<;>rfl)
 have HR1:=hid hR1;have HR2:=hid hR2;clear hR1 hR2 hT hen;go_enter func35,ntmps35;go_wp2_with fail;refine(HIM.out _).mono ?_;rintro e w1 ⟨rfl,hw1⟩;have hw2:=hw1.symm;subst hw2;clear hw1 HIM
 cases hmm:Pm.a1x m.data.toList
 ·have HQ:=hid (HR1.out hmm);clear HIP HR1 HR2 hmm;go_wp2;refine Ae (v:=.tuple #[.int .i64 0,.int .i64 1]) (by simp[results,results35,go_sem]) rfl ?_;exact Iw.err HQ.out (by simp) rfl (Ad _ _) hBw
 ·have HR:=hid (HR2.out hmm);clear HR1 HR2 hmm;go_wp2_with fail;refine(HIP.out _).mono ?_;rintro e w2 ⟨rfl,hB2⟩;have cel2:=Aa hB2 cel;have lt2:gt<w2.heap.size:=Af lt0 hB2.size;clear HIP cel
  cases hp:Bo s.data.toList with
  |none=>
   have hR:=HR.out;rw[hp]at hR;have HQ:=hid hR;clear HR hR hp;simp only[Option.isSome_none];go_wp2;refine Ae (v:=.tuple #[.int .i64 0,.int .i64 8]) (by simp[results,results35,go_sem]) rfl ?_;exact Iw.err HQ.out (by simp) rfl hB2 hBw
  |some p=>
   have hR:=HR.out;rw[hp]at hR;simp only at hR;simp only[Option.isSome_some];have HPS:Hid ((Bo s.data.toList).isSome=true):=by unfold Hid;rw[hp];rfl
   have HCM:=hid (λ(u:By) (pe:List (Int×By)) W (hu:Bo u.data.toList=some pe)=>b5R u s pe p W hu hp);clear HR hp;by_cases h24:24<=es.length
   ·rw[if_pos h24]at hR;have HQ:=hid hR;have h24i:(24:Int)<=(es.length:Int):=by omega
    clear hR;go_wp2;refine Ae (v:=.tuple #[.int .i64 0,.int .i64 10]) (by simp[results,results35,go_sem]) rfl ?_;exact Iw.err HQ.out (by simp) rfl hB2 hBw
   ·rw[if_neg h24]at hR;have h24i:¬(24:Int)<=(es.length:Int):=by omega
    generalize hRH:Fj m.data.toList p (es.map Bz) 0=RH at hR;have HQ:=hid hR;have HRH:Hid (Fj m.data.toList p ((es.map Bz).drop 0) 0=RH):=hRH;clear hR hRH;go_wp2_with fail
    go_loopw [10] (λi wr=>∃k:Nat,k<=es.length/\i=.int .i64 k/\Hid (Fj m.data.toList p ((es.map Bz).drop k) k=RH)/\Bw w wr) (λi _=>es.length-(intOf i).toNat)
    case atStart=>exact⟨0,Ah _,rfl,HRH,hB2⟩
    case round=>
     obtain⟨k,hk,rfl,HK,hbw⟩:=hrel;have Tr:=HT.out.below hbw;have cel3:=Tr.cel;have lt3:=Tr.lt;by_cases hlt:k<es.length
     ·obtain⟨g,rfl,hg,hc1,hc2⟩:=(HE.out.below hbw) k hlt;obtain⟨pe,hpe⟩:=Option.isSome_iff_exists.1 (HT.out.pat _ (As hlt));have hst:=HK.out;rw[b1W _ _ _ _ hlt hpe]at hst;have HST:=hid hst;have HC:=hid (HCM.out es[k].2 pe);generalize es[k]=en at *
      obtain⟨em,ep⟩:=en;simp only at hc1 hc2 hpe HST HC;have hbe:=Fi em m;have HPE:=hid hpe;clear hst HK Tr hpe;go_wp2_with fail;refine(HC.out _ HPE.out).mono ?_;rintro e w3 ⟨⟨b,rfl,hem⟩,hb3⟩;have hB3:=Bc hbw hb3;have cel4:=Aa hb3 cel3;have lt4:gt<w3.heap.size:=Af lt3 hb3.size;have hc4:=Aa hb3 hc1;have hg4:g<w3.heap.size:=Af hg hb3.size;by_cases hme:em.data.toList=m.data.toList
      ·have hst:=HST.out;rw[if_pos hme]at hst;rw[Ak hme]at hbe
       cases hov:ovl pe p
       ·rw[hov,if_neg (by simp)]at hst;have HST2:=hid hst;rw[hov]at hem;simp only[Bool.not_false]at hem;clear HST hst HC;go_wp2_with fail;exact⟨⟨k+1,by omega,by go_num,HST2,hB3⟩,by simp[intOf];omega⟩
       ·rw[hov,if_pos rfl]at hst;have HST2:=hid hst;rw[hov]at hem;simp only[F9z]at hem;clear HST hst HC;go_wp2_with fail;refine Ae (v:=.tuple #[.int .i64 k,.int .i64 9]) (by simp[results,results35,go_sem]) rfl ?_;have hq:=HQ.out;rw[<-HST2.out]at hq;exact Iw.err hq (by simp) rfl hB3 hBw
      ·have hst:=HST.out;rw[if_neg hme]at hst;have HST2:=hid hst;rw[Ao hme]at hbe;clear HST hst HC;go_wp2_with fail;exact⟨⟨k+1,by omega,by go_num,HST2,hB3⟩,by simp[intOf];omega⟩
     ·have hke:¬(k:Int)<(es.length:Int):=by omega
      have hst:=HK.out;rw[Az (by simp;omega),Fj]at hst;have hq:=HQ.out;rw[<-hst]at hq;simp only at hq;have HQ2:=hid hq;have ow3:=Tr.row;have fre3:=Tr.fre;have hnown:=Tr.own;have hBr:B<=wr.heap.size:=by have:=hbw.size;omega
      have hk24:es.length<24:=by omega
      clear HK hst hq HQ HCM Tr;go_wp2_with (at_builtin;refine wpList_append_lies _ rfl _ _ 174 rfl B 179 i0 _ 2 32 underlying174 hi hz0 hz1 hz2 rfl (by omega) (.slice av es.length cv) es.length (Bg es) rfl (ow3.alloc _) ⟨wr.heap.size,0,none⟩ 1 1 [.string m,.string s] rfl rfl (World.news_of_block (cs:=#[.string m,.string s]) (t:=179) (fr:=(0,0)) (Ag wr _)) (by simp[Value.oneCell']) (by omega) (by unfold maxLen;omega) (by omega) (by simp;omega) _ rfl ?_);intro gg cap wn hown hgrow hat hltn;obtain⟨r1,r2,r3,r4,r5⟩:=b6O HT.out hbw hgrow hown (hat.imp_right (λh=>by rw[h];simp)) hB hBw hk24 HPS.out;have HR1:=hid r1;have HR2:=hid r2;have r6:=r1.cel;clear r1 r2 hown hgrow;go_wp2_with fail;refine Ae (v:=.tuple #[.int .i64 es.length,.int .i64 0]) (by simp[results,results35,go_sem]) rfl ?_;unfold Iw;rw[HQ2.out];exact⟨rfl,HR2.out,λh=>absurd rfl h,λ_=>⟨_,HR1.out⟩⟩
def Gq(m l:L8)(e:Prm):Option (List Prm):=if e.1.data.toList=m then Cj (Bz e).ps (l.drop 1) true []else none
def Sp(es:List Prm):Prop:=∀i j (hi:i<es.length) (hj:j<es.length),i<j->es[i].1.data.toList=es[j].1.data.toList->ovl (Bz es[i]).ps (Bz es[j]).ps=false
theorem a2L(m l:L8):∀(es:List Prm) (k j:Nat) (hj:j<es.length) (fs:List Prm),Gq m l es[j]=some fs->(∀i (hi:i<es.length),i<j->Gq m l es[i]=none)->Cp m l (es.map Bz) k=(k+j,fs,0)
 |[],k,j,hj,fs,h,h2=>absurd hj (by simp)
 |e::r,k,0,hj,fs,h,h2=>by
  rw[B1z,Cp];simp only[B7z]at h;unfold Gq at h
  split at h
  ·rename_i hm
   have:(Bz e).m.data.toList=m:=hm;rw[if_pos this,h];rfl
  ·cases h
 |e::r,k,j+1,hj,fs,h,h2=>by
  have h0:=h2 0 (by simp) (by omega);simp only[B7z]at h0;have ih:=a2L m l r (k+1) j (by simpa using hj) fs (by simpa using h) (λi hi hij=>by have:=h2 (i+1) (by simpa using hi) (by omega);simpa using this);rw[B1z,Cp];unfold Gq at h0;have e1:(Bz e).m=e.1:=rfl;rw[e1]
  split at h0
  ·rename_i hm
   rw[if_pos hm,h0,ih];simp only[Prod.mk.injEq,and_true];omega
  ·rename_i hm
   rw[if_neg hm,ih];simp only[Prod.mk.injEq,and_true];omega
theorem a2M(m l:L8):∀(es:List Prm) (k:Nat),(∀i (hi:i<es.length),Gq m l es[i]=none)->Cp m l (es.map Bz) k=(0,[],11)
 |[],k,h=>rfl
 |e::r,k,h=>by
  have h0:=h 0 (by simp);simp only[B7z]at h0;have ih:=a2M m l r (k+1) (λi hi=>by have:=h (i+1) (by simpa using hi);simpa using this);rw[B1z,Cp];unfold Gq at h0;have e1:(Bz e).m=e.1:=rfl;rw[e1]
  split at h0
  ·rename_i hm
   rw[if_pos hm,h0,ih]
  ·rename_i hm
   rw[if_neg hm,ih]
theorem b6Q{es:List Prm}(hp:∀e∈es,(Bo e.2.data.toList).isSome=true)(hs:Sp es){m l:L8}(hl:Pm.a1z l=true){i j:Nat}(hi:i<es.length)(hj:j<es.length)(hij:i<j){fs:List Prm}(h:Gq m l es[j]=some fs):Gq m l es[i]=none:=by
 cases h1:Gq m l es[i]with
 |none=>rfl
 |some gs=>
  exfalso;unfold Gq at h h1
  split at h
  ·split at h1
   ·rename_i m1 m2
    obtain⟨pi,hpi⟩:=Option.isSome_iff_exists.1 (hp _ (As hi));obtain⟨pj,hpj⟩:=Option.isSome_iff_exists.1 (hp _ (As hj));have hov:=hs i j hi hj hij (by rw[m1,m2]);have ei:(Bz es[i]).ps=pi:=by unfold Bz;rw[hpi];rfl
    have ej:(Bz es[j]).ps=pj:=by unfold Bz;rw[hpj];rfl
    rw[ei]at h1 hov;rw[ej]at h hov;obtain⟨rfl,a2,a3,a4⟩:=Lf hpi;obtain⟨rfl,b2,b3,b4⟩:=Lf hpj;rw[Th a2.1 hl]at h1;rw[Th b2.1 hl]at h;have:=b9Q (A:=pcs es[i].2.data.toList) (B:=pcs es[j].2.data.toList) hl (by rw[h1];rfl) (by rw[h];rfl);rw[this]at hov
    cases hov
   ·cases h1
  ·cases h
def c2R(F:Nat×List Prm×Int)(w:World)(x:Ending)(w':World):Prop:=
 (∃vv,x=.returned (.tuple #[.int .i64 F.1,vv,.int .i64 F.2.2])/\w'.ownsRow w.heap.size 129 2 vv F.2.1.length (Bg F.2.1))/\Bw w w'
theorem b1X(gt B:Nat)(es:List Prm)(v:Value)(m s:By)(w:World)(hT:TrAt gt B es v w)(hsp:Sp es)(hp:Pm.a1z s.data.toList=true)(hs:s.size<=4398046511104):
  Calls prog 38 #[.pointer (some ⟨gt,0,none⟩),.string m,.string s] w (c2R (Cp m.data.toList s.data.toList (es.map Bz) 0) w):=by
 have HIP:=hid (λW=>Il s W (by unfold maxLen;omega));rw[hp]at HIP;have lt0:=hT.lt;have cel:=hT.cel;have hfw:=hT.few;have HT:=hid hT;obtain⟨av,cv,rfl,hen⟩:=b5Q hT.row;have HE:=hid hen;have HHA:=hid (λ(u:By) (pe:List (Int×By)) W (hu:Bo u.data.toList=some pe)=>c1R u s pe W hu hp hs);have HYES:=hid (λj (hj:j<es.length) fs (h:Gq m.data.toList s.data.toList es[j]=some fs)=>a2L m.data.toList s.data.toList es 0 j hj fs h (λi hi hij=>b6Q hT.pat hsp hp hi hj hij h));have HNO:=hid (λh=>a2M m.data.toList s.data.toList es 0 h);generalize Cp m.data.toList s.data.toList (es.map Bz) 0=FF at *
 clear hT hen hsp;go_enter func38,ntmps38;go_wp2_with fail;refine(HIP.out _).mono ?_;rintro e w1 ⟨rfl,hB1⟩;have cel1:=Aa hB1 cel;have lt1:gt<w1.heap.size:=Af lt0 hB1.size;clear HIP cel;go_wp2_with fail
 go_loopw [10] (λi wr=>∃k:Nat,k<=es.length/\i=.int .i64 ((k:Int)-1)/\Hid (∀j (hj:j<es.length),k<=j->Gq m.data.toList s.data.toList es[j]=none)/\Bw w wr) (λi _=>(intOf i+1).toNat)
 case atStart=>exact⟨es.length,Ac _,rfl,λj hj h=>absurd hj (by omega),hB1⟩
 case round=>
  obtain⟨k,hk,rfl,HK,hbw⟩:=hrel;have Tr:=HT.out.below hbw;have cel3:=Tr.cel;have lt3:=Tr.lt
  cases k with
  |zero=>
   have hn:=HNO.out (λi hi=>HK.out i hi (Ah _));have HN:=hid hn;have hz:((0:Nat):Int)-1=-1:=rfl;rw[hz];clear HK Tr hn HYES HNO;go_wp2_with fail;refine Ae (v:=.tuple #[.int .i64 0,.slice none 0 0,.int .i64 11]) (by simp[results,results38,go_sem]) rfl ?_;rw[HN.out];exact⟨⟨_,rfl,Am _ _ _ _⟩,hbw⟩
  |succ q=>
   have hlt:q<es.length:=by omega
   have hz:((q+1:Nat):Int)-1=(q:Int):=by omega
   rw[hz];have hq0:(0:Int)<=(q:Int):=by omega
   obtain⟨g,rfl,hg,hc1,hc2⟩:=(HE.out.below hbw) q hlt;obtain⟨pe,hpe⟩:=Option.isSome_iff_exists.1 (HT.out.pat _ (As hlt));have hps:(Bz es[q]).ps=pe:=by unfold Bz;rw[hpe];rfl
   have hha:Gq m.data.toList s.data.toList es[q]=if es[q].1.data.toList=m.data.toList then Cj pe (s.data.toList.drop 1) true []else none:=by unfold Gq;rw[hps]
   have HY:=hid (HYES.out q hlt);have HNX:Hid (Gq m.data.toList s.data.toList es[q]=none->∀j (hj:j<es.length),q<=j->Gq m.data.toList s.data.toList es[j]=none):=λh j hj hq=>by
    rcases Nat.eq_or_lt_of_le hq with e|e
    ·subst e;exact h
    ·exact HK.out j hj e
   have HC:=hid (HHA.out es[q].2 pe);rw[hha]at HY HNX;clear hha hps Tr;generalize es[q]=en at *
   obtain⟨em,ep⟩:=en;simp only at hc1 hc2 hpe HY HNX HC;generalize Cj pe (s.data.toList.drop 1) true []=MB at *
   have hbe:=Fi em m;have HPE:=hid hpe;clear hpe HYES HNO HK;go_wp2_with fail;refine(HC.out _ HPE.out).mono ?_;rintro e w3 ⟨hr3,hb3⟩;have hB3:=Bc hbw hb3;have cel4:=Aa hb3 cel3;have lt4:gt<w3.heap.size:=Af lt3 hb3.size;have hc4:=Aa hb3 hc1;have hg4:g<w3.heap.size:=Af hg hb3.size;have hms2:(intOf (Value.int .i64 ((q:Int)-1))+1).toNat<(intOf (Value.int .i64 (q:Int))+1).toNat:=by simp[intOf]
   clear HC
   cases MB with
   |none=>
    obtain rfl:=hr3;have HN:=hid (HNX.out (by split<;>rfl));clear HNX HY;go_wp2_with fail;exact⟨⟨q,by omega,rfl,HN,hB3⟩,hms2⟩
   |some fs=>
    obtain⟨vv,rfl,ow⟩:=hr3;by_cases hme:em.data.toList=m.data.toList
    ·have hy:=HY.out fs (if_pos hme);have HYY:=hid hy;rw[Ak hme]at hbe;have HO:=hid (Bt ow (show w.heap.size<=wr.heap.size from hbw.size));clear ow HY HNX hy;go_wp2_with fail;refine Ae (v:=.tuple #[.int .i64 q,vv,.int .i64 0]) (by simp[results,results38,go_sem]) rfl ?_;rw[HYY.out];exact⟨⟨_,by simp,HO.out⟩,hB3⟩
    ·have HN:=hid (HNX.out (if_neg hme));rw[Ao hme]at hbe;clear ow HY HNX;go_wp2_with fail;exact⟨⟨q,by omega,rfl,HN,hB3⟩,hms2⟩
def Kn(s:L8):List (List UInt8)->List (List UInt8)
 |[]=>[s]
 |x::r=>if s<x then s::x::r else x::Kn s r
theorem Wg{s:L8}:∀(A B:List (List UInt8)),(∃x∈A,s<x)->Kn s (A++B)=Kn s A++B
 |[],B,h=>by obtain⟨x,hx,_⟩:=h;simp at hx
 |a::A,B,h=>by
  rw[B3z,Kn,Kn];by_cases ha:s<a
  ·rw[if_pos ha,if_pos ha];rfl
  ·rw[if_neg ha,if_neg ha];obtain⟨x,hx,hs⟩:=h;rcases List.mem_cons.1 hx with rfl|hx
   ·exact absurd hs ha
   ·rw[Wg A B ⟨x,hx,hs⟩];rfl
theorem Ua{s:L8}:∀(A B:List (List UInt8)),(∀x∈A,¬s<x)->Kn s (A++B)=A++Kn s B
 |[],B,h=>rfl
 |a::A,B,h=>by
  rw[B3z,Kn,if_neg (h a (by simp)),Ua A B (λx hx=>h x (by simp[hx]))];rfl
theorem Hr(s:L8):∀(r:List (List UInt8)),(Kn s r).Perm (r++[s])
 |[]=>.refl _
 |x::r=>by
  rw[Kn]
  split
  ·exact(List.perm_append_comm (l₁:=[s]) (l₂:=x::r))
  ·exact(Hr s r).cons x
theorem Pn(s:L8):∀(r:List (List UInt8)),r.Pairwise (λx y=>¬y<x)->(Kn s r).Pairwise (λx y=>¬y<x)
 |[],_=>by simp[Kn]
 |x::r,hp=>by
  obtain⟨h1,h2⟩:=List.pairwise_cons.1 hp;rw[Kn]
  split
  ·rename_i hx
   refine List.pairwise_cons.2 ⟨λy hy hlt=>?_,hp⟩;rcases List.mem_cons.1 hy with e|e
   ·rw[e]at hlt;exact List.lt_irrefl _ (List.lt_trans hx hlt)
   ·exact h1 y e (List.lt_trans hlt hx)
  ·rename_i hx
   refine List.pairwise_cons.2 ⟨λy hy hlt=>?_,Pn s r h2⟩;have hm:=(Hr s r).mem_iff.1 hy;rcases List.mem_append.1 hm with e|e
   ·exact h1 y e hlt
   ·have:y=s:=by simpa using e
    rw[this]at hlt;exact hx hlt
theorem a6W(l:List (List UInt8)):(srt l).Pairwise (λx y=>¬y<x):=by
 have:=List.pairwise_mergeSort (le:=λx y:L8=>decide (x<=y)) (λa b c h1 h2=>by
  rw[decide_eq_true_iff]at *;exact List.le_trans h1 h2) (λa b=>by
  rw[Bool.or_eq_true,decide_eq_true_iff,decide_eq_true_iff];exact List.le_total a b) l
 exact this.imp (λh=>List.not_lt.2 (of_decide_eq_true h))
theorem a2N{l m:List (List UInt8)}(h:m.Pairwise (λx y=>¬y<x))(hp:m.Perm l):srt l=m:=by
 refine List.Perm.eq_of_pairwise (le:=λx y=>¬y<x) (λa b _ _ h1 h2=>?_) (a6W l) h ((List.mergeSort_perm l _).trans hp.symm);exact List.le_antisymm (List.not_lt.1 h1) (List.not_lt.1 h2)
theorem c0D(l:List (List UInt8))(s:L8):Kn s (srt l)=srt (l++[s]):=
 (a2N (Pn s _ (a6W l)) ((Hr s _).trans ((List.mergeSort_perm l _).append_right [s]))).symm
def Ea(L:List (List UInt8))(s:L8):List (List UInt8):=if s∈L then L else Kn s L
def SoI(L:List (List UInt8))(s:L8)(k:Nat)(b:Bool)(out:List (List UInt8)):Prop:=
 s∉L.take k/\(b=true->(∃x∈L.take k,s<x)/\out=Kn s (L.take k))/\(b=false->(∀x∈L.take k,¬s<x)/\out=L.take k)
theorem Hl{L:List (List UInt8)}{k:Nat}(h:k<L.length):L.take (k+1)=L.take k++[L[k]]:=A4z h
theorem SoI.mem{L:List (List UInt8)}{s:L8}{k:Nat}{b:Bool}{out:List (List UInt8)}(h:SoI L s k b out)(hk:k<L.length)(hn:L[k]≠s):s∉L.take (k+1):=by
 rw[Hl hk,D3z];rintro(q|q)
 ·exact h.1 q
 ·have e:s=L[k]:=by simpa using q
  exact hn e.symm
theorem SoI.on{L:List (List UInt8)}{s:L8}{k:Nat}{out:List (List UInt8)}(h:SoI L s k true out)(hk:k<L.length)(hn:L[k]≠s):SoI L s (k+1) true (out++[L[k]]):=by
 obtain⟨⟨x,hx,hs⟩,e⟩:=h.2.1 rfl;refine⟨h.mem hk hn,λ_=>⟨⟨x,by rw[Hl hk];exact List.mem_append.2 (.inl hx),hs⟩,?_⟩,λq=>by cases q⟩;rw[Hl hk,Wg _ _ ⟨x,hx,hs⟩,e]
theorem SoI.now{L:List (List UInt8)}{s:L8}{k:Nat}{out:List (List UInt8)}(h:SoI L s k false out)(hk:k<L.length)(hn:L[k]≠s)(hl:s<L[k]):SoI L s (k+1) true ((out++[s])++[L[k]]):=by
 obtain⟨ha,e⟩:=h.2.2 rfl;refine⟨h.mem hk hn,λ_=>⟨⟨L[k],by rw[Hl hk];exact List.mem_append.2 (.inr (by simp)),hl⟩,?_⟩,λq=>by cases q⟩;rw[Hl hk,Ua _ _ ha,e,Kn,if_pos hl];simp
theorem SoI.not{L:List (List UInt8)}{s:L8}{k:Nat}{out:List (List UInt8)}(h:SoI L s k false out)(hk:k<L.length)(hn:L[k]≠s)(hl:¬s<L[k]):SoI L s (k+1) false (out++[L[k]]):=by
 obtain⟨ha,e⟩:=h.2.2 rfl;refine⟨h.mem hk hn,(λq=>by cases q),λ_=>⟨λx hx=>?_,by rw[Hl hk,e]⟩⟩;rw[Hl hk,D3z]at hx;rcases hx with hx|hx
 ·exact ha x hx
 ·have:x=L[k]:=by simpa using hx
  rw[this];exact hl
theorem SoI.fin{L:List (List UInt8)}{s:L8}{k:Nat}{b:Bool}{out:List (List UInt8)}(h:SoI L s k b out)(hk:L.length<=k):Ea L s=if b=true then out else out++[s]:=by
 have hL:L.take k=L:=Aq hk;unfold Ea;obtain⟨h1,h2,h3⟩:=h;rw[hL]at h1 h2 h3;rw[if_neg h1]
 cases b
 ·obtain⟨q1,q2⟩:=h3 rfl;have:=Ua L [] q1;rw[D9z]at this;simp[this,q2,Kn]
 ·rw[if_pos rfl,(h2 rfl).2]
theorem Jk(l:List (List UInt8))(b:By):Gn (l++[b.data.toList])=Gn l++[.string b]:=by
 unfold Gn;rw[B2z];rfl
theorem c2S:(prog.info? 9).map (λi=>(i.zero,i.size,i.bytes))=some (some (.string ⟨#[]⟩),1,16):=by kernel_rfl
theorem Qs(v:Value)(L:List (List UInt8))(s:By)(B:Nat)(w:World)(h:w.ownsRow B 9 1 v L.length (Gn L))(hB:B<=w.heap.size)(hl:L.length<=100):
  Calls prog 110 #[v,.string s] w λx w'=>(∃vv,x=.returned vv/\w'.ownsRow B 9 1 vv (Ea L s.data.toList).length (Gn (Ea L s.data.toList)))/\Bw w w':=by
 obtain⟨i0,hi,hz0,hz1,hz2⟩:=info_parts c2S;obtain⟨a,c,rfl⟩:=Ce h;have HO:=hid h;clear h;go_enter func110,ntmps110;go_wp2
 go_loopw [5,6,7] (λo d i wr=>∃(k:Nat) (b:Bool) (out:List (List UInt8)),k<=L.length/\i=.int .i64 k/\d=.bool b/\out.length<=2*k+1/\wr.ownsRow w.heap.size 9 1 o out.length (Gn out)/\Hid (SoI L s.data.toList k b out)/\Bw w wr) (λ_ _ i _=>L.length-(intOf i).toNat)
 case atStart=>exact⟨0,false,[],Ah _,rfl,rfl,by simp,Am _ _ _ _,⟨by simp,(λq=>by cases q),λ_=>⟨λx hx=>absurd hx (by simp),rfl⟩⟩,Ad _ _⟩
 case round=>
  obtain⟨k,b,out,hk,rfl,rfl,hol,ow,HK,hbw⟩:=hrel;by_cases hlt:k<L.length
  ·rcases Kz HO.out with⟨-,hl0⟩|⟨g,cap,hv,hg0,hc,hce⟩
   ·rw[hl0]at hlt;simp at hlt
   ·have hck0:=hce k hlt
    cases hv
    have hbx:(⟨L[k].toArray⟩:By).data.toList=L[k]:=by simp
    have HMEM:Hid (L[k]=s.data.toList->Ea L s.data.toList=L):=λe=>if_pos (by rw[<-e];exact As hlt);have HON:=hid (λ(e:b=true) hn=>SoI.on (k:=k) (by rw[<-e];exact HK.out) hlt hn);have HNOW:=hid (λ(e:b=false) hn hl=>SoI.now (k:=k) (by rw[<-e];exact HK.out) hlt hn hl);have HNOT:=hid (λ(e:b=false) hn hl=>SoI.not (k:=k) (by rw[<-e];exact HK.out) hlt hn hl);generalize L[k]=x at *
    generalize (⟨x.toArray⟩:By)=bx at *
    subst hbx;have hck:=Aa hbw hck0;have hzw:=hbw.size;have hg:g<wr.heap.size:=Af hg0 hbw.size;have hbe:=Fi bx s;have hbl0:Op.bytesLess bx.toList s.toList=decide (bx.data.toList<s.data.toList):=by rw[bytesLess_eq,A1z,A1z]
    have HCK:=hid hck0;clear hce HK hck0;by_cases he:bx.data.toList=s.data.toList
    ·have HR:=hid (HMEM.out he);rw[Ak he]at hbe;clear HMEM HON HNOW HNOT;go_wp2_with fail;go_ret;rw[HR.out];exact⟨⟨_,rfl,Be HO.out hbw⟩,hbw⟩
    ·rw[Ao he]at hbe;clear HMEM;have hms:L.length-(intOf (Value.int .i64 ((k:Int)+1))).toNat<L.length-(intOf (Value.int .i64 (k:Int))).toNat:=by simp[intOf];omega
     cases b
     ·by_cases hlx:s.data.toList<bx.data.toList
      ·have HN:=hid (HNOW.out rfl he hlx);have hbl:Op.bytesLess bx.toList s.toList=false:=by rw[hbl0];exact Ao (λq=>List.lt_irrefl _ (List.lt_trans q hlx))
       clear HON HNOW HNOT hbl0;go_wp2_with (at_builtin;refine wpList_append_own _ rfl _ _ 99 rfl w.heap.size 9 i0 (.string ⟨#[]⟩) 1 16 underlying99 hi hz0 hz1 hz2 rfl (by decide) _ _ _ rfl (ow.alloc _) ⟨wr.heap.size,0,none⟩ 1 1 [.string s] rfl rfl (World.news_of_block (cs:=#[.string s]) (t:=9) (fr:=(0,0)) (Ag wr _)) (by simp[Value.oneCell']) (by unfold maxLen;omega) (by omega) (by simp;omega) ?_);intro v1 w3 hown3 hgrow _;have hb3:Bw w w3:=(hbw.alloc hbw.size _).grown hgrow (by simp;omega) (Bx ow);have hck3:=Aa hb3 HCK.out;have hg3:g<w3.heap.size:=Af hg0 hb3.size;have hz3:=hb3.size;clear hgrow ow hck hg;go_wp2_with (at_builtin;refine wpList_append_own _ rfl _ _ 99 rfl w.heap.size 9 i0 (.string ⟨#[]⟩) 1 16 underlying99 hi hz0 hz1 hz2 rfl (by decide) _ _ _ rfl (hown3.alloc _) ⟨w3.heap.size,0,none⟩ 1 1 [.string bx] rfl rfl (World.news_of_block (cs:=#[.string bx]) (t:=9) (fr:=(0,0)) (Ag w3 _)) (by simp[Value.oneCell']) (by unfold maxLen;omega) (by omega) (by simp;omega) ?_);intro v2 w4 hown4 hgrow _;have hb4:Bw w w4:=(hb3.alloc hb3.size _).grown hgrow (by simp;omega) (Bx hown3);clear hgrow hown3;go_wp2_with fail;refine⟨⟨k+1,true,out++[s.data.toList]++[bx.data.toList],by omega,by go_num,rfl,by simp;omega,?_,HN,hb4⟩,hms⟩;rw[Jk,Jk];simpa using hown4
      ·have hlt2:bx.data.toList<s.data.toList:=Classical.byContradiction (λz=>he (List.le_antisymm (List.not_lt.1 hlx) (List.not_lt.1 z)));have HN:=hid (HNOT.out rfl he hlx);have hbl:Op.bytesLess bx.toList s.toList=true:=by rw[hbl0];exact Ak hlt2
       clear HON HNOW HNOT hbl0;go_wp2_with (at_builtin;refine wpList_append_own _ rfl _ _ 99 rfl w.heap.size 9 i0 (.string ⟨#[]⟩) 1 16 underlying99 hi hz0 hz1 hz2 rfl (by decide) _ _ _ rfl (ow.alloc _) ⟨wr.heap.size,0,none⟩ 1 1 [.string bx] rfl rfl (World.news_of_block (cs:=#[.string bx]) (t:=9) (fr:=(0,0)) (Ag wr _)) (by simp[Value.oneCell']) (by unfold maxLen;omega) (by omega) (by simp;omega) ?_);intro v1 w3 hown3 hgrow _;have hb3:Bw w w3:=(hbw.alloc hbw.size _).grown hgrow (by simp;omega) (Bx ow);clear hgrow ow;go_wp2_with fail;refine⟨⟨k+1,false,out++[bx.data.toList],by omega,by go_num,rfl,by simp;omega,?_,HN,hb3⟩,hms⟩;rw[Jk];simpa using hown3
     ·have HN:=hid (HON.out rfl he);clear HON HNOW HNOT hbl0;go_wp2_with (at_builtin;refine wpList_append_own _ rfl _ _ 99 rfl w.heap.size 9 i0 (.string ⟨#[]⟩) 1 16 underlying99 hi hz0 hz1 hz2 rfl (by decide) _ _ _ rfl (ow.alloc _) ⟨wr.heap.size,0,none⟩ 1 1 [.string bx] rfl rfl (World.news_of_block (cs:=#[.string bx]) (t:=9) (fr:=(0,0)) (Ag wr _)) (by simp[Value.oneCell']) (by unfold maxLen;omega) (by omega) (by simp;omega) ?_);intro v1 w3 hown3 hgrow _;have hb3:Bw w w3:=(hbw.alloc hbw.size _).grown hgrow (by simp;omega) (Bx ow);clear hgrow ow;go_wp2_with fail;refine⟨⟨k+1,true,out++[bx.data.toList],by omega,by go_num,rfl,by simp;omega,?_,HN,hb3⟩,hms⟩;rw[Jk];simpa using hown3
  ·have hke:¬(k:Int)<(L.length:Int):=by omega
   have hf:=HK.out.fin (by omega);have HF:=hid hf;have hzw:=hbw.size;clear HK hf
   cases b
   ·simp only[C6z,if_false]at HF;go_wp2_with (at_builtin;refine wpList_append_own _ rfl _ _ 99 rfl w.heap.size 9 i0 (.string ⟨#[]⟩) 1 16 underlying99 hi hz0 hz1 hz2 rfl (by decide) _ _ _ rfl (ow.alloc _) ⟨wr.heap.size,0,none⟩ 1 1 [.string s] rfl rfl (World.news_of_block (cs:=#[.string s]) (t:=9) (fr:=(0,0)) (Ag wr _)) (by simp[Value.oneCell']) (by unfold maxLen;omega) (by omega) (by simp;omega) ?_);intro v1 w3 hown3 hgrow _;have hb3:Bw w w3:=(hbw.alloc hbw.size _).grown hgrow (by simp;omega) (Bx ow);have HO3:=hid (Bt hown3 hB);clear hgrow ow hown3;go_wp2_with fail;go_ret;rw[HF.out];refine⟨⟨_,rfl,?_⟩,hb3⟩;rw[Jk];simpa using HO3.out
   ·simp only[if_true]at HF;have HO3:=hid (Bt ow hB);clear ow;go_wp2_with fail;go_ret;rw[HF.out];exact⟨⟨_,rfl,HO3.out⟩,hbw⟩
end Go.Proofs.YtbiggccolpchcaaGreatDoor
