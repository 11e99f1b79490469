/- Joined. -/
import Derived.Test.YtbiggccolpchcaaGreatDoorJoin30
set_option maxRecDepth 100000
set_option maxHeartbeats 4000000
namespace Go.Proofs.YtbiggccolpchcaaGreatDoor
open Go.RowKit _root_.Go.Proofs.Tryz
theorem a9H{m l:L8}{e:Prm}(hm:e.1.data.toList=m):Gq m l e=Cj (Bz e).ps (l.drop 1) true []:=if_pos hm
theorem b1Y{es:List Prm}(hp:∀e∈es,(Bo e.2.data.toList).isSome=true)(hs:Sp es){l:L8}(hl:Pm.a1z l=true)(k:Nat)(h:k<es.length):Cu l ((es.take (k+1)).map Bz)=if(Cj (Bz es[k]).ps (l.drop 1) true []).isSome=true then Ea (Cu l ((es.take k).map Bz)) es[k].1.data.toList else Cu l ((es.take k).map Bz):=by
 have hk:k<(es.map Bz).length:=by simpa using h
 have h1:=Sq l (es.map Bz) k hk;rw[<-List.map_take,<-List.map_take,List.getElem_map]at h1;unfold Cu;rw[h1];by_cases hm:(Cj (Bz es[k]).ps (l.drop 1) true []).isSome=true
 ·rw[if_pos hm,if_pos hm,B2z];have hno:es[k].1.data.toList∉srt ((Gb l ((es.take k).map Bz)).map λb=>b.data.toList):=λhin=>by
   unfold srt at hin;rw[List.mem_mergeSort,E5z]at hin;obtain⟨b,hb,he⟩:=hin;unfold Gb at hb;rw[E5z]at hb;obtain⟨e,he1,rfl⟩:=hb;obtain⟨he2,he3⟩:=List.mem_filter.1 he1;obtain⟨e0,he4,rfl⟩:=List.mem_map.1 he2;obtain⟨i,hi,rfl⟩:=List.getElem_of_mem he4;have hi2:i<k/\i<es.length:=by rw[B0z]at hi;omega
   rw[List.getElem_take]at he he3;have em:es[i].1.data.toList=es[k].1.data.toList:=he;obtain⟨fs,hfs⟩:=Option.isSome_iff_exists.1 hm;have hk2:Gq es[k].1.data.toList l es[k]=some fs:=by rw[a9H rfl];exact hfs
   have:=b6Q hp hs hl hi2.2 h hi2.1 hk2;rw[a9H em]at this;rw[this]at he3
   cases he3
  unfold Ea;rw[if_neg hno,c0D];rfl
 ·rw[if_neg hm,if_neg hm,D9z]
theorem Yk(gt B:Nat)(es:List Prm)(v:Value)(s:By)(w:World)(hT:TrAt gt B es v w)(hsp:Sp es)(hp:Pm.a1z s.data.toList=true)(hs:s.size<=4398046511104):
  Calls prog 42 #[.pointer (some ⟨gt,0,none⟩),.string s] w λr w'=>(∃vv,r=.returned vv/\w'.ownsRow w.heap.size 9 1 vv (Cu s.data.toList (es.map Bz)).length (Gn (Cu s.data.toList (es.map Bz))))/\Bw w w':=by
 have HIP:=hid (λW=>Il s W (by unfold maxLen;omega));rw[hp]at HIP;have lt0:=hT.lt;have cel:=hT.cel;have hfw:=hT.few;have HT:=hid hT;obtain⟨av,cv,rfl,hen⟩:=b5Q hT.row;have HE:=hid hen;have HHA:=hid (λ(u:By) (pe:List (Int×By)) W (hu:Bo u.data.toList=some pe)=>c1R u s pe W hu hp hs);have HST:=hid (λk (h:k<es.length)=>b1Y hT.pat hsp hp k h);have HLN:Hid (∀k,(Cu s.data.toList ((es.take k).map Bz)).length<=es.length):=λk=>by
  rw[Pg];have h1:=Lz s.data.toList (es.map Bz) k;rw[<-List.map_take]at h1;rw[A8z,B0z]at h1;omega
 clear hT hen hsp;go_enter func42,ntmps42;go_wp2_with fail;refine(HIP.out _).mono ?_;rintro e w1 ⟨rfl,hB1⟩;clear HIP cel;go_wp2_with fail
 go_loopw [6,7] (λo i wr=>∃k:Nat,k<=es.length/\i=.int .i64 k/\wr.ownsRow w.heap.size 9 1 o (Cu s.data.toList ((es.take k).map Bz)).length (Gn (Cu s.data.toList ((es.take k).map Bz)))/\Bw w wr) (λ_ i _=>es.length-(intOf i).toNat)
 case atStart=>exact⟨0,Ah _,rfl,by
  have e:Cu s.data.toList ((es.take 0).map Bz)=[]:=Ay (by rw[Pg];rfl);rw[e];exact Am _ _ _ _,hB1⟩
 case round=>
  obtain⟨k,hk,rfl,ow,hbw⟩:=hrel;have Tr:=HT.out.below hbw;have cel3:=Tr.cel;have lt3:=Tr.lt;by_cases hlt:k<es.length
  ·obtain⟨g,rfl,hg,hc1,hc2⟩:=(HE.out.below hbw) k hlt;obtain⟨pe,hpe⟩:=Option.isSome_iff_exists.1 (HT.out.pat _ (As hlt));have hps:(Bz es[k]).ps=pe:=by unfold Bz;rw[hpe];rfl
   have hs1:=HST.out k hlt;rw[hps]at hs1;have HS1:=hid hs1;have HC:=hid (HHA.out es[k].2 pe);have hln:=HLN.out k;generalize es[k]=en at *
   obtain⟨em,ep⟩:=en;simp only at hc1 hc2 hpe HS1 HC;generalize hM2:Cu s.data.toList ((es.take (k+1)).map Bz)=M2 at *
   generalize Cu s.data.toList ((es.take k).map Bz)=M1 at *
   generalize Cj pe (s.data.toList.drop 1) true []=MB at *
   have HPE:=hid hpe;clear hpe hs1 hps Tr;go_wp2_with fail;refine(HC.out _ HPE.out).mono ?_;rintro e w3 ⟨hr3,hb3⟩;have hB3:=Bc hbw hb3;have cel4:=Aa hb3 cel3;have lt4:gt<w3.heap.size:=Af lt3 hb3.size;have hc4:=Aa hb3 hc1;have hg4:g<w3.heap.size:=Af hg hb3.size;have ow3:=Be ow hb3;clear HC ow
   cases MB with
   |none=>
    obtain rfl:=hr3;have hm2:M2=M1:=HS1.out;subst hm2;clear HS1;go_wp2_with fail;exact⟨⟨k+1,by omega,by go_num,by rw[hM2];exact ow3,hB3⟩,by simp[intOf];omega⟩
   |some fs=>
    obtain⟨vv,rfl,-⟩:=hr3;have hm2:M2=Ea M1 em.data.toList:=HS1.out;have HSO:=hid (Qs _ M1 em w.heap.size w3 ow3 hB3.size (by omega));rw[<-hm2]at HSO;clear HS1 ow3 hm2;go_wp2_with fail;refine HSO.out.mono ?_;rintro e w4 ⟨⟨v4,rfl,ow4⟩,hb4⟩;have hB4:=Bc hB3 hb4;go_wp2_with fail;exact⟨⟨k+1,by omega,by go_num,by rw[hM2];exact ow4,hB4⟩,by simp[intOf];omega⟩
  ·have hke:¬(k:Int)<(es.length:Int):=by omega
   have hkt:es.take k=es:=Aq (by omega);rw[hkt]at ow;have HOW:=hid ow;clear ow Tr;go_wp2_with fail;go_ret;exact⟨⟨_,rfl,HOW.out⟩,hbw⟩
theorem b6R(gt:Nat)(m s:By)(w:World)(hp:Pm.a1z s.data.toList=false)(hs:s.size<=4398046511104):
  Calls prog 38 #[.pointer (some ⟨gt,0,none⟩),.string m,.string s] w λr w'=>r=.returned (.tuple #[.int .i64 0,.slice none 0 0,.int .i64 3])/\Bw w w':=by
 have HIP:=hid (λW=>Il s W (by unfold maxLen;omega));rw[hp]at HIP;go_enter func38,ntmps38;go_wp2_with fail;refine(HIP.out _).mono ?_;rintro e w1 ⟨rfl,hb1⟩;go_wp2_with fail;refine Ae (v:=.tuple #[.int .i64 0,.slice none 0 0,.int .i64 3]) (by simp[results,results38,go_sem]) rfl ?_;exact⟨rfl,hb1⟩
def rlG(m l:L8)(es:List Ent):Int×List Prm:=if Pm.a1z l=true/\(Cv m l es).2.2=0 then((Cv m l es).1,(Cv m l es).2.1)else(-1,[])
def b6S(F:Int×List Prm)(w:World)(x:Ending)(w':World):Prop:=
 (∃vv,x=.returned (.tuple #[.int .i64 F.1,vv])/\w'.ownsRow w.heap.size 129 2 vv F.2.length (Bg F.2))/\Bw w w'
theorem a6X(gt B:Nat)(es:List Prm)(v:Value)(m s:By)(w:World)(hT:TrAt gt B es v w)(hsp:Sp es)(hs:s.size<=4398046511104):
  Calls prog 208 #[.pointer (some ⟨gt,0,none⟩),.string m,.string s] w (b6S (rlG m.data.toList s.data.toList (es.map Bz)) w):=by
 have lt0:=hT.lt;have hbe:=Nq m;have hsl:s.data.toList.length=s.size:=by simp
 cases hp:Pm.a1z s.data.toList
 ·have HF:=hid (λ(m':By) W=>b6R gt m' s W hp hs);have hR:rlG m.data.toList s.data.toList (es.map Bz)=(-1,[]):=if_neg (λh=>by rw[hp]at h;simp at h);rw[hR];clear hT hR hp;go_enter func208,ntmps208;go_wp2_with fail;refine(HF.out _ _).mono ?_;rintro x w1 ⟨rfl,hb1⟩;by_cases hh:m.data.toList=hdL
  ·rw[Ak hh]at hbe;go_wp2_with fail;refine(HF.out _ _).mono ?_;rintro x w2 ⟨rfl,hb2⟩;have hB:=Bc hb1 hb2;go_wp2_with fail;refine Ae (v:=.tuple #[.int .i64 (-1),.slice none 0 0]) (by simp[results,results208,go_sem]) rfl ?_;exact⟨⟨_,rfl,Am _ _ _ _⟩,hB⟩
  ·rw[Ao hh]at hbe;go_wp2_with fail;refine Ae (v:=.tuple #[.int .i64 (-1),.slice none 0 0]) (by simp[results,results208,go_sem]) rfl ?_;exact⟨⟨_,rfl,Am _ _ _ _⟩,hb1⟩
 ·have h1:1<=s.size:=by
   unfold Pm.a1z at hp;rw[A3z]at hp;rcases Nat.eq_zero_or_pos s.size with q|q
   ·have:s.data.toList=[]:=Ay (by omega);rw[this]at hp;exact absurd hp.2 (by decide)
   ·exact q
  have HF:=hid (λ(m':By) W (hW:Bw w W)=>b1X gt B es v m' s W (hT.below hW) hsp hp hs);have hR:rlG m.data.toList s.data.toList (es.map Bz)=if(Cv m.data.toList s.data.toList (es.map Bz)).2.2=0 then(((Cv m.data.toList s.data.toList (es.map Bz)).1:Int),(Cv m.data.toList s.data.toList (es.map Bz)).2.1)else(-1,[]):=by
   unfold rlG;simp only[hp,true_and]
  have hL:Cv m.data.toList s.data.toList (es.map Bz)=if(Cp m.data.toList s.data.toList (es.map Bz) 0).2.2≠0/\m.data.toList=hdL then Cp gtL s.data.toList (es.map Bz) 0 else Cp m.data.toList s.data.toList (es.map Bz) 0:=rfl
  have hgl:(⟨#[71,69,84]⟩:By).data.toList=gtL:=rfl;generalize rlG m.data.toList s.data.toList (es.map Bz)=RR at *
  generalize Cv m.data.toList s.data.toList (es.map Bz)=LG at *
  have HF1:=hid (HF.out m);have HF2:=hid (HF.out ⟨#[71,69,84]⟩);rw[hgl]at HF2;generalize Cp m.data.toList s.data.toList (es.map Bz) 0=FF at *
  generalize Cp gtL s.data.toList (es.map Bz) 0=GG at *
  have HRR:=hid hR;have HLL:=hid hL;clear hT hR hL hp HF hgl;go_enter func208,ntmps208;go_wp2_with fail;refine(HF1.out _ (Ad _ _)).mono ?_;rintro x w1 ⟨⟨vv,rfl,ow⟩,hb1⟩;have HO:=hid ow;clear ow HF1;by_cases q:FF.2.2=0
  ·have hR:=HRR.out;have hLF:LG=FF:=by rw[HLL.out,if_neg (λh=>h.1 q)]
   rw[hLF,if_pos q]at hR;subst hR;have hq:(FF.2.2 != 0)=false:=by rw[q];rfl
   clear HRR HLL HF2 hLF;go_wp2_with fail;refine Ae (v:=.tuple #[.int .i64 FF.1,vv]) (by simp[results,results208,go_sem]) rfl ?_;exact⟨⟨_,rfl,HO.out⟩,hb1⟩
  ·have hq:(FF.2.2 != 0)=true:=by simpa using q
   by_cases hh:m.data.toList=hdL
   ·rw[Ak hh]at hbe;have hR:=HRR.out;have hLF:LG=GG:=by rw[HLL.out,if_pos ⟨q,hh⟩]
    rw[hLF]at hR;have HR2:=hid hR;clear HRR HLL HO hLF hR;go_wp2_with fail;refine(HF2.out _ hb1).mono ?_;rintro x w2 ⟨⟨vg,rfl,og⟩,hb2⟩;have hB:=Bc hb1 hb2;have HO2:=hid (Bt og hb1.size);have hR:=HR2.out;clear og HF2 HR2;by_cases q2:GG.2.2=0
    ·rw[if_pos q2]at hR;subst hR;have hq2:(GG.2.2 != 0)=false:=by rw[q2];rfl
     go_wp2_with fail;refine Ae (v:=.tuple #[.int .i64 GG.1,vg]) (by simp[results,results208,go_sem]) rfl ?_;exact⟨⟨_,rfl,HO2.out⟩,hB⟩
    ·rw[if_neg q2]at hR;subst hR;have hq2:(GG.2.2 != 0)=true:=by simpa using q2
     go_wp2_with fail;refine Ae (v:=.tuple #[.int .i64 (-1),.slice none 0 0]) (by simp[results,results208,go_sem]) rfl ?_;exact⟨⟨_,rfl,Am _ _ _ _⟩,hB⟩
   ·rw[Ao hh]at hbe;have hR:=HRR.out;have hLF:LG=FF:=by rw[HLL.out,if_neg (λh=>hh h.2)]
    rw[hLF,if_neg q]at hR;subst hR;clear HRR HLL HF2 hLF;go_wp2_with fail;refine Ae (v:=.tuple #[.int .i64 (-1),.slice none 0 0]) (by simp[results,results208,go_sem]) rfl ?_;exact⟨⟨_,rfl,Am _ _ _ _⟩,hb1⟩
theorem a6Y(s:By)(w:World)(hs:s.size<=140737488355328):
  Calls prog 209 #[.string s] w λx w'=>(∃o:By,x=.returned (.string o)/\o.data.toList=Ck s.data.toList)/\Bw w w':=by
 have hsl:s.data.toList.length=s.size:=by simp
 by_cases h0:s.data.toList=[]
 ·have hz:s.size=0:=by rw[<-hsl,h0];rfl
  have hi:¬(0:Int)<(s.size:Int):=by omega
  have HT:Hid ((s++(⟨#[47]⟩:By)).data.toList=Ck s.data.toList):=by
   unfold Hid;rw[h0];simp[h0,Ck,Lib.hasSuffix]
  clear h0;go_enter func209,ntmps209;go_wp2;go_ret;exact⟨⟨_,rfl,HT.out⟩,Ad _ _⟩
 ·have hz:1<=s.size:=by
   have:=List.length_pos_iff.2 h0;omega
  have hi:(0:Int)<(s.size:Int):=by omega
  obtain⟨n,hn⟩:∃n,s.size=n+1:=⟨s.size-1,by omega⟩;have hc:(s.size:Int)-1=(n:Int):=by omega
  have hlt:n<s.size:=by omega
  have hget:s.data.toList[n]?=some s[n]:=by rw[Av (by omega)];rfl
  have hsf:Lib.hasSuffix s.data.toList [47]=decide (s[n]=47):=by
   unfold Lib.hasSuffix;rw[B9z,List.isSuffixOf_iff_suffix,decide_eq_true_iff];constructor
   ·rintro⟨r,hr⟩;have hrl:r.length=n:=by have:=congrArg List.length hr;simp at this;omega
    rw[<-hr,F1z (by omega),hrl]at hget;simpa using hget.symm
   ·intro h;refine⟨s.data.toList.take n,?_⟩;have e:s.data.toList=s.data.toList.take n++s.data.toList.drop n:=(E4z n _).symm;have e2:s.data.toList.drop n=[47]:=by
     rw[F3z (by omega),Az (by omega)];have:s.data.toList[n]'(by omega)=s[n]:=rfl;rw[this,h]
    rw[e2]at e;exact e.symm
  by_cases he:s[n]=47
  ·have he2:((s[n].toNat:Int)==47)=true:=by rw[he];decide
   rw[Ak he]at hsf;have HT:Hid ((s.extract 0 n).data.toList=Ck s.data.toList):=by
    unfold Hid Ck;rw[if_pos hsf,Lib.extract_data,hsl,hn];simp
   clear he hget hsf h0;go_enter func209,ntmps209;go_wp2;go_ret;exact⟨⟨_,rfl,HT.out⟩,Ad _ _⟩
  ·have he2:((s[n].toNat:Int)==47)=false:=by
    rw[Ar];intro h;exact he (UInt8.toNat_inj.1 (by simp;omega))
   rw[Ao he]at hsf;have HT:Hid ((s++(⟨#[47]⟩:By)).data.toList=Ck s.data.toList):=by
    unfold Hid Ck;rw[if_neg (by rw[hsf];simp)];simp
   clear he hget hsf h0;go_enter func209,ntmps209;go_wp2;go_ret;exact⟨⟨_,rfl,HT.out⟩,Ad _ _⟩
theorem b1Z(A:List (List UInt8))(x sep:L8):Lib.join (A++[x]) sep=if A.length=0 then x else Lib.join A sep++sep++x:=by
 cases A with
 |nil=>simp[Lib.join,List.intercalate]
 |cons a A=>
  rw[B3z,Lib.join_cons,Lib.join_cons,if_neg (by simp)];simp[Lib.joinTail]
theorem a2O(v:Value)(L:List (List UInt8))(B:Nat)(w:World)(h:w.ownsRow B 9 1 v L.length (Gn L))(hl:L.length<=100)(hz:∀x∈L,x.length<=1000):
  Calls prog 210 #[v] w λx w'=>(∃o:By,x=.returned (.string o)/\o.data.toList=Lib.join L [44,32])/\Bw w w':=by
 obtain⟨a,c,rfl⟩:=Ce h;have HO:=hid h;clear h;go_enter func210,ntmps210;go_wp2
 go_loopw [3,4] (λs i wr=>∃(k:Nat) (b:By),k<=L.length/\i=.int .i64 k/\s=.string b/\b.size<=k*2000/\Hid (b.data.toList=Lib.join (L.take k) [44,32])/\Bw w wr) (λ_ i _=>L.length-(intOf i).toNat)
 case atStart=>exact⟨0,⟨#[]⟩,Ah _,rfl,rfl,(by show(0:Nat)<=_;omega),rfl,Ad _ _⟩
 case round=>
  obtain⟨k,b,hk,rfl,rfl,hbz,H,hbw⟩:=hrel;by_cases hlt:k<L.length
  ·rcases Kz HO.out with⟨-,hl0⟩|⟨g,cap,hv,hg0,hc,hce⟩
   ·rw[hl0]at hlt;simp at hlt
   ·have hck:=Aa hbw (hce k hlt)
    cases hv
    have hzk:=hz _ (As hlt);have hstep:=b1Z (L.take k) L[k] [44,32];rw[<-Hl hlt,<-H.out,B0z,Nat.min_eq_left hk]at hstep;have HST:=hid hstep;have hbx:(⟨L[k].toArray⟩:By).data.toList=L[k]:=by simp
    generalize L[k]=x at *
    generalize (⟨x.toArray⟩:By)=bx at *
    subst hbx;have hbl:bx.data.toList.length=bx.size:=by simp
    have hg:g<wr.heap.size:=Af hg0 hbw.size;have e2:(⟨#[44,32]⟩:By).size=2:=rfl;clear hstep hce;by_cases hk0:k=0
    ·rw[if_pos hk0]at HST;have hb0:Hid (b.data.toList=[]):=by unfold Hid;rw[H.out,hk0];rfl
     subst hk0;clear H;go_wp2;refine⟨⟨1,b++bx,by omega,by go_num,rfl,?_,?_,hbw⟩,by simp[intOf];omega⟩
     ·rw[E7z];omega
     ·unfold Hid;rw[HST.out];simp[hb0.out]
    ·rw[if_neg hk0]at HST;have hkp:(0:Int)<(k:Int):=by omega
     clear H;go_wp2;refine⟨⟨k+1,b++⟨#[44,32]⟩++bx,by omega,by go_num,rfl,?_,?_,hbw⟩,by simp[intOf];omega⟩
     ·rw[E7z,E7z];omega
     ·unfold Hid;rw[HST.out];simp
  ·have HE:Hid (b.data.toList=Lib.join L [44,32]):=by
    have:=H.out;rw[Aq (by omega)]at this;exact this
   clear H;go_wp2;go_ret;exact⟨⟨b,rfl,HE.out⟩,hbw⟩
def b6T(R:DsR)(w:World)(x:Ending)(w':World):Prop:=
 (∃vv,∃ua ul:By,x=.returned (.agg #[.int .i64 R.st,.int .i64 R.ro,vv,.string ua,.string ul])/\ua.data.toList=R.al/\ul.data.toList=R.lo/\w'.ownsRow w.heap.size 129 2 vv R.ps.length (Bg R.ps))/\Bw w w'
theorem a6Z{m l:L8}{es:List Ent}(hp:Pm.a1z l=true):(0<=(rlG m (Ck l) es).1)↔(otG m l es).2=true:=by
 unfold otG;by_cases h1:l=[47]
 ·rw[if_pos h1];have e0:Ck l=[]:=by rw[h1];decide
  have e:rlG m [] es=(-1,[]):=if_neg (λh=>absurd h.1 (by decide));rw[e0,e];simp
 ·rw[if_neg h1];have h2:=(Ju hp h1).1;unfold rlG;by_cases h3:(Cv m (Ck l) es).2.2=0
  ·rw[if_pos ⟨h2,h3⟩];simp[h3]
  ·rw[if_neg (λh=>h3 h.2)];simp[h3]
theorem a7A(l:L8)(es:List Ent):Fd l es=if gtL∈Cu l es then Ea (Cu l es) hdL else Cu l es:=by
 unfold Fd Ea;by_cases h1:gtL∈Cu l es
 ·rw[if_pos h1];by_cases h2:hdL∈Cu l es
  ·rw[if_neg (λh=>h.2 h2),if_pos h2]
  ·rw[if_pos ⟨h1,h2⟩,if_neg h2];exact a2N (Pn hdL _ (a6W _)) (Hr hdL _)
 ·rw[if_neg h1,if_neg (λh=>h1 h.1)]
theorem b6U{l:L8}{es:List Ent}:Fd l es=[]↔Cu l es=[]:=by
 unfold Fd;constructor
 ·intro h
  split at h
  ·have:=congrArg List.length h;rw[Ma,A0z]at this;simp at this
  ·exact h
 ·intro h;rw[h,if_neg (by simp)]
theorem Qt(L:List (List UInt8))(s:L8):L.length<=(Ea L s).length/\(Ea L s).length<=L.length+1:=by
 unfold Ea
 split
 ·omega
 ·have:=(Hr s L).length_eq;rw[A0z]at this;simp at this;omega
theorem a2P{L:List (List UInt8)}{s x:L8}(h:x∈Ea L s):x∈L\/x=s:=by
 unfold Ea at h
 split at h
 ·exact .inl h
 ·have:=(Hr s L).mem_iff.1 h;rcases List.mem_append.1 this with q|q
  ·exact .inl q
  ·exact .inr (by simpa using q)
theorem b2A(gt B:Nat)(es:List Prm)(v:Value)(m o:By)(L:L8)(ho:o.data.toList=L)(w:World)(hT:TrAt gt B es v w)(hsp:Sp es)(hs:L.length<=4398046511104):
  Calls prog 208 #[.pointer (some ⟨gt,0,none⟩),.string m,.string o] w (b6S (rlG m.data.toList L (es.map Bz)) w):=by
 subst ho;have e:o.data.toList.length=o.size:=by simp
 exact a6X gt B es v m o w hT hsp (by omega)
theorem a2Q(gt B:Nat)(es:List Prm)(v:Value)(o:By)(L:L8)(ho:o.data.toList=L)(w:World)(hT:TrAt gt B es v w)(hsp:Sp es)(hp:Pm.a1z L=true)(hs:L.length<=4398046511104):
  Calls prog 42 #[.pointer (some ⟨gt,0,none⟩),.string o] w λr w'=>(∃vv,r=.returned vv/\w'.ownsRow w.heap.size 9 1 vv (Cu L (es.map Bz)).length (Gn (Cu L (es.map Bz))))/\Bw w w':=by
 subst ho;have e:o.data.toList.length=o.size:=by simp
 exact Yk gt B es v o w hT hsp hp (by omega)
theorem b2B(o:By)(L:L8)(ho:o.data.toList=L)(w:World)(hs:L.length<=140737488355328):
  Calls prog 209 #[.string o] w λx w'=>(∃b:By,x=.returned (.string b)/\b.data.toList=Ck L)/\Bw w w':=by
 subst ho;have e:o.data.toList.length=o.size:=by simp
 exact a6Y o w (by omega)
theorem a7B(l:L8):(Ck l).length<=l.length+1:=by
 unfold Ck
 split
 ·rw[B0z];omega
 ·simp
theorem Rh(gt B:Nat)(es:List Prm)(v:Value)(m t:By)(w:World)(hT:TrAt gt B es v w)(hsp:Sp es)(hmz:∀e∈es,e.1.size<=1000)(h1:Pm.a1x m.data.toList=true)(h2:Pm.a2a t.data.toList=true)(ht:t.size<=1000000000000):
  Calls prog 147 #[.pointer (some ⟨gt,0,none⟩),.string m,.string t] w (b6T (Eu m.data.toList t.data.toList (es.map Bz)) w):=by
 have htl:t.data.toList.length=t.size:=by simp
 have hal:(Pm.ahead 63 t.data.toList).length<=t.size:=by rw[<-htl];exact(List.takeWhile_prefix _).length_le
 have hbl:(Pm.behind 63 t.data.toList).length<=t.size:=by rw[<-htl];exact(List.dropWhile_suffix _).length_le
 have hp:Pm.a1z (Pm.ahead 63 t.data.toList)=true:=by rw[Pm.a2b,A3z]at h2;exact h2.1
 have HR:Hid (Eu m.data.toList t.data.toList (es.map Bz)=if(Cv m.data.toList (Pm.ahead 63 t.data.toList) (es.map Bz)).2.2=0 then⟨200,(Cv m.data.toList (Pm.ahead 63 t.data.toList) (es.map Bz)).1,(Cv m.data.toList (Pm.ahead 63 t.data.toList) (es.map Bz)).2.1,[],[],0⟩
   else if(otG m.data.toList (Pm.ahead 63 t.data.toList) (es.map Bz)).2=true then⟨Jv m.data.toList,0,[],[],(otG m.data.toList (Pm.ahead 63 t.data.toList) (es.map Bz)).1++Pm.behind 63 t.data.toList,0⟩
   else if Fd (Pm.ahead 63 t.data.toList) (es.map Bz)≠[]then⟨405,0,[],Lib.join (Fd (Pm.ahead 63 t.data.toList) (es.map Bz)) [44,32],[],0⟩
   else⟨404,0,[],[],[],0⟩):=by
  unfold Hid Eu;rw[if_neg (by rw[h1,h2];simp)]
 have HAH:=hid (λW=>Fv t 63 W (by unfold maxLen;omega));have e63:((63:UInt8).toNat:Int)=63:=rfl;simp only[e63]at HAH;have hlt0:=hT.lt;have HLD:=hid (λ(o:By) (L:L8) (ho:o.data.toList=L) W (hW:Bw w W) (hs:L.length<=4398046511104)=>b2A gt B es v m o L ho W (hT.below hW) hsp hs);have HMT:=hid (λ(o:By) (ho:o.data.toList=Pm.ahead 63 t.data.toList) W (hW:Bw w W)=>a2Q gt B es v o _ ho W (hT.below hW) hsp hp (by omega));have HOT:=hid (λ(o:By) (ho:o.data.toList=Pm.ahead 63 t.data.toList) W=>b2B o _ ho W (by omega));have hol:=a6Z (m:=m.data.toList) (es:=es.map Bz) hp;have hotG:(otG m.data.toList (Pm.ahead 63 t.data.toList) (es.map Bz)).2=true->(otG m.data.toList (Pm.ahead 63 t.data.toList) (es.map Bz)).1=Ck (Pm.ahead 63 t.data.toList):=λh=>by
  unfold otG at h ⊢
  split at h
  ·cases h
  ·rename_i q;rw[if_neg q]
 have hoz:=a7B (Pm.ahead 63 t.data.toList);have haw:=a7A (Pm.ahead 63 t.data.toList) (es.map Bz);have hnl:=b6U (l:=Pm.ahead 63 t.data.toList) (es:=es.map Bz);have hmlen:(Cu (Pm.ahead 63 t.data.toList) (es.map Bz)).length<=24:=by
  have h3:=Ph (Pm.ahead 63 t.data.toList) (es.map Bz);have h4:=hT.few;rw[A8z]at h3;omega
 have hmel:∀x∈Cu (Pm.ahead 63 t.data.toList) (es.map Bz),x.length<=1000:=λx hx=>by
  unfold Cu srt at hx;rw[List.mem_mergeSort,E5z]at hx;obtain⟨b,hb,rfl⟩:=hx;unfold Gb at hb;rw[E5z]at hb;obtain⟨e,he,rfl⟩:=hb;obtain⟨e0,he0,rfl⟩:=List.mem_map.1 (List.mem_filter.1 he).1;have:=hmz e0 he0;have hsz:e0.1.data.toList.length=e0.1.size:=by simp
  show e0.1.data.toList.length<=1000;omega
 have hrl1:(Cv m.data.toList (Pm.ahead 63 t.data.toList) (es.map Bz)).2.2=0->rlG m.data.toList (Pm.ahead 63 t.data.toList) (es.map Bz)=(((Cv m.data.toList (Pm.ahead 63 t.data.toList) (es.map Bz)).1:Int),(Cv m.data.toList (Pm.ahead 63 t.data.toList) (es.map Bz)).2.1):=λh=>if_pos ⟨hp,h⟩;have hrl2:(Cv m.data.toList (Pm.ahead 63 t.data.toList) (es.map Bz)).2.2≠0->rlG m.data.toList (Pm.ahead 63 t.data.toList) (es.map Bz)=(-1,[]):=λh=>if_neg (λc=>h c.2);have hA:=bA w (.cells #[.int .i64 0,.int .i64 0,.slice none 0 0,.string ⟨#[]⟩,.string ⟨#[]⟩] 158);have h0:FnB w.heap.size 0 0 (.slice none 0 0) ⟨#[]⟩ ⟨#[]⟩ (w.alloc (.cells #[.int .i64 0,.int .i64 0,.slice none 0 0,.string ⟨#[]⟩,.string ⟨#[]⟩] 158)):=Ag w _;have HLD1:=hid (λ(o:By) (ho:o.data.toList=Pm.ahead 63 t.data.toList) W (hW:Bw w W)=>HLD.out o _ ho W hW (by omega));have HLD2:=hid (λ(o:By) (ho:o.data.toList=Ck (Pm.ahead 63 t.data.toList)) W (hW:Bw w W)=>HLD.out o _ ho W hW (by omega));generalize Eu m.data.toList t.data.toList (es.map Bz)=R at *
 generalize rlG m.data.toList (Pm.ahead 63 t.data.toList) (es.map Bz)=RL at *
 generalize rlG m.data.toList (Ck (Pm.ahead 63 t.data.toList)) (es.map Bz)=KG at *
 generalize Cv m.data.toList (Pm.ahead 63 t.data.toList) (es.map Bz)=LG at *
 generalize otG m.data.toList (Pm.ahead 63 t.data.toList) (es.map Bz)=OG at *
 generalize Fd (Pm.ahead 63 t.data.toList) (es.map Bz)=AG at *
 generalize Cu (Pm.ahead 63 t.data.toList) (es.map Bz)=MS at *
 generalize Ck (Pm.ahead 63 t.data.toList)=OL at *
 generalize hPA:Pm.ahead 63 t.data.toList=PA at *
 generalize hPB:Pm.behind 63 t.data.toList=PB at *
 clear hT hp h1 h2 htl hPA hPB HLD hsp hmz;have hGB:=Xm m;have hHB:=Nq m;go_enter func147,ntmps147;go_wp2_with fail;generalize w.alloc (.cells #[.int .i64 0,.int .i64 0,.slice none 0 0,.string ⟨#[]⟩,.string ⟨#[]⟩] 158)=w1 at *
 refine(HAH.out _).mono ?_;rintro x w2 ⟨⟨pa,pb,rfl,hpa,hpb⟩,hb2⟩;have hB2:=Bc hA hb2;have F2:=h0.below hb2;clear HAH h0 hA hb2;go_wp2_with fail;refine(HLD1.out _ hpa _ hB2).mono ?_;rintro x w3 ⟨⟨vv,rfl,ow⟩,hb3⟩;have hB3:=Bc hB2 hb3;have F3:=F2.below hb3;by_cases q1:LG.2.2=0
 ·have hR:=HR.out;rw[if_pos q1]at hR;subst hR;have hrl:=hrl1 q1;subst hrl;have hno:vv.ownBlock≠some w.heap.size:=λe=>by have:=Bx ow _ e;have:=F2.lt;omega
  have HO2:=hid (Bt ow hB2.size);obtain⟨ax,cx,rfl⟩:=Ce ow;obtain⟨c0,c1,c2,c3,c4⟩:=F3.cells;have f0:=F3.free 0;have f1:=F3.free 1;have f2:=F3.free 2;have f3:=F3.free 3;have f4:=F3.free 4;have l0:=F3.lt;obtain⟨d0,d1,d2,d3,d4⟩:=(F3.set 200 LG.1 (.slice ax LG.2.1.length cx) ⟨#[]⟩ ⟨#[]⟩).cells;unfold Ns at d0 d1 d2 d3 d4;have hge:(0:Int)<=(LG.1:Int):=by omega
  clear HR HLD1 HLD2 HMT HOT ow hrl1 hrl2 F2;go_wp2_with fail;refine Ae (v:=.agg #[.int .i64 200,.int .i64 LG.1,.slice ax LG.2.1.length cx,.string ⟨#[]⟩,.string ⟨#[]⟩]) (by simp[results,results147,go_sem,d0,d1,d2,d3,d4]) rfl ?_;exact⟨⟨_,_,_,rfl,rfl,rfl,Vy HO2.out hno⟩,Ee hB3 (Ac _)⟩
 ·have hR:=HR.out;rw[if_neg q1]at hR;have HR2:=hid hR;have hrl:=hrl2 q1;subst hrl;clear HR hR hrl1 hrl2 HLD1 ow;go_wp2_with fail;refine(HOT.out _ hpa _).mono ?_;rintro x w4 ⟨⟨ob,rfl,hob⟩,hb4⟩;have hB4:=Bc hB3 hb4;have F4:=F3.below hb4;clear HOT F2 F3;go_wp2_with fail;refine(HLD2.out _ hob _ hB4).mono ?_;rintro x w5 ⟨⟨v5,rfl,-⟩,hb5⟩;have hB5:=Bc hB4 hb5;have F5:=F4.below hb5;clear HLD2 F4;by_cases q2:OG.2=true
  ·have hk:=hol.2 q2;have hR:=HR2.out;rw[if_pos q2,hotG q2]at hR;have hst:(Jv m.data.toList=301/\(m.toList==[71,69,84])=true)\/(Jv m.data.toList=301/\(m.toList==[71,69,84])=false/\(m.toList==[72,69,65,68])=true)\/(Jv m.data.toList=308/\(m.toList==[71,69,84])=false/\(m.toList==[72,69,65,68])=false):=by
    unfold Jv;by_cases e1:m.data.toList=gtL
    ·exact .inl ⟨if_pos (.inl e1),by rw[hGB,Ak e1]⟩
    ·by_cases e2:m.data.toList=hdL
     ·exact .inr (.inl ⟨if_pos (.inr e2),by rw[hGB,Ao e1],by rw[hHB,Ak e2]⟩)
     ·exact .inr (.inr ⟨if_neg (λh=>h.elim e1 e2),by rw[hGB,Ao e1],by rw[hHB,Ao e2]⟩)
   have e1:ob.data.toList.length=ob.size:=by simp
   have e2:pb.data.toList.length=pb.size:=by simp
   rw[hob]at e1;rw[hpb]at e2;have hk1:ob.size+pb.size<=9223372036854775807:=by omega
   have hk2:¬9223372036854775807<ob.size+pb.size:=by omega
   have hlo:(ob++pb).data.toList=OL++PB:=by rw[<-hob,<-hpb];simp
   generalize Jv m.data.toList=MG at *
   obtain⟨c0,c1,c2,c3,c4⟩:=F5.cells;have f0:=F5.free 0;have f1:=F5.free 1;have f2:=F5.free 2;have f3:=F5.free 3;have f4:=F5.free 4;have l0:=F5.lt;obtain⟨d0,d1,d2,d3,d4⟩:=(F5.set MG 0 (.slice none 0 0) ⟨#[]⟩ (ob++pb)).cells;unfold Ns at d0 d1 d2 d3 d4;have HRR:=hid hR;clear HR2 hR HMT hGB hHB hol hotG;rcases hst with⟨rfl,hGB⟩|⟨rfl,hGB,hHB⟩|⟨rfl,hGB,hHB⟩
   all_goals
    go_wp2_with fail;refine Ae (by simp[results,results147,go_sem,d0,d1,d2,d3,d4];rfl) rfl ?_;rw[HRR.out];exact⟨⟨_,_,_,rfl,rfl,hlo,Am _ _ _ _⟩,Ee hB5 (Ac _)⟩
  ·have hk:¬0<=KG.1:=λh=>q2 (hol.1 h);have hR:=HR2.out;rw[if_neg q2]at hR;have HRR:=hid hR;have hk2:KG.1<0:=Int.not_le.1 hk;clear HR2 hR hGB hHB hol hotG;go_wp2_with fail;refine(HMT.out _ hpa _ hB5).mono ?_;rintro x w6 ⟨⟨v6,rfl,ow6⟩,hb6⟩;have hB6:=Bc hB5 hb6;have F6:=F5.below hb6;obtain⟨a6,c6,rfl⟩:=Ce ow6;clear HMT F5;by_cases q3:AG≠[]
   ·have hR:=HRR.out;rw[if_pos q3]at hR;have HR3:=hid hR;have hms0:MS≠[]:=λe=>q3 (hnl.2 e);have hmp:(((MS.length:Int))==0)=false:=by
     have:=List.length_pos_iff.2 hms0;rw[Ar];omega
    have HAW:=hid haw;have HO6:=hid ow6;clear HRR hR haw hnl ow6;go_wp2_with fail
    go_loopw [12,13] (λl k wr=>∃(q:Nat) (L:List (List UInt8)),k=.int .i64 q/\wr.ownsRow w.heap.size 9 1 l L.length (Gn L)/\Hid ((q<=MS.length/\L=MS/\gtL∉MS.take q)\/(gtL∈MS/\L=Ea MS hdL/\q=L.length+1))/\Bw w wr/\Bw w6 wr) (λ_ k _=>MS.length+3-(intOf k).toNat)
    case atStart=>exact⟨0,MS,rfl,Bt HO6.out hB5.size,.inl ⟨Ah _,rfl,by simp⟩,hB6,Ad _ _⟩
    case round=>
     obtain⟨q,L,rfl,ow,HK,hbw,hb6w⟩:=hrel;have F7:=F6.below hb6w;by_cases hlt:q<L.length
     ·rcases HK.out with⟨k1,rfl,k3⟩|⟨k1,k2,k3⟩
      ·rcases Kz ow with⟨-,hl0⟩|⟨g,cap,hv,hg,hc,hce⟩
       ·rw[hl0]at hlt;simp at hlt
       ·have hck:=hce q hlt;subst hv;have hbx:(⟨L[q].toArray⟩:By).data.toList=L[q]:=by simp
        have HMEM:Hid (L[q]=gtL->gtL∈L):=λe=>by rw[<-e];exact As hlt
        have HNOT:Hid (L[q]≠gtL->gtL∉L.take (q+1)):=λe=>by
         rw[Hl hlt,D3z];rintro(z|z)
         ·exact k3 z
         ·have e2:gtL=L[q]:=by simpa using z
          exact e e2.symm
        generalize L[q]=x at *
        generalize (⟨x.toArray⟩:By)=bx at *
        subst hbx;have hbe:=Xm bx;have hle:L.length<=24:=hmlen;have HSO:=hid (Qs _ L ⟨#[72,69,65,68]⟩ w.heap.size wr ow hbw.size (by omega));have e48:(⟨#[72,69,65,68]⟩:By).data.toList=hdL:=rfl;rw[e48]at HSO;have hsl:=Qt L hdL;have HOW:=hid ow;clear hce HK k3 ow;by_cases he:bx.data.toList=gtL
        ·have HM:=hid (HMEM.out he);rw[Ak he]at hbe;clear HMEM HNOT;generalize Ea L hdL=SL at *
         go_wp2_with fail;refine HSO.out.mono ?_;rintro x w8 ⟨⟨v8,rfl,ow8⟩,hb8⟩;obtain⟨a8,c8,rfl⟩:=Ce ow8;have hB8:=Bc hbw hb8;have hb68:=Bc hb6w hb8;have HO8:=hid ow8;clear HSO ow8;go_wp2_with fail;exact⟨⟨SL.length+1,SL,by go_num,HO8.out,.inr ⟨HM.out,rfl,rfl⟩,hB8,hb68⟩,by simp[intOf];omega⟩
        ·have HN:=hid (HNOT.out he);rw[Ao he]at hbe;clear HMEM HNOT HSO;go_wp2_with fail;exact⟨⟨q+1,L,by go_num,HOW.out,.inl ⟨by omega,rfl,HN.out⟩,hbw,hb6w⟩,by simp[intOf];omega⟩
      ·exfalso;omega
     ·have hnl2:¬(q:Int)<(L.length:Int):=by omega
      have hLA:L=AG:=by
       rw[HAW.out];rcases HK.out with⟨k1,k2,k3⟩|⟨k1,k2,k3⟩
       ·rw[k2]at hlt;rw[Aq (by omega)]at k3;rw[if_neg k3,k2]
       ·rw[if_pos k1,k2]
      have hLz:L.length<=100/\∀x∈L,x.length<=1000:=by
       rcases HK.out with⟨k1,k2,k3⟩|⟨k1,k2,k3⟩
       ·rw[k2];exact⟨by omega,hmel⟩
       ·rw[k2];have:=Qt MS hdL;refine⟨by omega,λx hx=>?_⟩;rcases a2P hx with z|z
        ·exact hmel x z
        ·rw[z];decide
      have HLI:=hid (a2O _ L w.heap.size wr ow hLz.1 hLz.2);subst hLA;obtain⟨a7,c7,rfl⟩:=Ce ow;clear HK HAW ow hLz;go_wp2_with fail;refine HLI.out.mono ?_;rintro x w8 ⟨⟨o8,rfl,ho8⟩,hb8⟩;have hB8:=Bc hbw hb8;have F8:=F7.below hb8;obtain⟨c0,c1,c2,c3,c4⟩:=F8.cells;have f0:=F8.free 0;have f1:=F8.free 1;have f2:=F8.free 2;have f3:=F8.free 3;have f4:=F8.free 4;have l0:=F8.lt;obtain⟨d0,d1,d2,d3,d4⟩:=(F8.set 405 0 (.slice none 0 0) o8 ⟨#[]⟩).cells;unfold Ns at d0 d1 d2 d3 d4;have HO8:=hid ho8;clear HLI ho8 F7;go_wp2_with fail;refine Ae (by simp[results,results147,go_sem,d0,d1,d2,d3,d4];rfl) rfl ?_;rw[HR3.out];exact⟨⟨_,_,_,rfl,HO8.out,rfl,Am _ _ _ _⟩,Ee hB8 (Ac _)⟩
   ·have hR:=HRR.out;rw[if_neg q3]at hR;have hz:MS=[]:=hnl.1 (Classical.not_not.1 q3);subst hz;obtain⟨c0,c1,c2,c3,c4⟩:=F6.cells;have f0:=F6.free 0;have f1:=F6.free 1;have f2:=F6.free 2;have f3:=F6.free 3;have f4:=F6.free 4;have l0:=F6.lt;obtain⟨d0,d1,d2,d3,d4⟩:=(F6.set 404 0 (.slice none 0 0) ⟨#[]⟩ ⟨#[]⟩).cells;unfold Ns at d0 d1 d2 d3 d4;have HR3:=hid hR;clear HRR hR haw hnl ow6;simp only[C0z]at *
    go_wp2_with fail;refine Ae (by simp[results,results147,go_sem,d0,d1,d2,d3,d4];rfl) rfl ?_;rw[HR3.out];exact⟨⟨_,_,_,rfl,rfl,rfl,Am _ _ _ _⟩,Ee hB6 (Ac _)⟩
def lcL:L8:=[99,111,110,116,101,110,116,45,108,101,110,103,116,104]
def coL:L8:=[99,111,110,110,101,99,116,105,111,110]
def teL:L8:=[116,114,97,110,115,102,101,114,45,101,110,99,111,100,105,110,103]
theorem c0E(l:L8):Kq l=(((Pm.a2c l&&!(Pm.a0d l lcL))&&!(Pm.a0d l coL))&&!(Pm.a0d l teL)):=by
 have h1:Pm.a0d l [67,111,110,116,101,110,116,45,76,101,110,103,116,104]=Pm.a0d l lcL:=by
  unfold Pm.a0d;have:List.map Pm.low [67,111,110,116,101,110,116,45,76,101,110,103,116,104]=List.map Pm.low lcL:=by decide
  rw[this]
 have h2:Pm.a0d l [84,114,97,110,115,102,101,114,45,69,110,99,111,100,105,110,103]=Pm.a0d l teL:=by
  unfold Pm.a0d;have:List.map Pm.low [84,114,97,110,115,102,101,114,45,69,110,99,111,100,105,110,103]=List.map Pm.low teL:=by decide
  rw[this]
 have h3:Pm.a0d l [67,111,110,110,101,99,116,105,111,110]=Pm.a0d l coL:=by
  unfold Pm.a0d;have:List.map Pm.low [67,111,110,110,101,99,116,105,111,110]=List.map Pm.low coL:=by decide
  rw[this]
 unfold Kq;rw[h1,h2,h3]
 cases Pm.a2c l<;>cases Pm.a0d l lcL<;>cases Pm.a0d l teL<;>cases Pm.a0d l coL<;>rfl
theorem Of(s:By)(w:World)(hs:s.size<=maxLen):
  Calls prog 230 #[.string s] w λe w'=>e=.returned (.bool (Kq s.data.toList))/\w'=w:=by
 have HT:=hid (λW=>Gg s W hs);have H1:Hid (∀W,Calls prog 189 #[.string s,.string ⟨#[99,111,110,116,101,110,116,45,108,101,110,103,116,104]⟩] W λe w'=>e=.returned (.bool (Pm.a0d s.data.toList lcL))/\w'=W):=λW=>Ds s ⟨#[99,111,110,116,101,110,116,45,108,101,110,103,116,104]⟩ W hs (by unfold maxLen;decide);have H2:Hid (∀W,Calls prog 189 #[.string s,.string ⟨#[99,111,110,110,101,99,116,105,111,110]⟩] W λe w'=>e=.returned (.bool (Pm.a0d s.data.toList coL))/\w'=W):=λW=>Ds s ⟨#[99,111,110,110,101,99,116,105,111,110]⟩ W hs (by unfold maxLen;decide);have H3:Hid (∀W,Calls prog 189 #[.string s,.string ⟨#[116,114,97,110,115,102,101,114,45,101,110,99,111,100,105,110,103]⟩] W λe w'=>e=.returned (.bool (Pm.a0d s.data.toList teL))/\w'=W):=λW=>Ds s ⟨#[116,114,97,110,115,102,101,114,45,101,110,99,111,100,105,110,103]⟩ W hs (by unfold maxLen;decide);have HL:=hid (c0E s.data.toList);generalize Kq s.data.toList=LB at *
 generalize Pm.a2c s.data.toList=b0 at *
 generalize Pm.a0d s.data.toList lcL=b1 at *
 generalize Pm.a0d s.data.toList coL=b2 at *
 generalize Pm.a0d s.data.toList teL=b3 at *
 go_enter func230,ntmps230;go_wp2_with fail;refine(HT.out _).mono ?_;rintro e w1 ⟨rfl,rfl⟩;go_wp2_with fail;refine(H1.out _).mono ?_;rintro e w1 ⟨rfl,rfl⟩;go_wp2_with fail;refine(H2.out _).mono ?_;rintro e w1 ⟨rfl,rfl⟩;go_wp2_with fail;refine(H3.out _).mono ?_;rintro e w1 ⟨rfl,rfl⟩;have hl:=HL.out;clear HT H1 H2 H3 HL
 cases b0<;>cases b1<;>cases b2<;>cases b3
 all_goals
  simp only[Bool.not_false,F9z,Bool.and_true,C7z]at hl;subst hl;go_wp2_with fail;go_ret;exact⟨rfl,rfl⟩
theorem c0F(k st:Int)(t:L8):Jb k st t=(!(decide (k<0)||decide (4<k)||decide (st<200)||decide (599<st)||decide (100<t.length))&&(decide (k≠3)||Kq t)):=by
 unfold Jb;rw[B9z]
 cases Kq t<;>simp<;>(constructor<;>intro h<;>(try split at h)<;>(try split)<;>simp_all<;>omega)
theorem Yl(k st:Int)(t n:By)(w:World)(ht:t.size<=maxLen):
  Calls prog 166 #[.agg #[.int .i64 k,.int .i64 st,.string t,.string n]] w λe w'=>e=.returned (.bool (Jb k st t.data.toList))/\Bw w w':=by
 have HL:=hid (λW=>Of t W ht);have hA:=bA w (.cells #[.int .i64 k,.int .i64 st,.string t,.string n] 73);have hH:=c0F k st t.data.toList;have htl:t.data.toList.length=t.size:=by simp
 rw[htl]at hH;generalize Jb k st t.data.toList=HB at *
 generalize Kq t.data.toList=LB at *
 have HH:=hid hH;clear hH htl;go_enter func166,ntmps166;go_wp2_with fail;refine(HL.out _).mono ?_;rintro e w1 ⟨rfl,rfl⟩;have hh:=HH.out;clear HL HH;by_cases c1:k<0
 ·simp only[Ak c1,D5z,F9z,C9z]at hh;subst hh;go_wp2_with fail;go_ret;exact⟨rfl,hA⟩
 ·by_cases c2:4<k
  ·simp only[Ak c2,D5z,Bool.or_true,F9z,C9z]at hh;subst hh;go_wp2_with fail;go_ret;exact⟨rfl,hA⟩
  ·by_cases c3:st<200
   ·simp only[Ak c3,D5z,Bool.or_true,F9z,C9z]at hh;subst hh;go_wp2_with fail;go_ret;exact⟨rfl,hA⟩
   ·by_cases c4:599<st
    ·simp only[Ak c4,D5z,Bool.or_true,F9z,C9z]at hh;subst hh;go_wp2_with fail;go_ret;exact⟨rfl,hA⟩
    ·by_cases c5:100<t.size
     ·simp only[Ak c5,Bool.or_true,F9z,C9z]at hh;subst hh;have c6:(100:Int)<(t.size:Int):=by omega
      go_wp2_with fail;go_ret;exact⟨rfl,hA⟩
     ·have c6:¬(100:Int)<(t.size:Int):=by omega
      simp only[Ao c1,Ao c2,Ao c3,Ao c4,Ao c5,Bool.or_false,Bool.not_false,D4z]at hh;by_cases c7:k=3
      ·have c8:(k != 3)=false:=by rw[c7];rfl
       simp only[Ao (show ¬(k≠3)from λh=>h c7),D8z]at hh;subst hh;go_wp2_with fail;go_ret;exact⟨rfl,by rw[c7]at hA;exact hA⟩
      ·have c8:(k != 3)=true:=by simpa using c7
       simp only[Ak (show k≠3 from c7),D5z]at hh;subst hh;go_wp2_with fail;go_ret;exact⟨rfl,hA⟩
theorem b6V(k:Int)(n v:L8)(lim:Int):Jc k n v lim=(!(decide (k<0)||decide (4<k)||decide (100<n.length)||decide (100<v.length))&&(if k=1 then Pm.a2c n else if k=2 then decide (0<=lim)else if k=3 then true else Kq n)):=by
 unfold Jc;by_cases c1:k<0
 ·have:¬(k=0\/k=4):=by omega
  have h1:k≠1:=by omega
  have h2:k≠2:=by omega
  have h3:k≠3:=by omega
  simp[c1,this,h1,h2,h3]
 ·by_cases c2:4<k
  ·have:¬(k=0\/k=4):=by omega
   have h1:k≠1:=by omega
   have h2:k≠2:=by omega
   have h3:k≠3:=by omega
   simp[c2,this,h1,h2,h3]
  ·have hk:k=0\/k=1\/k=2\/k=3\/k=4:=by omega
   by_cases c3:100<n.length
   ·simp[c3,Nat.not_le.2 c3]
   ·by_cases c4:100<v.length
    ·simp[c4,Nat.not_le.2 c4]
    ·have c5:n.length<=100:=by omega
     have c6:v.length<=100:=by omega
     rcases hk with rfl|rfl|rfl|rfl|rfl<;>simp[c3,c4,c5,c6]
theorem a7C(k lim:Int)(n v:By)(w:World)(hn:n.size<=maxLen):
  Calls prog 167 #[.agg #[.int .i64 k,.string n,.string v,.int .i64 lim]] w λe w'=>e=.returned (.bool (Jc k n.data.toList v.data.toList lim))/\Bw w w':=by
 have HL:=hid (λW=>Of n W hn);have HT:=hid (λW=>Gg n W hn);have hA:=bA w (.cells #[.int .i64 k,.string n,.string v,.int .i64 lim] 241);have hg:=Ag w (.cells #[.int .i64 k,.string n,.string v,.int .i64 lim] 241);have hH:=b6V k n.data.toList v.data.toList lim;have hnl:n.data.toList.length=n.size:=by simp
 have hvl:v.data.toList.length=v.size:=by simp
 rw[hnl,hvl]at hH;generalize Jc k n.data.toList v.data.toList lim=HB at *
 generalize Kq n.data.toList=LB at *
 generalize Pm.a2c n.data.toList=TB at *
 have d0:(w.alloc (.cells #[.int .i64 k,.string n,.string v,.int .i64 lim] 241)).cell? ⟨w.heap.size,0,none⟩=some (.int .i64 k):=by rw[Ab hg];rfl
 have d1:(w.alloc (.cells #[.int .i64 k,.string n,.string v,.int .i64 lim] 241)).cell? ⟨w.heap.size,1,none⟩=some (.string n):=by rw[Ab hg];rfl
 have d2:(w.alloc (.cells #[.int .i64 k,.string n,.string v,.int .i64 lim] 241)).cell? ⟨w.heap.size,2,none⟩=some (.string v):=by rw[Ab hg];rfl
 have d3:(w.alloc (.cells #[.int .i64 k,.string n,.string v,.int .i64 lim] 241)).cell? ⟨w.heap.size,3,none⟩=some (.int .i64 lim):=by rw[Ab hg];rfl
 have l0:=Ap d0;have HH:=hid hH;clear hH hnl hvl hg;go_enter func167,ntmps167;go_upto_region 1 with fail;generalize w.alloc (.cells #[.int .i64 k,.string n,.string v,.int .i64 lim] 241)=wa at *
 by_cases c1:k<0
 ·have hh:=HH.out;simp only[Ak c1,D5z,F9z,C9z]at hh;subst hh;go_wp2_with fail;go_ret;exact⟨rfl,hA⟩
 ·by_cases c2:4<k
  ·have hh:=HH.out;simp only[Ak c2,D5z,Bool.or_true,F9z,C9z]at hh;subst hh;go_wp2_with fail;go_ret;exact⟨rfl,hA⟩
  ·by_cases c3:100<n.size
   ·have hh:=HH.out;simp only[Ak c3,D5z,Bool.or_true,F9z,C9z]at hh;subst hh;have c6:(100:Int)<(n.size:Int):=by omega
    go_wp2_with fail;go_ret;exact⟨rfl,hA⟩
   ·by_cases c4:100<v.size
    ·have hh:=HH.out;simp only[Ak c4,Bool.or_true,F9z,C9z]at hh;subst hh;have c5:¬(100:Int)<(n.size:Int):=by omega
     have c6:(100:Int)<(v.size:Int):=by omega
     go_wp2_with fail;go_ret;exact⟨rfl,hA⟩
    ·have c5:¬(100:Int)<(n.size:Int):=by omega
     have c6:¬(100:Int)<(v.size:Int):=by omega
     have hh:=HH.out;simp only[Ao c1,Ao c2,Ao c3,Ao c4,Bool.or_false,Bool.not_false,D4z]at hh;have HH2:=hid hh;clear hh HH;go_wp2_with fail;refine(HL.out _).mono ?_;rintro e w1 ⟨rfl,rfl⟩;go_wp2_with fail;refine(HT.out _).mono ?_;rintro e w1 ⟨rfl,rfl⟩;have hh:=HH2.out;have hk:k=0\/k=1\/k=2\/k=3\/k=4:=by omega
     clear HH2 HL HT;rcases hk with rfl|rfl|rfl|rfl|rfl
     all_goals
      simp at hh;subst hh;go_wp2_with fail;go_ret;exact⟨rfl,hA⟩
end Go.Proofs.YtbiggccolpchcaaGreatDoor
