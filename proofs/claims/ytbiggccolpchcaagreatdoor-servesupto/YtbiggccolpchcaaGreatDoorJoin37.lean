/- Joined. -/
import Derived.Test.YtbiggccolpchcaaGreatDoorRnD
import Derived.Test.YtbiggccolpchcaaGreatDoorJoin25
set_option maxRecDepth 100000
set_option maxHeartbeats 2000000
namespace Go.Proofs.YtbiggccolpchcaaGreatDoor
open Go.RowKit _root_.Go.Proofs.Tryz
theorem c3H{st:Int}(s0:-9223372036854775808<=st)(s1:st<=9223372036854775807):(Ji st).length<=200:=by
 have h1:=Im (b:=10) (n:=st) (by omega) s0 s1;have h2:=Md st;have h3:(Pm.a4h st).data.toList.length=(Pm.a4h st).size:=by simp
 unfold Ji;simp only[A0z,A9z,C0z];omega
theorem a3D(m:By)(st:Int)(fs:List Pr2)(a:Oa)(ca:Nat)(body:By)(cl:Bool)(w:World)
  (s0:-9223372036854775808<=st) (s1:st<=9223372036854775807) (hf:Nc fs a w) (hn:fs.length<=1000000000) (hz:(Cm fs).length+body.size<=4398046511104) :
  Calls prog 101 #[.string m,.agg #[.int .i64 st,.slice a fs.length ca,.string body,.bool cl]] w λe w'=>e=.returned (.string ⟨(Fr m.data.toList st fs body.data.toList cl).toArray⟩)/\Bw w w':=by
 have HF:=hid hf;clear hf;have hB1:=bA w (.cells #[.int .i64 st,.slice a fs.length ca,.string body,.bool cl] 49);have an1:Mm w.heap.size st (.slice a fs.length ca) body cl (w.alloc (.cells #[.int .i64 st,.slice a fs.length ca,.string body,.bool cl] 49)):=Ag w _;have HNu:=hid (λW=>Qg st s0 s1 W);have HRe:=hid (λW=>a0J st W);have hil:=Im (b:=10) (n:=st) (by omega) s0 s1;have hrl:=Md st;have hpl:=c3H s0 s1;have HPRE:Hid (Ji st=[72,84,84,80,47,49,46,49,32]++Fp 10 st++[32]++(Pm.a4h st).data.toList++[13,10]):=rfl;generalize hIT:(⟨(Fp 10 st).toArray⟩:By)=it at *
 have hitd:it.data.toList=Fp 10 st:=by rw[<-hIT]
 have hitz:it.size<=65:=by
  have:it.data.toList.length=it.size:=by simp
  rw[hitd]at this;omega
 rw[<-hitd]at HPRE;generalize Pm.a4h st=rs at *
 have hbl:body.data.toList.length=body.size:=by simp
 have HNb:=hid (λW=>Qg (body.size:Int) (by omega) (by omega) W);have hll:=Im (b:=10) (n:=(body.size:Int)) (by omega) (by omega) (by omega);generalize hLT:(⟨(Fp 10 (body.size:Int)).toArray⟩:By)=lt at *
 have hld:lt.data.toList=Fp 10 (body.data.toList.length:Int):=by rw[<-hLT,hbl]
 have hlz:lt.size<=65:=by
  have:lt.data.toList.length=lt.size:=by simp
  rw[hld,hbl]at this;omega
 have HR:Hid (Fr m.data.toList st fs body.data.toList cl=(Ji st++Cm fs)++Gm Tw lt.data.toList++(if cl=true then Gm a6P Nd else[])++[13,10]++(if m.data.toList=Tx then[]else body.data.toList)):=by
  unfold Hid Fr c0A;rw[hld];simp only[C5z]
 clear hLT hld hll hIT hitd hil;go_enter func101,ntmps101;have c0:=an1.cells.1;have al1:=an1.lt;go_wp2_with fail;generalize w.alloc (.cells #[.int .i64 st,.slice a fs.length ca,.string body,.bool cl] 49)=w1 at *
 refine(HNu.out _).mono ?_;rintro e w2 ⟨rfl,hb2⟩;have an2:=an1.below hb2 al1;have hB2:=Bc hB1 hb2;have c02:=an2.cells.1;have al2:=an2.lt;clear c0 al1 an1 hB1 hb2 HNu;go_wp2_with fail;refine(HRe.out _).mono ?_;rintro e w3 ⟨rfl,hb3⟩;have an3:=an2.below hb3 al2;have hB3:=Bc hB2 hb3;clear c02 al2 an2 hB2 hb3 HRe;have J3:=hid (And.intro an3 hB3);clear an3 hB3;go_wp2_with fail
 go_loopw [7,8] (λs i wr=>∃(k:Nat) (b:By),k<=fs.length/\i=.int .i64 k/\s=.string b/\Hid (b.data.toList=Ji st++Cm (fs.take k))/\Hid (Mm w.heap.size st (.slice a fs.length ca) body cl wr/\Bw w wr)) (λ_ i _=>fs.length-(intOf i).toNat)
 case atStart=>exact⟨0,_,Ah _,rfl,rfl,(by unfold Hid;rw[HPRE.out];simp[Cm,ByteArray.data_append,Array.toList_append]),J3.out⟩
 case round=>
  clear J3;obtain⟨k,b,hk,rfl,rfl,H,I⟩:=hrel;obtain⟨c0,c1,c2,c3⟩:=I.out.1.cells;have al:=I.out.1.lt;have hbz:b.size<=200+(Cm fs).length:=by
   have h1:b.data.toList.length=b.size:=by simp
   have h2:=Tv fs k;rw[H.out,A0z]at h1;omega
  by_cases hlt:k<fs.length
  ·obtain⟨g,o,rfl,hg,hc1,hc2⟩:=(HF.out.below I.out.2) k hlt;have HN:=hid (Tu fs k hlt);have hle:=Tv fs (k+1);rw[HN.out,A0z]at hle;generalize fs[k].1=nm at *
   generalize fs[k].2=vl at *
   have hfl:(Gm nm.data.toList vl.data.toList).length=nm.size+vl.size+4:=by simp[Gm];omega
   have hnz:nm.size+vl.size<=4398046511104:=by omega
   have hbz2:b.size<=4398046511400:=by omega
   have e58:(⟨#[58,32]⟩:By).size=2:=rfl;have e13:(⟨#[13,10]⟩:By).size=2:=rfl;clear hle hfl c0 c2 c3 hbz;go_wp2_with fail
   go_quiet (fail)
   go_wp2;refine⟨⟨k+1,_,by omega,by go_num,rfl,?_,I.out.1.below (below_drewN (Ad _ _) _) al,below_drewN I.out.2 _⟩,by simp[intOf];omega⟩;unfold Hid;rw[HN.out,<-C5z,<-H.out];simp[Gm,ByteArray.data_append,Array.toList_append]
  ·have HTK:Hid (fs.take k=fs):=Aq (by omega);rw[HTK.out]at H;have hB:=I.out.2;have an:=I.out.1;have hbz2:b.size<=4398046511400:=by omega
   clear HTK I hbz HF;go_wp2_with fail;refine(HNb.out _).mono ?_;rintro e w4 ⟨rfl,hb4⟩;have an4:=an.below hb4 al;have hB4:=Bc hB hb4;obtain⟨d0,d1,d2,d3⟩:=an4.cells;have al4:=an4.lt;have e1:(⟨#[67,111,110,116,101,110,116,45,76,101,110,103,116,104,58,32]⟩:By).size=16:=rfl;have e2:(⟨#[13,10]⟩:By).size=2:=rfl;have e3:(⟨#[67,111,110,110,101,99,116,105,111,110,58,32,99,108,111,115,101,13,10]⟩:By).size=19:=rfl;clear c0 c1 c2 c3 an hB hb4 HNb an4 al;by_cases hm:m.data.toList=Tx
   focus
    have hmb:(m.toList==[72,69,65,68])=true:=by rw[A1z,hm];rfl
    rw[if_pos hm,D9z]at HR
   rotate_left
   focus
    have hmb:(m.toList==[72,69,65,68])=false:=by rw[A1z,Ar];exact hm
    rw[if_neg hm]at HR
   all_goals
    clear hm
    cases cl
    ·go_wp2;go_ret;refine⟨Fq ?_,hB4⟩;rw[HR.out,<-H.out];simp[Gm,Tw,ByteArray.data_append,Array.toList_append]
    ·go_wp2;go_ret;refine⟨Fq ?_,hB4⟩;rw[HR.out,<-H.out];simp[Gm,Tw,a6P,Nd,ByteArray.data_append,Array.toList_append]
end Go.Proofs.YtbiggccolpchcaaGreatDoor
namespace Go.Proofs.YtbiggccolpchcaaGreatDoor
open _root_.Go.Proofs.Tryz
end Go.Proofs.YtbiggccolpchcaaGreatDoor
namespace Go.Proofs.YtbiggccolpchcaaGreatDoor
open Go.RowKit _root_.Go.Proofs.Tryz
theorem c5C(fs:List Pr2){a b:L8}(h:a.map Pm.low=b.map Pm.low):Bf fs a=Bf fs b:=by
 unfold Bf Pm.a0d;rw[h]
theorem Oj(fs:List Pr2)(a:Oa)(cap:Nat)(name:By)(w:World)(hf:Nc fs a w)(hl:fs.length<=1000000000)(hn:name.size<=maxLen)(hsz:∀i (h:i<fs.length),fs[i].1.size<=maxLen):
  Calls prog 188 #[.slice a fs.length cap,.string name] w λe w'=>(∃a' c',e=.returned (.slice a' (Bf fs name.data.toList).length c')/\Dg (Bf fs name.data.toList) a' w')/\Bw w w':=by
 obtain⟨i0,hi,hz0,hz1,hz2⟩:=info_parts Tryz.info9;have HF:Hid (Nc fs a w):=hf;have HZ:Hid (∀i (h:i<fs.length),fs[i].1.size<=maxLen):=hsz;clear hf hsz;go_enter func188,ntmps188;go_wp2
 go_loopw [5,6,7] (λv i _ wr=>∃k:Nat,k<=fs.length/\i=.int .i64 k/\wr.ownsRow w.heap.size 9 1 v (Bf (fs.take k) name.data.toList).length ((Bf (fs.take k) name.data.toList).map Value.string)/\Bw w wr) (λ_ i _ _=>fs.length-(intOf i).toNat)
 case atStart=>exact⟨0,Ah _,rfl,Am _ _ _ _,Ad _ _⟩
 case round=>
  obtain⟨k,hk,rfl,hown,hbw⟩:=hrel;by_cases hlt:k<fs.length
  ·obtain⟨g,o,rfl,hg,hc1,hc2⟩:=(HF.out.below hbw) k hlt;have hsk:=HZ.out k hlt;have HV:Hid ((Pm.a0d fs[k].1.data.toList name.data.toList=true->Bf (fs.take (k+1)) name.data.toList=Bf (fs.take k) name.data.toList++[fs[k].2])/\(Pm.a0d fs[k].1.data.toList name.data.toList=false->Bf (fs.take (k+1)) name.data.toList=Bf (fs.take k) name.data.toList)):=⟨Hv hlt,Jd hlt⟩;have hvl:=Co (fs.take k) name.data.toList;rw[B0z]at hvl;obtain⟨f,hfk⟩:∃f,f=fs[k]:=⟨_,rfl⟩;rw[<-hfk]at hc1 hc2 hsk HV;clear hfk;obtain⟨nm,vl⟩:=f;simp only at hc1 hc2 hsk HV
   cases hal:Pm.a0d nm.data.toList name.data.toList
   ·have HE:=(show Hid _ from HV.out.2 hal);go_wp2_with (go_at_call 189;refine(Ds _ _ _ hsk hn).mono ?_;rintro e w1 ⟨rfl,rfl⟩);exact⟨⟨k+1,by omega,by go_num,by rw[HE.out];exact hown,hbw⟩,by simp[intOf];omega⟩
   ·have HE:=(show Hid _ from HV.out.1 hal);go_wp2_with fail;refine(Ds _ _ _ hsk hn).mono ?_;rintro e w1 ⟨rfl,hw1⟩;rw[hal,hw1];have hbs:=hbw.size;clear hw1 w1 hal hc1 hsk;go_wp2_with (at_builtin;refine wpList_append_own _ rfl _ _ 99 rfl w.heap.size 9 i0 (.string ⟨#[]⟩) 1 16 underlying99 hi hz0 hz1 hz2 rfl (by decide) _ _ _ rfl (hown.alloc _) ⟨wr.heap.size,0,none⟩ 1 1 [.string vl] rfl rfl ?c1 ?c2 ?c3 ?c4 ?c5 ?_)
    case c1=>
     intro j u hj
     match j,hj with
     |0,hj=>simp at hj;subst hj;simp[Addr.add]
    case c2=>intro u hu;simp at hu;subst hu;rfl
    case c3=>unfold maxLen;omega
    case c4=>omega
    case c5=>have:=hbw.size;simp;omega
    intro v' w2 hown' hgrow _;have hb3:Bw w w2:=(hbw.alloc hbw.size _).grown hgrow (by have:=hbw.size;simp;omega) (Bx hown);clear hgrow;go_wp2;refine⟨⟨k+1,by omega,by go_num,?_,hb3⟩,by simp[intOf];omega⟩;rw[HE.out,A0z,B2z];exact hown'
  ·have HT:Hid (fs.take k=fs):=Aq (by omega);rw[HT.out]at hown;obtain⟨a',c',rfl,hst⟩:=Dg.of_owns hown;go_wp2;go_ret;exact⟨⟨a',c',rfl,hst⟩,hbw⟩
theorem a3E(ps:List Prm)(pa:Oa)(pc:Nat)(n:By)(w:World)(h:Df ps pa w)(hnp:ps.length<=1000000):
  Calls prog 314 #[.slice pa ps.length pc,.string n] w λx w'=>x=.returned (.string (stG n.data.toList ps))/\Bw w w':=by
 have HP:=hid h;generalize hRES:stG n.data.toList ps=RES;have HRES:Hid (stG n.data.toList (ps.drop 0)=RES):=hRES;clear h hRES;go_enter func314,ntmps314;go_wp2_with fail
 go_loopw [5] (λi wr=>∃k:Nat,k<=ps.length/\i=.int .i64 k/\Hid (stG n.data.toList (ps.drop k)=RES)/\Bw w wr) (λi _=>ps.length-(intOf i).toNat)
 case atStart=>exact⟨0,Ah _,rfl,HRES,Ad _ _⟩
 case round=>
  obtain⟨k,hk,rfl,HK,hbw⟩:=hrel;by_cases hlt:k<ps.length
  ·obtain⟨g,rfl,hg,hc1,hc2⟩:=(HP.out.below hbw) k hlt;have hs:=HK.out;rw[<-Ax hlt,stG]at hs;have HS:=hid hs;generalize ps[k]=p at *
   obtain⟨pn,pv⟩:=p;simp only at hc1 hc2 HS;have hbe:=Fi pn n;clear hs HK HRES;by_cases he:pn.data.toList=n.data.toList
   ·have hs:=HS.out;rw[if_pos he]at hs;subst hs;rw[Ak he]at hbe;clear HS;go_wp2_with fail;go_ret;exact⟨rfl,hbw⟩
   ·have hs:=HS.out;rw[if_neg he]at hs;have HS2:=hid hs;rw[Ao he]at hbe;clear HS hs;go_wp2_with fail;exact⟨⟨k+1,by omega,by go_num,HS2,hbw⟩,by simp[intOf];omega⟩
  ·have hne:¬(k:Int)<(ps.length:Int):=by omega
   have hs:=HK.out;rw[Az (by omega),stG]at hs;subst hs;clear HK HRES;go_wp2_with fail;go_ret;exact⟨rfl,hbw⟩
def Uh(l:List By)(s:L8):Bool:=l.any λx=>decide (x.data.toList=s)
theorem a7L(l:List By)(a:Oa)(c:Nat)(s:By)(w:World)(h:Dg l a w)(hl:l.length<=1000000):
  Calls prog 313 #[.slice a l.length c,.string s] w λx w'=>x=.returned (.bool (Uh l s.data.toList))/\Bw w w':=by
 have HP:=hid h;generalize hRES:Uh l s.data.toList=RES;have HRES:Hid (Uh (l.drop 0) s.data.toList=RES):=hRES;clear h hRES;go_enter func313,ntmps313;go_wp2_with fail
 go_loopw [5] (λi wr=>∃k:Nat,k<=l.length/\i=.int .i64 k/\Hid (Uh (l.drop k) s.data.toList=RES)/\Bw w wr) (λi _=>l.length-(intOf i).toNat)
 case atStart=>exact⟨0,Ah _,rfl,HRES,Ad _ _⟩
 case round=>
  obtain⟨k,hk,rfl,HK,hbw⟩:=hrel;by_cases hlt:k<l.length
  ·obtain⟨g,rfl,hg,hc⟩:=(HP.out.below hbw) k hlt;have hs:=HK.out;unfold Uh at hs;rw[<-Ax hlt,List.any_cons]at hs;have HS:=hid hs;generalize l[k]=x at *
   have hbe:=Fi x s;clear hs HK HRES;by_cases he:x.data.toList=s.data.toList
   ·have hs:=HS.out;rw[Ak he,D5z]at hs;subst hs;rw[Ak he]at hbe;clear HS;go_wp2_with fail;go_ret;exact⟨rfl,hbw⟩
   ·have hs:=HS.out;rw[Ao he,D8z]at hs;have HS2:Hid (Uh (l.drop (k+1)) s.data.toList=RES):=hs;rw[Ao he]at hbe;clear HS hs;go_wp2_with fail;exact⟨⟨k+1,by omega,by go_num,HS2,hbw⟩,by simp[intOf];omega⟩
  ·have hne:¬(k:Int)<(l.length:Int):=by omega
   have hs:=HK.out;unfold Uh at hs;rw[Az (by omega),List.any_nil]at hs;subst hs;clear HK HRES;go_wp2_with fail;go_ret;exact⟨rfl,hbw⟩
theorem c3I(v:By):Hk v=(decide (0<=Lib.indexByte v.data.toList 13)||(decide (0<=Lib.indexByte v.data.toList 10)||decide (0<=Lib.indexByte v.data.toList 0))):=by
 rw[<-Lib.contains_iff_indexByte,<-Lib.contains_iff_indexByte,<-Lib.contains_iff_indexByte];unfold Hk;rw[B9z];simp only[List.any_eq_true,Bool.or_eq_true,beq_iff_eq,List.contains_iff_mem];constructor
 ·rintro⟨x,hx,(rfl|rfl)|rfl⟩
  ·exact .inl hx
  ·exact .inr (.inl hx)
  ·exact .inr (.inr hx)
 ·rintro(h|h|h)
  ·exact⟨_,h,.inl (.inl rfl)⟩
  ·exact⟨_,h,.inl (.inr rfl)⟩
  ·exact⟨_,h,.inr rfl⟩
theorem a7M(s:By)(c:UInt8)(n:Int)(hn:(c.toNat:Int)=n)(w:World)(hs:s.size<=maxLen):
  Calls prog 178 #[.string s,.int .u8 n] w λe w'=>e=.returned (.int .i64 (Lib.indexByte s.data.toList c))/\w'=w:=by
 subst hn;exact Hf s c w hs
theorem a7N(l:List Prm)(a:Oa)(c:Nat)(w:World)(h:Df l a w)(hl:l.length<=100000000)(hz:∀i (h:i<l.length),l[i].2.size<=maxLen):
  Calls prog 266 #[.slice a l.length c] w λx w'=>x=.returned (.bool (!(l.any λp=>Hk p.2)))/\Bw w w':=by
 have HP:=hid h;have HZ:=hid hz;generalize hRES:(l.any λp=>Hk p.2)=RES;have HRES:Hid (((l.drop 0).any λp=>Hk p.2)=RES):=hRES;clear h hRES hz;go_enter func266,ntmps266;go_wp2_with fail
 go_loopw [3,4,5,6] (λi _ _ _ wr=>∃k:Nat,k<=l.length/\i=.int .i64 k/\Hid (((l.drop k).any λp=>Hk p.2)=RES)/\Bw w wr) (λi _ _ _ _=>l.length-(intOf i).toNat)
 case atStart=>exact⟨0,Ah _,rfl,HRES,Ad _ _⟩
 case round=>
  obtain⟨k,hk,rfl,HK,hbw⟩:=hrel;by_cases hlt:k<l.length
  ·obtain⟨g,rfl,hg,hc1,hc2⟩:=(HP.out.below hbw) k hlt;have hs:=HK.out;rw[<-Ax hlt,List.any_cons,c3I]at hs;have HS:=hid hs;have hzk:=HZ.out k hlt;generalize l[k]=x at *
   obtain⟨xn,xv⟩:=x;simp only at hc1 hc2 HS hzk;have R1:=hid (λW=>a7M xv 13 13 rfl W hzk);have R2:=hid (λW=>a7M xv 10 10 rfl W hzk);have R3:=hid (λW=>a7M xv 0 0 rfl W hzk);generalize Lib.indexByte xv.data.toList 13=I1 at *
   generalize Lib.indexByte xv.data.toList 10=I2 at *
   generalize Lib.indexByte xv.data.toList 0=I3 at *
   clear hs HK HRES;go_wp2_with fail;refine(R1.out _).mono ?_;rintro e w1 ⟨rfl,hw1⟩;rw[hw1];clear hw1 w1 R1;go_wp2_with fail;refine(R2.out _).mono ?_;rintro e w1 ⟨rfl,hw1⟩;rw[hw1];clear hw1 w1 R2;go_wp2_with fail;refine(R3.out _).mono ?_;rintro e w1 ⟨rfl,hw1⟩;rw[hw1];clear hw1 w1 R3;by_cases n1:0<=I1
   ·have hs:=HS.out;rw[Ak n1,D5z,D5z]at hs;subst hs;clear HS;go_wp2_with fail;go_ret;exact⟨rfl,hbw⟩
   ·by_cases n2:0<=I2
    ·have hs:=HS.out;rw[Ao n1,Ak n2,D8z,D5z,D5z]at hs;subst hs;clear HS;go_wp2_with fail;go_ret;exact⟨rfl,hbw⟩
    ·by_cases n3:0<=I3
     ·have hs:=HS.out;rw[Ao n1,Ao n2,Ak n3,D8z,D8z,D5z]at hs;subst hs;clear HS;go_wp2_with fail;go_ret;exact⟨rfl,hbw⟩
     ·have hs:=HS.out;rw[Ao n1,Ao n2,Ao n3,D8z,D8z,D8z]at hs;have HS2:=hid hs;clear HS hs;go_wp2_with fail;exact⟨⟨k+1,by omega,by go_num,HS2,hbw⟩,by simp[intOf];omega⟩
  ·have hne:¬(k:Int)<(l.length:Int):=by omega
   have hs:=HK.out;rw[Az (by omega),List.any_nil]at hs;subst hs;clear HK HRES;go_wp2_with fail;go_ret;exact⟨rfl,hbw⟩
def b7M:By:=⟨#[99,111,110,110,101,99,116,105,111,110]⟩
theorem Ok(qm qt qb:By)(fs:List Prm)(fa:Oa)(fc:Nat)(w:World)(hf:Nc fs fa w)(hl:fs.length<=1000000)(hz:∀i (h:i<fs.length),fs[i].1.size<=maxLen)(hz2:∀x∈Bf fs Mq.data.toList,x.size<=maxLen):
  Calls prog 218 #[.agg #[.string qm,.string qt,.slice fa fs.length fc,.string qb]] w λe w'=>e=.returned (.bool (Re fs))/\Bw w w':=by
 have hA:=bA w (.cells #[.string qm,.string qt,.slice fa fs.length fc,.string qb] 47);have HV0:=Oj fs fa fc b7M _ (hf.below hA) (by omega) (by decide) hz;rw[c5C fs (show b7M.data.toList.map Pm.low=Mq.data.toList.map Pm.low by decide)]at HV0;have HV:=hid HV0;have hvl:(Bf fs Mq.data.toList).length<=1000000:=Aj (Co _ _) hl;unfold Re;generalize Bf fs Mq.data.toList=L at *
 unfold b7M at HV;unfold Le;have HZ:=hid hz2;have HRES0:Hid (((L.drop 0).any λx=>Pm.a0d x.data.toList (ByteArray.mk #[99,108,111,115,101]).data.toList)=L.any λx=>Pm.a0d x.data.toList (ByteArray.mk #[99,108,111,115,101]).data.toList):=hid (by rw[D6z]);generalize (L.any λx=>Pm.a0d x.data.toList (ByteArray.mk #[99,108,111,115,101]).data.toList)=RES at *
 clear hf hl hz hz2 HV0;go_enter func218,ntmps218;go_wp2_with (go_at_call 188;refine HV.out.mono ?_;rintro e w1 ⟨⟨a',c',rfl,hst⟩,hb1⟩);have hB1:=Bc hA hb1;have HST:=hid hst;clear HV hst hA hb1
 go_loopw [4,5] (λi _ wr=>∃k:Nat,k<=L.length/\i=.int .i64 k/\Hid (((L.drop k).any λx=>Pm.a0d x.data.toList (ByteArray.mk #[99,108,111,115,101]).data.toList)=RES)/\Bw w1 wr) (λi _ _=>L.length-(intOf i).toNat)
 case atStart=>exact⟨0,Ah _,rfl,HRES0,Ad _ _⟩
 case round=>
  obtain⟨k,hk,rfl,HK,hbw⟩:=hrel;by_cases hlt:k<L.length
  ·obtain⟨g,rfl,hg,hc⟩:=(HST.out.below hbw) k hlt;have hzk:=HZ.out L[k] (As hlt);have hs:=HK.out;rw[<-Ax hlt,List.any_cons]at hs;have HS:=hid hs;generalize L[k]=x at *
   have HAL:=hid (λW=>Ds x ⟨#[99,108,111,115,101]⟩ W hzk (by decide));generalize Pm.a0d x.data.toList (ByteArray.mk #[99,108,111,115,101]).data.toList=b at *
   clear hs HK HRES0 hzk
   cases b
   ·have hs:=HS.out;rw[D8z]at hs;have HS2:=hid hs;clear HS hs;go_wp2_with (go_at_call 189;refine(HAL.out _).mono ?_;rintro e w2 ⟨rfl,rfl⟩);exact⟨⟨k+1,by omega,by go_num,HS2,hbw⟩,by simp[intOf];omega⟩
   ·have hs:=HS.out;rw[D5z]at hs;subst hs;clear HS;go_wp2_with (go_at_call 189;refine(HAL.out _).mono ?_;rintro e w2 ⟨rfl,rfl⟩);go_ret;exact⟨rfl,Bc hB1 hbw⟩
  ·have hne:¬(k:Int)<(L.length:Int):=by omega
   have hs:=HK.out;rw[Az (by omega),List.any_nil]at hs;subst hs;clear HK HRES0;go_wp2_with fail;go_ret;exact⟨rfl,Bc hB1 hbw⟩
def Bl(g:Nat)(cs:Array Value)(t:TypeId)(w:World):Prop:=w.heap[g]?=some (.cells cs t (0,0))
theorem Bl.new(w:World)(cs:Array Value)(t:TypeId):Bl w.heap.size cs t (w.alloc (.cells cs t)):=Ag w _
theorem Bl.lt{g:Nat}{cs:Array Value}{t:TypeId}{w:World}(h:Bl g cs t w):g<w.heap.size:=by
 unfold Bl at h;rcases B8z g w.heap.size with h'|h'
 ·exact h'
 ·simp[Array.getElem?_eq_none h']at h
theorem Bl.below{g:Nat}{cs:Array Value}{t:TypeId}{w w':World}(h:Bl g cs t w)(hb:Bw w w'):Bl g cs t w':=by
 have:=hb.block g h.lt;unfold Bl at *;rw[this];exact h
theorem Bl.alloc{g:Nat}{cs:Array Value}{t:TypeId}{w:World}(h:Bl g cs t w)(o:Obj):Bl g cs t (w.alloc o):=h.below (bA _ o)
theorem Bl.cell{g:Nat}{cs:Array Value}{t:TypeId}{w:World}(h:Bl g cs t w)(j:Nat):w.cell? ⟨g,j,none⟩=cs[j]?:=Ab h j
theorem Bl.other{g b:Nat}{cs:Array Value}{t:TypeId}{w:World}(h:Bl g cs t w)(hn:g≠b)(j:Nat)(v:Value):Bl g cs t (w.setCell ⟨b,j,none⟩ v):=by
 unfold Bl;rw[heap_setCell_other _ ⟨b,j,none⟩ g _ hn];exact h
theorem Bl.otherA{g b:Nat}{cs:Array Value}{t:TypeId}{w:World}(h:Bl g cs t w)(hn:g≠b)(st:Int)(vv:Value)(bb:By)(cl:Bool):Bl g cs t (setA b st vv bb cl w):=
 (((h.other hn _ _).other hn _ _).other hn _ _).other hn _ _
theorem AnB.bl{g:Nat}{st:Int}{vv:Value}{b:By}{cl:Bool}{w:World}(h:AnB g st vv b cl w):Bl g #[.int .i64 st,vv,.string b,.bool cl] 49 w:=h
def c3J(G:Option An)(w:World)(x:Ending)(w':World):Prop:=
 (match G with
  |none=>x=.returned (.tuple #[.agg #[.int .i64 0,.slice none 0 0,.string ⟨#[]⟩,.bool false],.bool false])
  |some a=>∃vv,x=.returned (.tuple #[.agg #[.int .i64 a.st,vv,.string a.b,.bool false],.bool true])/\w'.ownsRow w.heap.size 131 2 vv a.fs.length (Bg a.fs))/\Bw w w'
theorem b7N(h0 q0:Array Value)(w:World):
  Bw w (((w.alloc (.cells h0 73)).alloc (.cells q0 47)).alloc (.cells #[.int .i64 0,.slice none 0 0,.string ⟨#[]⟩,.bool false] 49))/\Bl w.heap.size h0 73 (((w.alloc (.cells h0 73)).alloc (.cells q0 47)).alloc (.cells #[.int .i64 0,.slice none 0 0,.string ⟨#[]⟩,.bool false] 49))/\Bl (w.heap.size+1) q0 47 (((w.alloc (.cells h0 73)).alloc (.cells q0 47)).alloc (.cells #[.int .i64 0,.slice none 0 0,.string ⟨#[]⟩,.bool false] 49))/\AnB (w.heap.size+1+1) 0 (.slice none 0 0) ⟨#[]⟩ false (((w.alloc (.cells h0 73)).alloc (.cells q0 47)).alloc (.cells #[.int .i64 0,.slice none 0 0,.string ⟨#[]⟩,.bool false] 49)):=by
 have h1:=bA w (.cells h0 73);have b1:=Bl.new w h0 73;have z1:(w.alloc (.cells h0 73)).heap.size=w.heap.size+1:=by simp
 generalize w.alloc (.cells h0 73)=W1 at *
 have h2:=h1.alloc h1.size (.cells q0 47);have b2:=Bl.new W1 q0 47;have k1:=b1.alloc (.cells q0 47);have z2:(W1.alloc (.cells q0 47)).heap.size=w.heap.size+1+1:=by simp[z1]
 rw[z1]at b2;generalize W1.alloc (.cells q0 47)=W2 at *
 have b3:=Bl.new W2 #[.int .i64 0,.slice none 0 0,.string ⟨#[]⟩,.bool false] 49;rw[z2]at b3;exact⟨h2.alloc h2.size _,k1.alloc _,b2.alloc _,b3⟩
theorem AnB.setB{g:Nat}{st:Int}{vv:Value}{b:By}{cl:Bool}{w:World}(h:AnB g st vv b cl w)(b':By):AnB g st vv b' cl (w.setCell ⟨g,2,none⟩ (.string b')):=by
 unfold AnB at *;rw[heap_setCell_same _ g 2 _ _ _ h];rfl
theorem AnB.setV{g:Nat}{st:Int}{vv:Value}{b:By}{cl:Bool}{w:World}(h:AnB g st vv b cl w)(vv':Value):AnB g st vv' b cl (w.setCell ⟨g,1,none⟩ vv'):=by
 unfold AnB at *;rw[heap_setCell_same _ g 1 _ _ _ h];rfl
theorem AnB.other{g b:Nat}{st:Int}{vv:Value}{bb:By}{cl:Bool}{w:World}(h:AnB g st vv bb cl w)(hn:g≠b)(j:Nat)(v:Value):AnB g st vv bb cl (w.setCell ⟨b,j,none⟩ v):=h.bl.other hn j v
theorem Yw(hk hst:Int)(ht hn qm qt qb:By)(fa:Oa)(fn fc:Nat)(ps:List Prm)(pa:Oa)(pc:Nat)(w:World)(hp:Df ps pa w)(hl:ps.length<=1000000):
  Calls prog 264 #[.agg #[.int .i64 hk,.int .i64 hst,.string ht,.string hn],.agg #[.string qm,.string qt,.slice fa fn fc,.string qb],.slice pa ps.length pc] w (c3J (Ew ⟨hk,hst,ht,hn⟩ qb ps) w):=by
 have HST:=hid (λW (hW:Bw w W)=>a3E ps pa pc hn W (hp.below hW) hl);obtain⟨hA,H0,Q0,A0⟩:=b7N #[.int .i64 hk,.int .i64 hst,.string ht,.string hn] #[.string qm,.string qt,.slice fa fn fc,.string qb] w;have hG:Ew ⟨hk,hst,ht,hn⟩ qb ps=if hk=0 then some ⟨hst,[],ht⟩else if hk=1 then some ⟨hst,[],qb⟩else if hk=2 then some ⟨hst,[],stG hn.data.toList ps⟩else if hk=3 then some ⟨hst,[(ht,stG hn.data.toList ps)],⟨#[]⟩⟩else none:=rfl
 generalize Ew ⟨hk,hst,ht,hn⟩ qb ps=G at *
 generalize stG hn.data.toList ps=SV at *
 have HG:=hid hG;have e3:=H0.cell 3;have l0:=H0.lt;simp only[List.getElem?_toArray]at e3;clear hp hG;go_enter func264,ntmps264;go_wp2_with fail;generalize ((w.alloc (.cells #[.int .i64 hk,.int .i64 hst,.string ht,.string hn] 73)).alloc (.cells #[.string qm,.string qt,.slice fa fn fc,.string qb] 47)).alloc (.cells #[.int .i64 0,.slice none 0 0,.string ⟨#[]⟩,.bool false] 49)=w1 at *
 refine(HST.out _ hA).mono ?_;rintro x w2 ⟨rfl,hb2⟩;have H2:=H0.below hb2;have Q2:=Q0.below hb2;have A2:=A0.below hb2;have hB2:=Bc hA hb2;have la:=A2.lt;have b3:=bA w2 (.cells #[.int .i64 hst,.slice none 0 0,.string ⟨#[]⟩,.bool false] 49);have C3:AnB w2.heap.size hst (.slice none 0 0) ⟨#[]⟩ false (w2.alloc (.cells #[.int .i64 hst,.slice none 0 0,.string ⟨#[]⟩,.bool false] 49)):=Ag w2 _;have n1:w.heap.size≠w2.heap.size:=by omega
 have n2:w.heap.size+1≠w2.heap.size:=by omega
 have n3:w.heap.size+1+1≠w2.heap.size:=by omega
 have H3:=H2.below b3;have Q3:=Q2.below b3;have A3:=A2.below b3;have hB3:=Bc hB2 b3;have e1:=H2.cell 1;simp only[List.getElem?_toArray]at e1;clear HST H0 Q0 A0 H2 Q2 A2 hb2 hA;go_upto_region 3 with fail;generalize w2.alloc (.cells #[.int .i64 hst,.slice none 0 0,.string ⟨#[]⟩,.bool false] 49)=w3 at *
 have k0:w3.cell? ⟨w.heap.size,0,none⟩=some (.int .i64 hk):=(H3.cell 0).trans rfl;have k2:w3.cell? ⟨w.heap.size,2,none⟩=some (.string ht):=(H3.cell 2).trans rfl;have q3:w3.cell? ⟨w.heap.size+1,3,none⟩=some (.string qb):=(Q3.cell 3).trans rfl;have lh:=H3.lt;have lq:=Q3.lt;obtain⟨c0,c1,c2,c3⟩:=C3.cells;have f0:=C3.free 0;have f1:=C3.free 1;have f2:=C3.free 2;have f3:=C3.free 3;have lc:=C3.lt;have la3:=A3.lt;have HA3:=hid A3;have HC3:=hid C3;clear e1 H3 Q3 A3 C3 e3;have hhead:∀k:Int,k=0\/k=1\/k=2\/k=3\/(k≠0/\k≠1/\k≠2/\k≠3):=λk=>by omega
 rcases hhead hk with rfl|rfl|rfl|rfl|⟨m0,m1,m2,m3⟩
 ·have hg:=HG.out;simp at hg;subst hg;have C4:=HC3.out.setB ht;have A4:=HA3.out.other n3 2 (.string ht);have hB4:=hB3.setCell (p:=⟨w2.heap.size,2,none⟩) hB2.size (.string ht);obtain⟨x0,x1,x2,x3⟩:=C4.cells;obtain⟨y0,y1,y2,y3⟩:=A4.cells;have g0:=A4.free 0;have g1:=A4.free 1;have g2:=A4.free 2;have g3:=A4.free 3;have lA:=A4.lt;have lC:=C4.lt;obtain⟨d0,d1,d2,d3⟩:=(A4.set hst (.slice none 0 0) ht false).cells;have HBZ:=hid (Bm (st:=hst) (vv:=.slice none 0 0) (b:=ht) (cl:=false) hB4 (show w.heap.size<=w.heap.size+1+1 by omega));unfold setA at d0 d1 d2 d3 HBZ;clear HG HA3 HC3 A4 C4 hB4;go_wp2_with fail;refine Ae (v:=.tuple #[.agg #[.int .i64 hst,.slice none 0 0,.string ht,.bool false],.bool true]) (by simp[results,results264,go_sem,d0,d1,d2,d3]) rfl ?_;exact⟨⟨_,rfl,Am _ _ _ _⟩,HBZ.out⟩
 ·have hg:=HG.out;simp at hg;subst hg;have C4:=HC3.out.setB qb;have A4:=HA3.out.other n3 2 (.string qb);have hB4:=hB3.setCell (p:=⟨w2.heap.size,2,none⟩) hB2.size (.string qb);obtain⟨x0,x1,x2,x3⟩:=C4.cells;obtain⟨y0,y1,y2,y3⟩:=A4.cells;have g0:=A4.free 0;have g1:=A4.free 1;have g2:=A4.free 2;have g3:=A4.free 3;have lA:=A4.lt;have lC:=C4.lt;obtain⟨d0,d1,d2,d3⟩:=(A4.set hst (.slice none 0 0) qb false).cells;have HBZ:=hid (Bm (st:=hst) (vv:=.slice none 0 0) (b:=qb) (cl:=false) hB4 (show w.heap.size<=w.heap.size+1+1 by omega));unfold setA at d0 d1 d2 d3 HBZ;clear HG HA3 HC3 A4 C4 hB4;go_wp2_with fail;refine Ae (v:=.tuple #[.agg #[.int .i64 hst,.slice none 0 0,.string qb,.bool false],.bool true]) (by simp[results,results264,go_sem,d0,d1,d2,d3]) rfl ?_;exact⟨⟨_,rfl,Am _ _ _ _⟩,HBZ.out⟩
 ·have hg:=HG.out;simp at hg;subst hg;have C4:=HC3.out.setB SV;have A4:=HA3.out.other n3 2 (.string SV);have hB4:=hB3.setCell (p:=⟨w2.heap.size,2,none⟩) hB2.size (.string SV);obtain⟨x0,x1,x2,x3⟩:=C4.cells;obtain⟨y0,y1,y2,y3⟩:=A4.cells;have g0:=A4.free 0;have g1:=A4.free 1;have g2:=A4.free 2;have g3:=A4.free 3;have lA:=A4.lt;have lC:=C4.lt;obtain⟨d0,d1,d2,d3⟩:=(A4.set hst (.slice none 0 0) SV false).cells;have HBZ:=hid (Bm (st:=hst) (vv:=.slice none 0 0) (b:=SV) (cl:=false) hB4 (show w.heap.size<=w.heap.size+1+1 by omega));unfold setA at d0 d1 d2 d3 HBZ;clear HG HA3 HC3 A4 C4 hB4;go_wp2_with fail;refine Ae (v:=.tuple #[.agg #[.int .i64 hst,.slice none 0 0,.string SV,.bool false],.bool true]) (by simp[results,results264,go_sem,d0,d1,d2,d3]) rfl ?_;exact⟨⟨_,rfl,Am _ _ _ _⟩,HBZ.out⟩
 ·have hg:=HG.out;simp at hg;subst hg;have zs:(w3.setCell ⟨w2.heap.size,1,none⟩ (.slice (some ⟨w3.heap.size,0,none⟩) 1 1)).heap.size=w3.heap.size:=by simp[World.setCell]
  have C4:=HC3.out.setV (.slice (some ⟨w3.heap.size,0,none⟩) 1 1);have A4:=HA3.out.other n3 1 (.slice (some ⟨w3.heap.size,0,none⟩) 1 1);have hB4:=hB3.setCell (p:=⟨w2.heap.size,1,none⟩) hB2.size (.slice (some ⟨w3.heap.size,0,none⟩) 1 1);have b5:=(Ad w3.heap.size (w3.setCell ⟨w2.heap.size,1,none⟩ (.slice (some ⟨w3.heap.size,0,none⟩) 1 1))).alloc (Nat.le_of_eq zs.symm) (.cells #[.string ht,.string SV] 131);have OW:=Hq ht SV w.heap.size (w3.setCell ⟨w2.heap.size,1,none⟩ (.slice (some ⟨w3.heap.size,0,none⟩) 1 1)) (by rw[zs];exact hB3.size);rw[zs]at OW;have C5:=C4.below (b5.mono (Nat.le_of_eq zs));have A5:=A4.below (b5.mono (Nat.le_of_eq zs));have hB5:=hB4.trans (b5.mono hB3.size);obtain⟨x0,x1,x2,x3⟩:=C5.cells;obtain⟨y0,y1,y2,y3⟩:=A5.cells;have g0:=A5.free 0;have g1:=A5.free 1;have g2:=A5.free 2;have g3:=A5.free 3;have lA:=A5.lt;have lC:=C5.lt;obtain⟨d0,d1,d2,d3⟩:=(A5.set hst (.slice (some ⟨w3.heap.size,0,none⟩) 1 1) ⟨#[]⟩ false).cells;have neF:(Value.slice (some ⟨w3.heap.size,0,none⟩) 1 1).ownBlock≠some (w.heap.size+1+1):=by simp[Value.ownBlock];omega
  have HBZ:=hid (Bm (st:=hst) (vv:=.slice (some ⟨w3.heap.size,0,none⟩) 1 1) (b:=⟨#[]⟩) (cl:=false) hB5 (show w.heap.size<=w.heap.size+1+1 by omega));have HOZ:=hid (Cg (g:=w.heap.size+1+1) (st:=hst) (vv:=.slice (some ⟨w3.heap.size,0,none⟩) 1 1) (b:=⟨#[]⟩) (cl:=false) OW neF);unfold setA at d0 d1 d2 d3 HBZ HOZ;clear HG HA3 HC3 A4 C4 hB4 A5 C5 hB5 OW b5 zs;go_upto_region 13 with fail;generalize (w3.setCell ⟨w2.heap.size,1,none⟩ (.slice (some ⟨w3.heap.size,0,none⟩) 1 1)).alloc (.cells #[.string ht,.string SV] 131)=w5 at *
  clear c0 c1 c2 c3 f0 f1 f2 f3;go_wp2_with fail;refine Ae (v:=.tuple #[.agg #[.int .i64 hst,.slice (some ⟨w3.heap.size,0,none⟩) 1 1,.string ⟨#[]⟩,.bool false],.bool true]) (by simp[results,results264,go_sem,d0,d1,d2,d3]) rfl ?_;exact⟨⟨_,rfl,HOZ.out⟩,HBZ.out⟩
 ·have hg:=HG.out;rw[if_neg m0,if_neg m1,if_neg m2,if_neg m3]at hg;subst hg;have j0:(hk==0)=false:=by simpa using m0
  have j1:(hk==1)=false:=by simpa using m1
  have j2:(hk==2)=false:=by simpa using m2
  have j3:(hk==3)=false:=by simpa using m3
  obtain⟨y0,y1,y2,y3⟩:=HA3.out.cells;have g0:=HA3.out.free 0;have g1:=HA3.out.free 1;have g2:=HA3.out.free 2;have g3:=HA3.out.free 3;obtain⟨d0,d1,d2,d3⟩:=(HA3.out.set 0 (.slice none 0 0) ⟨#[]⟩ false).cells;have HBZ:=hid (Bm (st:=0) (vv:=.slice none 0 0) (b:=⟨#[]⟩) (cl:=false) hB3 (show w.heap.size<=w.heap.size+1+1 by omega));unfold setA at d0 d1 d2 d3 HBZ;clear HG HA3 HC3 m0 m1 m2 m3;go_wp2_with fail;refine Ae (v:=.tuple #[.agg #[.int .i64 0,.slice none 0 0,.string ⟨#[]⟩,.bool false],.bool false]) (by simp[results,results264,go_sem,d0,d1,d2,d3]) rfl ?_;exact⟨rfl,HBZ.out⟩
theorem Yx(fs:List Pr2)(a:Oa)(cap:Nat)(name:By)(w:World)(hf:Nc fs a w)(hl:fs.length<=1000000000)(hn:name.size<=maxLen)(hsz:∀i (h:i<fs.length),fs[i].1.size<=maxLen):
  Calls prog 188 #[.slice a fs.length cap,.string name] w λe w'=>(∃a' c',e=.returned (.slice a' (Bf fs name.data.toList).length c')/\w'.ownsRow w.heap.size 9 1 (.slice a' (Bf fs name.data.toList).length c') (Bf fs name.data.toList).length ((Bf fs name.data.toList).map Value.string))/\Bw w w':=by
 obtain⟨i0,hi,hz0,hz1,hz2⟩:=info_parts Tryz.info9;have HF:Hid (Nc fs a w):=hf;have HZ:Hid (∀i (h:i<fs.length),fs[i].1.size<=maxLen):=hsz;clear hf hsz;go_enter func188,ntmps188;go_wp2
 go_loopw [5,6,7] (λv i _ wr=>∃k:Nat,k<=fs.length/\i=.int .i64 k/\wr.ownsRow w.heap.size 9 1 v (Bf (fs.take k) name.data.toList).length ((Bf (fs.take k) name.data.toList).map Value.string)/\Bw w wr) (λ_ i _ _=>fs.length-(intOf i).toNat)
 case atStart=>exact⟨0,Ah _,rfl,Am _ _ _ _,Ad _ _⟩
 case round=>
  obtain⟨k,hk,rfl,hown,hbw⟩:=hrel;by_cases hlt:k<fs.length
  ·obtain⟨g,o,rfl,hg,hc1,hc2⟩:=(HF.out.below hbw) k hlt;have hsk:=HZ.out k hlt;have HV:Hid ((Pm.a0d fs[k].1.data.toList name.data.toList=true->Bf (fs.take (k+1)) name.data.toList=Bf (fs.take k) name.data.toList++[fs[k].2])/\(Pm.a0d fs[k].1.data.toList name.data.toList=false->Bf (fs.take (k+1)) name.data.toList=Bf (fs.take k) name.data.toList)):=⟨Hv hlt,Jd hlt⟩;have hvl:=Co (fs.take k) name.data.toList;rw[B0z]at hvl;obtain⟨f,hfk⟩:∃f,f=fs[k]:=⟨_,rfl⟩;rw[<-hfk]at hc1 hc2 hsk HV;clear hfk;obtain⟨nm,vl⟩:=f;simp only at hc1 hc2 hsk HV
   cases hal:Pm.a0d nm.data.toList name.data.toList
   ·have HE:=(show Hid _ from HV.out.2 hal);go_wp2_with (go_at_call 189;refine(Ds _ _ _ hsk hn).mono ?_;rintro e w1 ⟨rfl,rfl⟩);exact⟨⟨k+1,by omega,by go_num,by rw[HE.out];exact hown,hbw⟩,by simp[intOf];omega⟩
   ·have HE:=(show Hid _ from HV.out.1 hal);go_wp2_with fail;refine(Ds _ _ _ hsk hn).mono ?_;rintro e w1 ⟨rfl,hw1⟩;rw[hal,hw1];have hbs:=hbw.size;clear hw1 w1 hal hc1 hsk;go_wp2_with (at_builtin;refine wpList_append_own _ rfl _ _ 99 rfl w.heap.size 9 i0 (.string ⟨#[]⟩) 1 16 underlying99 hi hz0 hz1 hz2 rfl (by decide) _ _ _ rfl (hown.alloc _) ⟨wr.heap.size,0,none⟩ 1 1 [.string vl] rfl rfl ?c1 ?c2 ?c3 ?c4 ?c5 ?_)
    case c1=>
     intro j u hj
     match j,hj with
     |0,hj=>simp at hj;subst hj;simp[Addr.add]
    case c2=>intro u hu;simp at hu;subst hu;rfl
    case c3=>unfold maxLen;omega
    case c4=>omega
    case c5=>have:=hbw.size;simp;omega
    intro v' w2 hown' hgrow _;have hb3:Bw w w2:=(hbw.alloc hbw.size _).grown hgrow (by have:=hbw.size;simp;omega) (Bx hown);clear hgrow;go_wp2;refine⟨⟨k+1,by omega,by go_num,?_,hb3⟩,by simp[intOf];omega⟩;rw[HE.out,A0z,B2z];exact hown'
  ·have HT:Hid (fs.take k=fs):=Aq (by omega);rw[HT.out]at hown;obtain⟨a',c',rfl⟩:=Ce hown;have HOW:=hid hown;go_wp2;go_ret;exact⟨⟨a',c',rfl,HOW.out⟩,hbw⟩
structure ArI(w0 w:World)(v0:Value)(q:Array Value)(st:Int)(b:By)(fs:List Prm)(vv:Value)(wr:World):Prop where
 q:Bl w.heap.size q 47 wr
 a:AnB (w.heap.size+1) st vv b false wr
 r:AnB (w.heap.size+1+1) 0 (.slice none 0 0) ⟨#[]⟩ false wr
 o:wr.ownsRow w0.heap.size 131 2 vv fs.length (Bg fs)
 n0:vv.ownBlock≠some w.heap.size
 n1:vv.ownBlock≠some (w.heap.size+1)
 n2:vv.ownBlock≠some (w.heap.size+1+1)
 bl:Bw w0 wr
 hB:w0.heap.size<=w.heap.size
 kp:∀g,g<w.heap.size->v0.ownBlock≠some g->wr.heap[g]?=w.heap[g]?
 nk:∀g,g<w.heap.size->v0.ownBlock≠some g->vv.ownBlock≠some g
theorem ArI.lt{w0 w:World}{v0:Value}{q:Array Value}{st:Int}{b:By}{fs:List Prm}{vv:Value}{wr:World}(h:ArI w0 w v0 q st b fs vv wr):w.heap.size+1+1<wr.heap.size:=h.r.lt
theorem ArI.below{w0 w:World}{v0:Value}{q:Array Value}{st:Int}{b:By}{fs:List Prm}{vv:Value}{wr w':World}(h:ArI w0 w v0 q st b fs vv wr)(hb:Bw wr w'):ArI w0 w v0 q st b fs vv w':=
 ⟨h.q.below hb,h.a.below hb,h.r.below hb,Be h.o hb,h.n0,h.n1,h.n2,Bc h.bl hb,h.hB,λg hg hn=>by rw[hb.block g (by have:=h.r.lt;omega)];exact h.kp g hg hn,h.nk⟩
theorem ArI.set{w0 w:World}{v0:Value}{q:Array Value}{st:Int}{b:By}{fs:List Prm}{vv:Value}{wr:World}(h:ArI w0 w v0 q st b fs vv wr):ArI w0 w v0 q 500 Id [] (.slice none 0 0) (setA (w.heap.size+1) 500 (.slice none 0 0) Id false wr):=
 ⟨h.q.otherA (by omega) _ _ _ _,h.a.set _ _ _ _,h.r.bl.otherA (by omega) _ _ _ _,Am _ _ _ _,by simp[Value.ownBlock],by simp[Value.ownBlock],by simp[Value.ownBlock],Bm h.bl (by have:=h.hB;omega),h.hB,λg hg hn=>by rw[Em (by omega)];exact h.kp g hg hn,λg _ _=>by simp[Value.ownBlock]⟩
theorem Bl.keep{g:Nat}{cs:Array Value}{t:TypeId}{w w':World}(h:Bl g cs t w)(hk:w'.heap[g]?=w.heap[g]?):Bl g cs t w':=by
 unfold Bl at *;rw[hk];exact h
theorem ArI.next{w0 w:World}{v0:Value}{q:Array Value}{st:Int}{b:By}{fs:List Prm}{vk:Value}{wr w4:World}{gg cap N:Nat}{n x:By}(h:ArI w0 w v0 q st b fs vk wr){E:Obj}
  (hN:N=fs.length) (hgrow:(wr.alloc E).grownBy w4 vk.ownBlock)
  (hown:w4.ownsRow w0.heap.size 131 2 (.slice (some ⟨gg,0,none⟩) (N+1) cap) (N+1) (Bg fs++[.string n,.string x])) (hat:vk.ownBlock=some gg\/gg=wr.heap.size+1) :
  ArI w0 w v0 q st b (fs++[(n,x)]) (.slice (some ⟨gg,0,none⟩) (N+1) cap) (w4.setCell ⟨w.heap.size+1,1,none⟩ (.slice (some ⟨gg,0,none⟩) (N+1) cap))/\w4.cell? ⟨w.heap.size+1,1,none⟩=some vk/\w4.frozen? ⟨w.heap.size+1,1,none⟩=false/\w.heap.size+1<w4.heap.size/\(∀g,g<wr.heap.size->vk.ownBlock≠some g->w4.heap[g]?=wr.heap[g]?)/\wr.heap.size<=w4.heap.size:=by
 have hb3:Bw wr (wr.alloc E):=bA _ E;have lr:=h.lt;have z3:=hgrow.size;have zz:(wr.alloc E).heap.size=wr.heap.size+1:=by simp
 have blk:∀g,g<wr.heap.size->vk.ownBlock≠some g->w4.heap[g]?=wr.heap[g]?:=λg hg hn=>by
  rw[hgrow.block g (by omega) (λe=>hn e.symm),hb3.block g hg]
 have q4:=h.q.keep (blk _ (by omega) h.n0);have a4:=h.a.keep (blk _ (by omega) h.n1);have r4:=h.r.bl.keep (blk _ lr h.n2);have key:∀c,c<wr.heap.size->vk.ownBlock≠some c->gg≠c:=λc hc hn e=>by
  rcases hat with e1|e1
  ·rw[e]at e1;exact hn e1
  ·omega
 have e:Bg (fs++[(n,x)])=Bg fs++[.string n,.string x]:=Gh fs (n,x);refine⟨⟨q4.other (by omega) _ _,a4.set1 _,r4.other (by omega) _ _,?_,?_,?_,?_,?_,h.hB,?_,?_⟩,a4.cells.2.1,a4.free 1,a4.lt,blk,by omega⟩
 ·rw[e,A0z,<-hN];exact Bv hown (by have:=key _ (show w.heap.size+1<wr.heap.size by omega) h.n1;simpa[Value.ownBlock]using this) 1 _
 ·have:=key _ (show w.heap.size<wr.heap.size by omega) h.n0;simpa[Value.ownBlock]using this
 ·have:=key _ (show w.heap.size+1<wr.heap.size by omega) h.n1;simpa[Value.ownBlock]using this
 ·have:=key _ lr h.n2;simpa[Value.ownBlock]using this
 ·have hz:=h.bl.size;exact((h.bl.trans (hb3.mono hz)).grown hgrow (by omega) (λr hr=>Bx h.o r hr)).setCell (show w0.heap.size<=w.heap.size+1 by have:=h.hB;omega) _
 ·intro g hg hn;rw[heap_setCell_other _ _ _ _ (show g≠w.heap.size+1 by omega),blk g (by omega) (h.nk g hg hn)];exact h.kp g hg hn
 ·intro g hg hn;have:=key g (by omega) (h.nk g hg hn);simpa[Value.ownBlock]using this
def ArG(w0 w:World)(v0:Value)(q:Array Value)(G:Option An)(up:Value)(wr:World):Prop:=
 match G with
 |none=>up=.bool true/\ArI w0 w v0 q 0 ⟨#[]⟩ [] (.slice none 0 0) wr
 |some a=>up=.bool false/\∃vv,ArI w0 w v0 q a.st a.b a.fs vv wr
theorem c3K(qf:List Prm)(G:Option An)(ws:List Wr)(k:Nat)(h:k<ws.length):Ha qf G (ws.drop k)=Ip ws[k] qf (Ha qf G (ws.drop (k+1))):=by
 rw[<-Ax h,Ha]
end Go.Proofs.YtbiggccolpchcaaGreatDoor
