/- Joined. -/
import Derived.Test.YtbiggccolpchcaaGreatDoorJoin12
set_option maxRecDepth 100000
set_option maxHeartbeats 1000000
namespace Go.Proofs.YtbiggccolpchcaaGreatDoor
open Go.RowKit _root_.Go.Proofs.Tryz
theorem La(fs:List (By×By))(a:Oa)(cap:Nat)(name:By)(w:World)(hf:Df fs a w)(hl:fs.length<=4398046511104)(hn:name.size<=maxLen)(hsz:∀i (h:i<fs.length),fs[i].1.size<=maxLen):
  Calls prog 188 #[.slice a fs.length cap,.string name] w λe w'=>(∃a' c',e=.returned (.slice a' (Bf fs name.data.toList).length c')/\Dg (Bf fs name.data.toList) a' w')/\Bw w w':=by
 obtain⟨i0,hi,hz0,hz1,hz2⟩:=info_parts Tryz.info9;have HF:Hid (Df fs a w):=hf;have HZ:Hid (∀i (h:i<fs.length),fs[i].1.size<=maxLen):=hsz;clear hf hsz;go_enter func188,ntmps188;go_wp2
 go_loopw [5,6,7] (λv i _ wr=>∃k:Nat,k<=fs.length/\i=.int .i64 k/\wr.ownsRow w.heap.size 9 1 v (Bf (fs.take k) name.data.toList).length ((Bf (fs.take k) name.data.toList).map Value.string)/\Bw w wr) (λ_ i _ _=>fs.length-(intOf i).toNat)
 case atStart=>exact⟨0,Ah _,rfl,Am _ _ _ _,Ad _ _⟩
 case round=>
  obtain⟨k,hk,rfl,hown,hbw⟩:=hrel;by_cases hlt:k<fs.length
  ·obtain⟨g,rfl,hg,hc1,hc2⟩:=(HF.out.below hbw) k hlt;have hsk:=HZ.out k hlt;have HV:Hid ((Pm.a0d fs[k].1.data.toList name.data.toList=true->Bf (fs.take (k+1)) name.data.toList=Bf (fs.take k) name.data.toList++[fs[k].2])/\(Pm.a0d fs[k].1.data.toList name.data.toList=false->Bf (fs.take (k+1)) name.data.toList=Bf (fs.take k) name.data.toList)):=⟨Hv hlt,Jd hlt⟩;have hvl:=Co (fs.take k) name.data.toList;rw[B0z]at hvl;obtain⟨f,hfk⟩:∃f,f=fs[k]:=⟨_,rfl⟩;rw[<-hfk]at hc1 hc2 hsk HV;clear hfk;obtain⟨nm,vl⟩:=f;simp only at hc1 hc2 hsk HV
   cases hal:Pm.a0d nm.data.toList name.data.toList
   ·have HE:=(show Hid _ from HV.out.2 hal);go_wp2_with (go_at_call 189;refine(Ds _ _ _ hsk hn).mono ?_;rintro e w1 ⟨rfl,rfl⟩);exact⟨⟨k+1,by omega,by go_num,by rw[HE.out];exact hown,hbw⟩,by simp[intOf];omega⟩
   ·have HE:=(show Hid _ from HV.out.1 hal);go_wp2_with fail;refine(Ds _ _ _ hsk hn).mono ?_;rintro e w1 ⟨rfl,hw1⟩;rw[hal,hw1];have hbs:=hbw.size;clear hw1 w1 hal hc1 hsk;go_wp2_with (at_builtin;refine wpList_append_own _ rfl _ _ 99 rfl w.heap.size 9 i0 (.string ⟨#[]⟩) 1 16 underlying99 hi hz0 hz1 hz2 rfl (by decide) _ _ _ rfl (hown.alloc _) ⟨wr.heap.size,0,none⟩ 1 1 [.string vl] rfl rfl ?c1 ?c2 ?c3 ?c4 ?c5 ?_)
    case c1=>
     intro j u hj
     match j,hj with
     |0,hj=>simp at hj;subst hj;simp[Addr.add]
    case c2=>intro u hu;simp at hu;subst hu;rfl
    case c3=>unfold maxLen;omega
    case c4=>omega
    case c5=>have:=hbw.size;simp;omega
    intro v' w2 hown' hgrow _;have hb3:Bw w w2:=(hbw.alloc hbw.size _).grown hgrow (by have:=hbw.size;simp;omega) (Bx hown);clear hgrow;go_wp2;refine⟨⟨k+1,by omega,by go_num,?_,hb3⟩,by simp[intOf];omega⟩;rw[HE.out,A0z,B2z];exact hown'
  ·have HT:Hid (fs.take k=fs):=Aq (by omega);rw[HT.out]at hown;obtain⟨a',c',rfl,hst⟩:=Dg.of_owns hown;go_wp2;go_ret;exact⟨⟨a',c',rfl,hst⟩,hbw⟩
def pcs(l:L8):List (List UInt8):=if l=[]then[]else Lib.split (l.drop 1) [47]
theorem Nt{l:L8}(h:l≠[]):pcs l=Pm.ahead 47 (l.drop 1)::pcs (Pm.behind 47 (l.drop 1)):=by
 rw[pcs,if_neg h];rcases Pm.a0r 47 (l.drop 1)with hb|⟨r,hb⟩
 ·rw[Pm.a4m hb,hb,pcs,if_pos rfl,(Pm.a1s hb).2]
 ·rw[Pm.a4n hb,hb,pcs,if_neg (by simp)];rfl
theorem Vz(c:UInt8)(l:L8):(Pm.behind c l).length<=l.length:=by
 have h:=congrArg List.length (Pm.a0c c l);rw[A0z]at h;omega
def c4R:Value->Nat
 |.string b=>b.size
 |_=>0
theorem b9O{s:By}(h:0<s.size):s.data.toList≠[]:=λh'=>by
 have hl:s.data.toList.length=s.size:=by simp
 rw[h']at hl;simp at hl;omega
theorem Gz(s:By)(w:World)(hs:s.size<=4398046511104):
  Calls prog 155 #[.string s] w λe w'=>(∃(v:Value) (ts:List By),e=.returned v/\w'.ownsRow w.heap.size 9 1 v ts.length (ts.map Value.string)/\ts.map (·.data.toList)=pcs s.data.toList)/\Bw w w':=by
 obtain⟨i0,hi,hz0,hz1,hz2⟩:=info_parts Tryz.info9;by_cases h0:0<s.size
 ·have he:=Ho h0;generalize hPS:pcs s.data.toList=PS;have HPS:=hid hPS;clear hPS;go_enter func155,ntmps155;go_wp2
  go_loopw [3,4,5,6] (λv r _ _ wr=>∃(ts:List By) (rs:By),r=.string rs/\ts.length+rs.size<=s.size/\wr.ownsRow w.heap.size 9 1 v ts.length (ts.map Value.string)/\Hid (ts.map (·.data.toList)++pcs rs.data.toList=PS)/\Bw w wr) (λ_ r _ _ _=>c4R r)
  case atStart=>exact⟨[],s,rfl,by simp,Am _ _ _ _,HPS,Ad _ _⟩
  case round=>
   obtain⟨ts,rs,rfl,hle,ow,H,hbw⟩:=hrel;clear he h0;by_cases h1:0<rs.size
   ·have he1:=Ho h1;rw[Nt (b9O h1)]at H;have hex:(rs.extract 1 rs.size).data.toList=rs.data.toList.drop 1:=by rw[Lib.extract_data,Aq (by simp)]
    rw[<-hex]at H;have hez:(rs.extract 1 rs.size).size=rs.size-1:=by simp
    have HA:=hid (λW=>Fv (rs.extract 1 rs.size) 47 W (by unfold maxLen;omega));clear hex;go_wp2_with fail;refine(HA.out _).mono ?_;rintro e w2 ⟨⟨a,b,rfl,ha,hb⟩,hb2⟩;have hbl:b.size<=rs.size-1:=by
     have h:=Vz 47 (rs.extract 1 rs.size).data.toList;rw[<-hb]at h;simp at h;omega
    rw[<-ha,<-hb]at H;have hB2:=Bc hbw hb2;have ow2:=Be ow hb2;have hbs:=hB2.size;clear HA ha hb hez;go_wp2_with (at_builtin;refine wpList_append_own _ rfl _ _ 99 rfl w.heap.size 9 i0 (.string ⟨#[]⟩) 1 16 underlying99 hi hz0 hz1 hz2 rfl (by decide) _ _ _ rfl (ow2.alloc _) ⟨w2.heap.size,0,none⟩ 1 1 [.string a] rfl rfl ?c1 ?c2 ?c3 ?c4 ?c5 ?_)
    case c1=>
     intro j u hj
     match j,hj with
     |0,hj=>simp at hj;subst hj;simp[Addr.add]
    case c2=>intro u hu;simp at hu;subst hu;rfl
    case c3=>unfold maxLen;omega
    case c4=>omega
    case c5=>simp;omega
    intro v' w3 hown' hgrow _;have hb3:Bw w w3:=(hB2.alloc hB2.size _).grown hgrow (by simp;omega) (Bx ow2);clear hgrow;go_wp2;refine⟨⟨ts++[a],b,rfl,by simp;omega,?_,?_,hb3⟩,by simp[c4R];omega⟩
    ·rw[A0z,B2z];exact hown'
    ·unfold Hid;rw[B2z,C5z];exact H.out
   ·have he1:=Jg h1;rw[Jt h1,pcs,if_pos rfl,D9z]at H;go_wp2;go_ret;exact⟨⟨_,ts,rfl,ow,H.out⟩,hbw⟩
 ·have he:=Jg h0;have HN:Hid (([]:List By).map (·.data.toList)=pcs s.data.toList):=by unfold Hid;rw[Jt h0];rfl
  go_enter func155,ntmps155;go_wp2;go_ret;exact⟨⟨_,[],rfl,Am _ _ _ _,HN.out⟩,Ad _ _⟩
def tkR(p s:By):Bool:=if Pm.a4e p.data.toList=0 then p.toList==s.toList else((Pm.a4e p.data.toList==2)||!s.toList.isEmpty)
theorem Sx(p s:By)(w:World):
  Calls prog 159 #[.string p,.string s] w λe w'=>e=.returned (.bool (tkR p s))/\Bw w w':=by
 have HT:Hid (tkR p s=if Pm.a4e p.data.toList=0 then p.toList==s.toList else((Pm.a4e p.data.toList==2)||!s.toList.isEmpty)):=rfl;generalize tkR p s=TT at *
 have HR:=hid (λW=>Kw p W);have HF:=hid (λW=>Gi p W);generalize Pm.a4e p.data.toList=K at *
 go_enter func159,ntmps159;go_wp2_with fail;refine(HR.out _).mono ?_;rintro e w1 ⟨rfl,hb1⟩;go_wp2_with fail;refine(HF.out _).mono ?_;rintro e w2 ⟨rfl,hb2⟩;have hB2:=Bc hb1 hb2;clear HR HF;by_cases h0:K=0
 ·have hk:(K==0)=true:=by rw[h0];rfl
  rw[if_pos h0]at HT;rw[hk];go_wp2;go_ret;exact⟨Bd (by rw[HT.out]),hB2⟩
 ·have hk:(K==0)=false:=by rw[Ar];exact h0
  rw[if_neg h0]at HT;rw[hk]
  cases h2:(K==2)
  ·rw[h2,D8z]at HT;go_wp2;go_ret;exact⟨Bd (by rw[HT.out]),hB2⟩
  ·rw[h2,D5z]at HT;go_wp2;go_ret;exact⟨Bd (by rw[HT.out]),hB2⟩
def StO(ts:List By)(a:Oa)(w:World):Prop:=
 ∀i (h:i<ts.length),∃g o,a=some ⟨g,o,none⟩/\g<w.heap.size/\w.cell? ⟨g,o+i,none⟩=some (.string ts[i])
theorem StO.below{ts:List By}{a:Oa}{w w':World}(h:StO ts a w)(hb:Bw w w'):StO ts a w':=λi hi=>by
 obtain⟨g,o,h1,h2,h3⟩:=h i hi;exact⟨g,o,h1,Af h2 hb.size,Aa hb h3⟩
def Dy:List (List UInt8)->L8
 |[]=>[]
 |a::r=>a++r.flatMap (λx=>47::x)
theorem a5O(l:List (List UInt8))(x:L8):Dy (l++[x])=if l.length=0 then x else Dy l++47::x:=by
 cases l with
 |nil=>simp[Dy]
 |cons a r=>simp[Dy,List.flatMap_append]
theorem a5P(l:List (List UInt8))(k:Nat):(Dy (l.take k)).length<=(Dy l).length:=by
 have h:Dy l=Dy (l.take k++l.drop k):=by rw[E4z]
 rw[h]
 cases l.take k with
 |nil=>simp[Dy]
 |cons a r=>simp[Dy,List.flatMap_append]
theorem b1B(ts:List By)(a:Oa)(ca:Nat)(w:World)(hst:StO ts a w)(hl:ts.length<=4398046511104)(hj:(Dy (ts.map (·.data.toList))).length<=4398046511104):
  Calls prog 227 #[.slice a ts.length ca] w λe w'=>(∃s,e=.returned (.string s)/\s.data.toList=Dy (ts.map (·.data.toList)))/\w'=w:=by
 have HS:=hid hst;clear hst;go_enter func227,ntmps227;go_wp2
 go_loop [3,4] (λs i=>∃(k:Nat) (b:By),k<=ts.length/\i=.int .i64 k/\s=.string b/\Hid (b.data.toList=Dy ((ts.map (·.data.toList)).take k))) (λ_ i=>ts.length-(intOf i).toNat)
 case atStart=>exact⟨0,⟨#[]⟩,Ah _,rfl,rfl,rfl⟩
 case round=>
  obtain⟨k,b,hk,rfl,rfl,H⟩:=hrel;by_cases hlt:k<ts.length
  ·obtain⟨g,o,rfl,hg,hc⟩:=HS.out k hlt;have hnx:(ts.map (·.data.toList)).take (k+1)=(ts.map (·.data.toList)).take k++[ts[k].data.toList]:=by
    rw[List.take_add_one];simp[hlt]
   have hstep:=a5O ((ts.map (·.data.toList)).take k) ts[k].data.toList;rw[<-hnx,<-H.out,B0z,A8z,Nat.min_eq_left hk]at hstep;have hle:=a5P (ts.map (·.data.toList)) (k+1);have hbl:b.data.toList.length=b.size:=by simp
   have htl:ts[k].data.toList.length=ts[k].size:=by simp
   have HST:=hid hstep;clear hnx;by_cases hk0:k=0
   ·rw[if_pos hk0]at HST;have hb0:Hid (b.data.toList=[]):=by unfold Hid;rw[H.out,hk0];rfl
    have hbz:b.size=0:=by rw[<-hbl,hb0.out];rfl
    have hlz:ts[k].size<=4398046511104:=by
     rw[hstep,if_pos hk0]at hle;omega
    generalize ts[k]=tx at *
    subst hk0;rw[Nat.add_zero]at hc;clear hstep H;go_wp2;exact⟨⟨1,b++tx,by omega,by go_num,rfl,by unfold Hid;rw[HST.out];simp[hb0.out]⟩,by simp[intOf];omega⟩
   ·rw[if_neg hk0]at HST;have hkp:(0:Int)<(k:Int):=by omega
    have hlz:b.size+1+ts[k].size<=4398046511104:=by
     rw[hstep,if_neg hk0,A0z,A9z]at hle;omega
    generalize ts[k]=tx at *
    clear hstep H;go_wp2;exact⟨⟨k+1,b++⟨#[47]⟩++tx,by omega,by go_num,rfl,by unfold Hid;rw[HST.out];simp⟩,by simp[intOf];omega⟩
  ·have HE:Hid (b.data.toList=Dy (ts.map (·.data.toList))):=by
    have:=H.out;rw[Aq (by simp;omega)]at this;exact this
   go_wp2;go_ret;exact⟨⟨b,rfl,HE.out⟩,rfl⟩
def alN:By:=⟨#[48,49,50,51,52,53,54,55,56,57,97,98,99,100,101,102,103,104,105,106,107,108,109,110,111,112,113,114,115,116,117,118,119,120,121,122]⟩
def alF:L8:=[48,49,50,51,52,53,54,55,56,57,97,98,99,100,101,102,103,104,105,106,107,108,109,110,111,112,113,114,115,116,117,118,119,120,121,122,65,66,67,68,69,70,71,72,73,74,75,76,77,78,79,80,81,82,83,84,85,86,87,88,89,90,45,46,95,126]
theorem Mx:∀(n:Nat) (l:L8),l.length<=n->(pcs l).length<=l.length/\∀x∈pcs l,x.length<=l.length
 |0,l,h=>by
  have:l=[]:=Ay (by omega);rw[this,pcs,if_pos rfl];simp
 |n+1,l,h=>by
  by_cases hl:l=[]
  ·rw[hl,pcs,if_pos rfl];simp
  ·have hp:0<l.length:=List.length_pos_iff.mpr hl;have h1:=Vz 47 (l.drop 1);have h2:=(Gy 47 (l.drop 1)).1;rw[A6z]at h1 h2;obtain⟨i1,i2⟩:=Mx n (Pm.behind 47 (l.drop 1)) (by omega);rw[Nt hl];refine⟨by rw[A9z];omega,λx hx=>?_⟩;rcases List.mem_cons.mp hx with rfl|hx
   ·omega
   ·have:=i2 x hx;omega
def okN(n:By)(rest:Bool)(last:Bool):Bool:=(Pm.a0h (Pm.inB alN.data.toList) n.data.toList&&!n.toList.isEmpty)&&(!rest||last)
def okP(ts:List By)(t:By)(k:Nat):Bool:=
 if Pm.a4e t.data.toList=0 then Pm.a0h (Pm.inB alF) t.data.toList
 else okN (Dq t) (Pm.a4e t.data.toList==2) (decide (k+1=ts.length))&&(ts.take k).all (λo=>!((Dq o).toList==(Dq t).toList))
theorem Sy(s:By)(w:World)(hs:s.size<=4398046511104):
  Calls prog 104 #[.string s] w λe w'=>(∃(b:Bool) (ts:List By),e=.returned (.bool b)/\ts.map (·.data.toList)=pcs s.data.toList/\(b=true↔s.size<=64/\Lib.hasPrefix s.data.toList [47]=true/\∀i (h:i<ts.length),okP ts ts[i] i=true))/\Bw w w':=by
 have hnone:∃ts:List By,ts.map (·.data.toList)=pcs s.data.toList:=⟨(pcs s.data.toList).map (λl=>⟨l.toArray⟩),by rw[E6z];exact(List.map_congr_left (λ_ _=>rfl)).trans (List.map_id _)⟩;by_cases h0:0<s.size
 ·have he:=Ho h0;have HP:=hid (a8L h0)
  cases hc:((s[0].toNat:Int)==47)
  ·obtain⟨ts,hts⟩:=hnone;have HTS:=hid hts;clear hts;have hc':((s[0].toNat:Int) != 47)=true:=by rw[bne,hc];rfl
   go_enter func104,ntmps104;go_wp2;go_ret;exact⟨⟨false,ts,rfl,HTS.out,by simp[HP.out,hc]⟩,Ad _ _⟩
  ·have hc':((s[0].toNat:Int) != 47)=false:=by rw[bne,hc];rfl
   by_cases h64:s.size<=64
   ·clear hnone;have HPI:=hid (λW=>Gz s W hs);go_enter func104,ntmps104;go_wp2_with fail;refine(HPI.out _).mono ?_;rintro e w1 ⟨⟨v,ts,rfl,ow1,hts⟩,hb1⟩;obtain⟨a,cap,rfl,hst⟩:=Dg.of_owns ow1;have hpl:=Mx _ s.data.toList (Ac _);rw[<-hts]at hpl;have hsl:s.data.toList.length=s.size:=by simp
    have htl:ts.length<=64:=by have:=hpl.1;rw[A8z]at this;omega
    have HZ:Hid (∀i (h:i<ts.length),ts[i].size<=64):=λi h=>by
     have h1:=hpl.2 ts[i].data.toList (List.mem_map.mpr ⟨_,As h,rfl⟩);have h2:ts[i].data.toList.length=ts[i].size:=by simp
     omega
    have HTS:=hid hts;have HST:=hid hst;clear HPI hpl hts hst ow1 hsl;have hlast:IntKind.i64.wrap ((ts.length:Int)-1)=(ts.length:Int)-1:=by simp[IntKind.wrap,IntKind.bits,IntKind.signed];omega
    go_wp2_with fail
    go_loopw [4,5,6,7,8,9,10] (λi _ _ _ _ _ _ wr=>∃k:Nat,k<=ts.length/\i=.int .i64 k/\Hid (∀j (_:j<k) (h:j<ts.length),okP ts ts[j] j=true)/\Bw w1 wr) (λi _ _ _ _ _ _ _=>ts.length-(intOf i).toNat)
    case atStart=>exact⟨0,Ah _,rfl,λj h=>absurd h (by omega),Ad _ _⟩
    case round=>
     obtain⟨k,hk,rfl,H,hbw⟩:=hrel;by_cases hlt:k<ts.length
     ·have HY:Hid (okP ts ts[k] k=true->∀j (_:j<k+1) (h:j<ts.length),okP ts ts[j] j=true):=λh j h1 h2=>by
       rcases B8z j k with h3|h3
       ·exact H.out j h3 h2
       ·obtain rfl:j=k:=by omega
        exact h
      have HX:Hid (okP ts ts[k] k=false->¬ ∀j (h:j<ts.length),okP ts ts[j] j=true):=λh h'=>by
       rw[h' k hlt]at h;cases h
      obtain⟨g,rfl,hg,hck⟩:=(HST.out.below hbw) k hlt;have hzk:=HZ.out k hlt;generalize hOK:okP ts ts[k] k=OK at *
      have HOK:=hid hOK;clear hOK H;unfold okP at HOK;generalize ts[k]=tx at *
      have HFx:=hid (λW=>Gi tx W);have HRs:=hid (λW=>Kw tx W);have HNm:=hid (λW=>Mw tx W (by unfold maxLen;omega));have HM1:=hid (λW=>Ov tx ⟨alF.toArray⟩ W (by unfold maxLen;omega) (by decide));have HM2:=hid (λW (h:(Dq tx).size<=maxLen)=>Ov (Dq tx) alN W h (by decide));generalize Pm.a4e tx.data.toList=K at *
      go_wp2_with fail;refine(HFx.out _).mono ?_;rintro e w2 ⟨rfl,hb2⟩;have hck2:=Aa hb2 hck;have hB2:=Bc hbw hb2;go_wp2_with fail;refine(HRs.out _).mono ?_;rintro e w3 ⟨rfl,hb3⟩;have hck3:=Aa hb3 hck2;have hB3:=Bc hB2 hb3;have hg3:g<w3.heap.size:=Af hg (Aj hb2.size hb3.size);clear hck hck2 hb2 hb3 hB2 HFx HRs;by_cases hK:K=0
      ·have hk0:(K==0)=true:=by rw[hK];rfl
       rw[if_pos hK]at HOK;rw[hk0];go_wp2_with fail;refine(HM1.out _).mono ?_;rintro e w4 ⟨rfl,rfl⟩;have hA:Pm.a0h (Pm.inB (⟨alF.toArray⟩:By).data.toList) tx.data.toList=OK:=HOK.out;rw[hA]
       cases OK
       ·have HX2:=hid (HX.out rfl);clear HX HY HOK;go_wp2;go_ret;exact⟨⟨false,ts,rfl,HTS.out,⟨λh=>Bool.noConfusion h,λh=>absurd h.2.2 HX2.out⟩⟩,Bc hb1 hB3⟩
       ·have HY2:=hid (HY.out rfl);clear HX HY HOK;go_wp2;exact⟨⟨k+1,by omega,by go_num,HY2.out,hB3⟩,by simp[intOf];omega⟩
      ·have hk0:(K==0)=false:=by rw[Ar];exact hK
       rw[if_neg hK]at HOK;rw[hk0];have hnz:(Dq tx).size<=maxLen:=by
        unfold Dq maxLen
        split
        ·decide
        ·simp;omega
       go_wp2_with fail;refine(HNm.out _).mono ?_;rintro e w4 ⟨rfl,hb4⟩;have hB4:=Bc hB3 hb4;go_wp2_with fail;refine(HM2.out _ hnz).mono ?_;rintro e w5 ⟨rfl,rfl⟩;have hN:okN (Dq tx) (K==2) (decide (k+1=ts.length))=((Pm.a0h (Pm.inB alN.data.toList) (Dq tx).data.toList&&!(Dq tx).toList.isEmpty)&&(!(K==2)||decide (k+1=ts.length))):=rfl;have hL:((k:Int)==(ts.length:Int)-1)=decide (k+1=ts.length):=by
        rw[B9z,beq_iff_eq,decide_eq_true_iff];omega
       clear HNm HM1 HM2 hck3 hb4 hB3 hnz hK;generalize Dq tx=nm at *
       generalize Pm.a0h (Pm.inB alN.data.toList) nm.data.toList=A at *
       generalize hBB:okN nm (K==2) (decide (k+1=ts.length))=BB at *
       clear hBB;have hcs:(A=false/\BB=false)\/(A=true/\nm.toList.isEmpty=true/\BB=false)\/(A=true/\nm.toList.isEmpty=false/\(K==2)=false/\BB=true)\/(A=true/\nm.toList.isEmpty=false/\(K==2)=true/\((k:Int)==(ts.length:Int)-1)=BB):=by
        rw[hL]
        cases A
        ·left;exact⟨rfl,hN⟩
        ·right
         cases hE:nm.toList.isEmpty
         ·right
          cases hR:(K==2)
          ·left;refine⟨rfl,rfl,rfl,?_⟩;rw[hN,hE,hR];rfl
          ·right;refine⟨rfl,rfl,rfl,?_⟩;rw[hN,hE,hR];simp
         ·left;refine⟨rfl,rfl,?_⟩;rw[hN,hE];rfl
       clear hN hL;have HNQ:=hid (λq (h:q<ts.length) W=>Mw ts[q] W (by have:=HZ.out q h;unfold maxLen;omega));rcases hcs with⟨rfl,rfl⟩|⟨rfl,hE,rfl⟩|⟨rfl,hE,hR,rfl⟩|⟨rfl,hE,hR,hQ⟩
       all_goals
        go_wp2_with fail
        go_loopw [7,9,10] (λo j _ wr=>∃(q:Nat) (b:Bool),q<=k/\j=.int .i64 q/\o=.bool b/\Hid ((b&&((ts.take k).drop q).all (λo=>!((Dq o).toList==nm.toList)))=OK)/\Bw w1 wr) (λ_ j _ _=>k-(intOf j).toNat)
        case atStart=>exact⟨0,_,Ah _,rfl,rfl,HOK,hB4⟩
        case round=>
         obtain⟨q,b,hq,rfl,rfl,H,hbq⟩:=hrel;by_cases hqk:q<k
         ·have hq2:q<ts.length:=by omega
          obtain⟨g',hg',hgq,hcq⟩:=(HST.out.below hbq) q hq2;obtain rfl:g=g':=by simpa using hg'
          have hdr:(ts.take k).drop q=ts[q]::(ts.take k).drop (q+1):=by
           rw[<-Ax (by rw[B0z];omega:q<(ts.take k).length)];simp
          rw[hdr,List.all_cons]at H;have HN2:=hid (HNQ.out q hq2);generalize ts[q]=tq at *
          clear hdr hg';go_wp2_with fail;refine(HN2.out _).mono ?_;rintro e w6 ⟨rfl,hb6⟩;have hB6:=Bc hbq hb6;generalize Dq tq=nq at *
          clear HN2
          cases b
          ·go_wp2;exact⟨⟨q+1,false,by omega,by go_num,rfl,H.out,hB6⟩,by simp[intOf];omega⟩
          ·rw[D4z]at H;go_wp2;exact⟨⟨q+1,_,by omega,by go_num,rfl,H.out,hB6⟩,by simp[intOf];omega⟩
         ·have HB:Hid (b=OK):=by
           have:=H.out;rw[Az (by rw[B0z];omega)]at this;unfold Hid;simpa using this
          rw[HB.out]
          cases OK
          ·have HX2:=hid (HX.out rfl);clear HX HY HOK H HB;go_wp2;go_ret;exact⟨⟨false,ts,rfl,HTS.out,⟨λh=>Bool.noConfusion h,λh=>absurd h.2.2 HX2.out⟩⟩,Bc hb1 hbq⟩
          ·have HY2:=hid (HY.out rfl);clear HX HY HOK H HB;go_wp2;exact⟨⟨k+1,by omega,by go_num,HY2.out,hbq⟩,by simp[intOf];omega⟩
     ·have HA:Hid (∀j (h:j<ts.length),okP ts ts[j] j=true):=λj h=>H.out j (by omega) h;go_wp2;go_ret;exact⟨⟨true,ts,rfl,HTS.out,by simp only[true_iff];exact⟨h64,by rw[HP.out,hc],HA.out⟩⟩,Bc hb1 hbw⟩
   ·obtain⟨ts,hts⟩:=hnone;have HTS:=hid hts;clear hts;have h64':(64:Int)<(s.size:Int):=by omega
    go_enter func104,ntmps104;go_wp2;go_ret;exact⟨⟨false,ts,rfl,HTS.out,by simp;omega⟩,Ad _ _⟩
 ·have he:=Jg h0;obtain⟨ts,hts⟩:=hnone;have HTS:=hid hts;clear hts;have HP:=hid (Vp h0);go_enter func104,ntmps104;go_wp2;go_ret;exact⟨⟨false,ts,rfl,HTS.out,by simp[HP.out]⟩,Ad _ _⟩
end Go.Proofs.YtbiggccolpchcaaGreatDoor
namespace Go.Proofs.YtbiggccolpchcaaGreatDoor.Bp
open Go.RowKit _root_.Go.Proofs.Tryz
theorem a5h(n:Int)(w:World):
  Calls prog 36 #[.int .i64 n] w λe w'=>e=.returned (.int .i64 n)/\w'=w:=by
 go_enter func36,ntmps36;go_wp2;go_ret;exact⟨rfl,rfl⟩
def b5D(n:Nat):By:=⟨#[(48+n).toUInt8]⟩
theorem Dx{a b:By}(h:a=b):Ending.returned (.string a)=.returned (.string b):=by rw[h]
def a5i(n:Nat):By:=⟨#[109,97,114,107,32,(48+n).toUInt8]⟩
theorem Xp(n:Nat)(hn:n<=9)(w:World):
  Calls prog 126 #[.int .i64 n,.int .i64 10] w λe w'=>e=.returned (.string (b5D n))/\Bw w w':=by
 have hx:∀k:Nat,k<=9->((⟨#[48,49,50,51,52,53,54,55,56,57,97,98,99,100,101,102]⟩:By).extract k (k+1))=b5D k:=by decide
 have HX:=hid (hx n hn);have hsz:(b5D n).size=1:=rfl;clear hx;go_enter func126,ntmps126;go_wp2;go_ret;exact⟨Dx HX.out,Ad _ _⟩
theorem b5E(n:Nat):(⟨#[109,97,114,107,32]⟩:By)++b5D n=a5i n:=by
 apply ByteArray.ext;rw[C8z];rfl
theorem a5j(n:Nat)(hn:n<=9)(w:World):
  Calls prog 66 #[.int .i64 n] w λe w'=>e=.returned (.string (a5i n))/\Bw w w':=by
 have hsz:(b5D n).size=1:=rfl;go_enter func66,ntmps66;go_wp2_with (go_at_call 126;refine(Xp n hn _).mono ?_;rintro e w1 ⟨rfl,hb1⟩);go_ret;exact⟨Dx (b5E n),hb1⟩
section
variable{P:Program}(w:World)
end
theorem heap_lt{w:World}{g:Nat}{o:Obj}(h:w.heap[g]?=some o):g<w.heap.size:=by
 rcases B8z g w.heap.size with h'|h'
 ·exact h'
 ·simp[Array.getElem?_eq_none h']at h
end Go.Proofs.YtbiggccolpchcaaGreatDoor.Bp
