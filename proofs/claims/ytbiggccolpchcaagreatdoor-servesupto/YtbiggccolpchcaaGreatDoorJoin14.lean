/- Joined. -/
import Derived.Sort.OwnSorted
import Derived.Test.YtbiggccolpchcaaGreatDoorJoin13
set_option maxRecDepth 100000
set_option maxHeartbeats 2000000
namespace Go.Proofs.YtbiggccolpchcaaGreatDoor
open Go.RowKit _root_.Go.Proofs.Tryz
open Go.Sort
def srt(l:List (List UInt8)):List (List UInt8):=l.mergeSort λx y=>decide (x<=y)
theorem Ma(l:List (List UInt8)):(srt l).length=l.length:=by unfold srt;simp
def Gn(l:List (List UInt8)):List Value:=l.map λs=>Value.string ⟨s.toArray⟩
theorem b9M(l:List By):Gn (l.map λb=>b.data.toList)=l.map Value.string:=by
 unfold Gn;rw[E6z];rfl
theorem a0W(v:Value)(l:List (List UInt8))(B:Nat)(w:World)(h:w.ownsRow B 9 1 v l.length (Gn l))(hl:l.length<=1000000):
  Calls prog 163 #[v] w λe w'=>e=.returned (.tuple #[])/\w'.ownsRow B 9 1 v l.length (Gn (srt l))/\w.grownBy w' v.ownBlock:=by
 rcases h.2 with⟨rfl,h0⟩|⟨g,cap,cur,rfl,hB,hg,hc,hm,hs,ht⟩
 ·have hl0:l=[]:=Ay h0;subst hl0;refine(Any.slices_Sort_string_none Tryz.lays190 none 0 w).mono ?_;rintro e w' ⟨rfl,rfl⟩;refine⟨rfl,?_,World.grownBy.refl _ _⟩;have:srt []=[]:=by unfold srt;simp
  rw[this];exact h
 ·have hH:Holds encStr w g 0 l.toArray:=holds_of_block hg (by rw[Nat.mul_one]at ht;exact ht);have hblk:g<w.heap.size:=(Array.getElem?_eq_some_iff.1 hg).1;refine(Tryz.slices_Sort_string g 0 cap l w hH hblk (by omega)).mono ?_;rintro e w' ⟨rfl,n,os,rfl⟩;refine⟨rfl,?_,grownBy_sorted _⟩;exact ownsRow_sorted (Ma l) hB hg hc hm hs
def Cu(l:L8)(es:List Ent):List (List UInt8):=srt ((Gb l es).map λb=>b.data.toList)
theorem Pg(l:L8)(es:List Ent):(Cu l es).length=(Gb l es).length:=by unfold Cu;rw[Ma,A8z]
theorem Xl(gt o B:Nat)(es:List Ent)(v:Value)(s:By)(w:World)(hT:TbAt gt o B es v w)(hp:Pm.a1z s.data.toList=true)(h1s:1<=s.size)(hs:s.size<=140737488355328):
  Calls prog 109 #[.pointer (some ⟨gt,o,none⟩),.string s] w λr w'=>(∃vv,r=.returned vv/\w'.ownsRow w.heap.size 9 1 vv (Cu s.data.toList es).length (Gn (Cu s.data.toList es)))/\Bw w w':=by
 obtain⟨i0,hi,hz0,hz1,hz2⟩:=info_parts Tryz.info9;have HIP:=hid (λW=>Ik s W hs);rw[hp]at HIP;have HT:=hid hT;obtain⟨av,cv,rfl,hen⟩:=Js hT.row;have HE:=hid hen;have cel:=hT.cel;have lt0:=hT.lt;have hfw:=hT.few;clear hT hen;go_enter func109,ntmps109;go_wp2_with fail;refine(HIP.out _).mono ?_;rintro e w1 ⟨rfl,hb1⟩;have cel1:=Aa hb1 cel;have lt1:gt<w1.heap.size:=Af lt0 hb1.size;clear HIP cel lt0;go_wp2_with fail
 go_loopw [5,18] (λms i wr=>∃k:Nat,k<=es.length/\i=.int .i64 k/\wr.ownsRow w.heap.size 9 1 ms (Gb s.data.toList (es.take k)).length ((Gb s.data.toList (es.take k)).map Value.string)/\Bw w wr) (λ_ i _=>es.length-(intOf i).toNat)
 case atStart=>exact⟨0,Ah _,rfl,Am _ _ _ _,hb1⟩
 case round=>
  obtain⟨k,hk,rfl,hown,hbw⟩:=hrel;by_cases hlt:k<es.length
  ·obtain⟨g,rfl,hg,hc1,hc2⟩:=(HE.out.below hbw) k hlt;have hpc:=(HT.out.pat k hlt).below hbw;have hps:=HT.out.szs k hlt;have HN:=hid (Sq s.data.toList es k hlt);have hml:=Lz s.data.toList es k;rw[B0z]at hml;generalize es[k]=en at *
   obtain⟨em,eps,ea,ec⟩:=en;simp only at hc1 hc2 hpc hps HN;have hA:=bA wr (.cells #[.string em,.slice ea eps.length ec] 233);have hB:=Bc hbw hA;have HM:=hid (λW (hW:Bw w W) (h:Ii eps ea W)=>Vu eps ea ec s W h hps h1s hs);have oA:=Be hown hA;have en0:=Ag wr (.cells #[.string em,.slice ea eps.length ec] 233);go_wp2_with fail;generalize hwa:wr.alloc (.cells #[.string em,.slice ea eps.length ec] 233)=wa at *
   refine(HM.out _ hB (hpc.below hA)).mono ?_;rintro e w2 ⟨hma,hb2⟩;have hB2:=Bc hB hb2;have o2:=Be oA hb2;have ece:w2.cell? ⟨wr.heap.size,0,none⟩=some (.string em):=Aa hb2 (by rw[Ab en0];rfl);have elt:wr.heap.size<w2.heap.size:=Af (by rw[<-hwa];simp) hb2.size;clear HM hb2 hA oA en0 hB hwa hpc;generalize Gb s.data.toList (es.take k)=MK at *
   cases hMB:Cj eps (List.drop 1 s.data.toList) true []with
   |none=>
    rw[hMB]at hma HN;obtain rfl:e=.returned (.tuple #[.slice none 0 0,.bool false]):=hma;go_wp2;refine⟨⟨k+1,by omega,by go_num,?_,hB2⟩,by simp[intOf];omega⟩;rw[HN.out];simpa using o2
   |some pf=>
    rw[hMB]at hma HN;obtain⟨vv,rfl,ow⟩:=hma;have HN2:Hid (Gb s.data.toList (es.take (k+1))=MK++[em]):=by
     unfold Hid;rw[HN.out];rfl
    clear ow HN hMB;go_wp2_with (at_builtin;refine wpList_append_own _ rfl _ _ 99 rfl w.heap.size 9 i0 (.string ⟨#[]⟩) 1 16 underlying99 hi hz0 hz1 hz2 rfl (by decide) _ _ _ rfl (o2.alloc _) ⟨w2.heap.size,0,none⟩ 1 1 [.string em] rfl rfl ?c1 ?c2 ?c3 ?c4 ?c5 ?_)
    case c1=>
     intro j u hj
     match j,hj with
     |0,hj=>simp at hj;subst hj;simp[Addr.add]
    case c2=>intro u hu;simp at hu;subst hu;rfl
    case c3=>unfold maxLen;omega
    case c4=>omega
    case c5=>have:=hB2.size;simp;omega
    intro v' w3 hown' hgrow _;have hb3:Bw w w3:=(hB2.alloc hB2.size _).grown hgrow (by have:=hB2.size;simp;omega) (Bx o2);clear hgrow;go_wp2;refine⟨⟨k+1,by omega,by go_num,?_,hb3⟩,by simp[intOf];omega⟩;rw[HN2.out,A0z,B2z];exact hown'
  ·have hke:es.take k=es:=Aq (by omega);rw[hke]at hown;have hml:=Lz s.data.toList es k;rw[hke]at hml;have HSS:Hid (Cu s.data.toList es=srt ((Gb s.data.toList es).map λb=>b.data.toList)):=rfl;generalize Gb s.data.toList es=MK at *
   generalize hMS:Cu s.data.toList es=MS at *
   have hown':wr.ownsRow w.heap.size 9 1 u5 (MK.map λb=>b.data.toList).length (Gn (MK.map λb=>b.data.toList)):=by rw[A8z,b9M];exact hown
   have HS:=hid (a0W u5 (MK.map λb=>b.data.toList) w.heap.size wr hown' (by rw[A8z];omega));rw[<-HSS.out]at HS;have hown2:=hid hown';have hsz:MS.length=(MK.map λb=>b.data.toList).length:=by rw[HSS.out,Ma]
   generalize (MK.map λb=>b.data.toList)=MQ at *
   clear hown hown' HSS;go_wp2_with fail;refine HS.out.mono ?_;rintro e w2 ⟨rfl,ho,hgr⟩;have hB2:Bw w w2:=hbw.grown hgr hbw.size (Bx hown2.out);have HO:=hid ho;clear HS ho hgr hown2;go_wp2;go_ret;exact⟨⟨u5,rfl,by rw[hMS,hsz];exact HO.out⟩,hB2⟩
end Go.Proofs.YtbiggccolpchcaaGreatDoor
namespace Go.Proofs.YtbiggccolpchcaaGreatDoor
open Go.RowKit _root_.Go.Proofs.Tryz
def hdL:L8:=[72,69,65,68]
def gtL:L8:=[71,69,84]
theorem Nq(m:By):(m.toList==[72,69,65,68])=decide (m.data.toList=hdL):=by
 rw[A1z,B9z,beq_iff_eq,decide_eq_true_iff];rfl
theorem Xm(m:By):(m.toList==[71,69,84])=decide (m.data.toList=gtL):=by
 rw[A1z,B9z,beq_iff_eq,decide_eq_true_iff];rfl
theorem b0Z(m:By):(m.toList==[47])=decide (m.data.toList=[47]):=by
 rw[A1z,B9z,beq_iff_eq,decide_eq_true_iff]
def Cv(m l:L8)(es:List Ent):Nat×List Prm×Int:=
 if(Cp m l es 0).2.2≠0/\m=hdL then Cp gtL l es 0 else Cp m l es 0
theorem Su(m l:L8):∀(es:List Ent) (k:Nat),Cp m l (es.map Ent.bare) k=Cp m l es k
 |[],_=>rfl
 |e::r,k=>by
  rw[B1z,Cp,Cp,Su m l r (k+1)];rfl
theorem Sw(m l:L8)(es:List Ent):Cv m l (es.map Ent.bare)=Cv m l es:=by
 unfold Cv;simp only[Su]
def b4Y(F:Nat×List Prm×Int)(w:World)(x:Ending)(w':World):Prop:=
 (∃vv,x=.returned (.tuple #[.int .i64 F.1,vv,.bool (decide (F.2.2=0))])/\w'.ownsRow w.heap.size 129 2 vv F.2.1.length (Bg F.2.1))/\Bw w w'
theorem b4Z(gs B:Nat)(es:List Ent)(v:Value)(m s:By)(w:World)(hT:TbAt gs 0 B es v w)(hp:Pm.a1z s.data.toList=true)(h1s:1<=s.size)(hs:s.size<=140737488355328):
  Calls prog 203 #[.pointer (some ⟨gs,0,none⟩),.string m,.string s] w (b4Y (Cv m.data.toList s.data.toList es) w):=by
 have lt0:=hT.lt;have HF:=hid (λW (hW:Bw w W)=>Vv gs 0 B es v m s W (hT.below hW) hp h1s hs);have HF2:=hid (λW (hW:Bw w W)=>Vv gs 0 B es v ⟨#[71,69,84]⟩ s W (hT.below hW) hp h1s hs);have hLG:Cv m.data.toList s.data.toList es=if(Cp m.data.toList s.data.toList es 0).2.2≠0/\m.data.toList=hdL then Cp gtL s.data.toList es 0 else Cp m.data.toList s.data.toList es 0:=rfl
 have hgl:(⟨#[71,69,84]⟩:By).data.toList=gtL:=rfl;rw[hgl]at HF2;generalize Cv m.data.toList s.data.toList es=LL at *
 generalize Cp m.data.toList s.data.toList es 0=FF at *
 generalize Cp gtL s.data.toList es 0=GG at *
 have HLG:=hid hLG;have hbe:=Nq m;have hq:(LL.2.2==0)=decide (LL.2.2=0):=rfl;clear hT hLG hgl;go_enter func203,ntmps203;go_wp2_with fail;refine(HF.out _ (Ad _ _)).mono ?_;rintro x w1 ⟨⟨vv,rfl,ow⟩,hb1⟩;have HO:=hid ow;have lt1:gs<w1.heap.size:=Af lt0 hb1.size;clear ow HF;by_cases h0:FF.2.2=0
 ·have hL:LL=FF:=by rw[HLG.out,if_neg (λh=>h.1 h0)]
  subst hL;clear HLG HF2;go_wp2;refine Ae (v:=.tuple #[.int .i64 LL.1,vv,.bool (decide (LL.2.2=0))]) (by simp[results,results203,go_sem,h0]) rfl ?_;exact⟨⟨vv,rfl,HO.out⟩,hb1⟩
 ·by_cases hh:m.data.toList=hdL
  ·have hL:LL=GG:=by rw[HLG.out,if_pos ⟨h0,hh⟩]
   subst hL;rw[Ak hh]at hbe;clear HLG HO;go_wp2_with fail;refine(HF2.out _ hb1).mono ?_;rintro x w2 ⟨⟨vg,rfl,og⟩,hb2⟩;have HO:=hid (Bt og hb1.size);have hB:=Bc hb1 hb2;clear og;go_wp2;refine Ae (v:=.tuple #[.int .i64 LL.1,vg,.bool (decide (LL.2.2=0))]) (by simp[results,results203,go_sem]) rfl ?_;exact⟨⟨vg,rfl,HO.out⟩,hB⟩
  ·have hL:LL=FF:=by rw[HLG.out,if_neg (λh=>hh h.2)]
   subst hL;rw[Ao hh]at hbe;clear HLG HF2;go_wp2;refine Ae (v:=.tuple #[.int .i64 LL.1,vv,.bool (decide (LL.2.2=0))]) (by simp[results,results203,go_sem,h0]) rfl ?_;exact⟨⟨vv,rfl,HO.out⟩,hb1⟩
namespace Pm
theorem unesc_slash:∀(n:Nat) (l:L8),l.length<=n->(unesc (l++[47])).isSome=(unesc l).isSome
 |_,[],_=>rfl
 |_,[c],_=>by
  by_cases h:c=37<;>simp[unesc,h]
 |_,[c,a],_=>by
  by_cases h:c=37
  ·subst h;have:digsB 16 [a,47]=false:=by
    have h47:16<=dval 47:=by decide
    simp[digsB];intro _;exact h47
   simp[unesc,this]
  ·rw[B3z,unesc_plain _ _ h,unesc_plain c [a] h];by_cases ha:a=37<;>simp[unesc,ha]
 |0,c::a::b::r,hn=>by simp at hn
 |n+1,c::a::b::r,hn=>by
  by_cases h:c=37
  ·subst h;have ih:=unesc_slash n r (by simp at hn;omega);simp only[B3z,unesc,if_true]
   cases digsB 16 [a,b]<;>simp[ih]
  ·have ih:=unesc_slash n (a::b::r) (by simp at hn ⊢;omega);rw[B3z,unesc_plain _ _ h,unesc_plain c (a::b::r) h];simpa using ih
end Pm
def Ck(l:L8):L8:=if Lib.hasSuffix l [47]=true then l.take (l.length-1)else l++[47]
theorem a0X{l:L8}(h:Lib.hasSuffix l [47]=true):∃r,l=r++[47]/\l.take (l.length-1)=r:=by
 unfold Lib.hasSuffix at h;rw[List.isSuffixOf_iff_suffix]at h;obtain⟨r,rfl⟩:=h;exact⟨r,rfl,by simp⟩
theorem Ju{l:L8}(h:Pm.a1z l=true)(h1:l≠[47]):Pm.a1z (Ck l)=true/\1<=(Ck l).length/\(Ck l).length<=l.length+1:=by
 unfold Pm.a1z at h ⊢;rw[A3z]at h ⊢;obtain⟨h2,h3⟩:=h;have hne:∃t,l=47::t:=by
  unfold Lib.hasPrefix at h3
  cases l with
  |nil=>simp at h3
  |cons c t=>simp at h3;exact⟨t,by rw[h3]⟩
 obtain⟨t,rfl⟩:=hne;unfold Ck;by_cases hs:Lib.hasSuffix (47::t) [47]=true
 ·obtain⟨r,hr,ht⟩:=a0X hs;rw[if_pos hs,ht];rw[hr]at h2 h1;rw[Pm.unesc_slash _ _ (Ac _)]at h2;have hl:(47::t).length=r.length+1:=by rw[hr];simp
  cases r with
  |nil=>exact absurd rfl h1
  |cons c r'=>
   simp at hr;obtain⟨rfl,rfl⟩:=hr;exact⟨⟨h2,by simp[Lib.hasPrefix]⟩,by simp,by simp⟩
 ·rw[if_neg hs,Pm.unesc_slash _ _ (Ac _)];exact⟨⟨h2,by simp[Lib.hasPrefix]⟩,by simp,by simp⟩
def otG(m l:L8)(es:List Ent):L8×Bool:=if l=[47]then([],false)else(Ck l,decide ((Cv m (Ck l) es).2.2=0))
def b5A(F:L8×Bool)(w:World)(x:Ending)(w':World):Prop:=
 (∃o:By,x=.returned (.tuple #[.string o,.bool F.2])/\o.data.toList=F.1)/\Bw w w'
theorem a8S(gs B:Nat)(es:List Ent)(v:Value)(m o:By)(L:L8)(ho:o.data.toList=L)(w:World)(hT:TbAt gs 0 B es v w)(hp:Pm.a1z L=true)(h1:1<=L.length)(h2:L.length<=140737488355328):
  Calls prog 203 #[.pointer (some ⟨gs,0,none⟩),.string m,.string o] w (b4Y (Cv m.data.toList L es) w):=by
 subst ho;have e:o.data.toList.length=o.size:=by simp
 exact b4Z gs B es v m o w hT hp (by omega) (by omega)
theorem Uz(gs B:Nat)(es:List Ent)(v:Value)(m s:By)(w:World)(hT:TbAt gs 0 B es v w)(hp:Pm.a1z s.data.toList=true)(hs:s.size<=140737488355000):
  Calls prog 204 #[.pointer (some ⟨gs,0,none⟩),.string m,.string s] w (b5A (otG m.data.toList s.data.toList es) w):=by
 have lt0:=hT.lt;have hbe:=b0Z s;have hsl:s.data.toList.length=s.size:=by simp
 by_cases h1:s.data.toList=[47]
 ·have hG:otG m.data.toList s.data.toList es=([],false):=if_pos h1;rw[hG];rw[Ak h1]at hbe;clear hG h1 hT;go_enter func204,ntmps204;go_wp2;refine Ae (v:=.tuple #[.string ⟨#[]⟩,.bool false]) (by simp[results,results204,go_sem]) rfl ?_;exact⟨⟨_,rfl,rfl⟩,Ad _ _⟩
 ·have hG:otG m.data.toList s.data.toList es=(Ck s.data.toList,decide ((Cv m.data.toList (Ck s.data.toList) es).2.2=0)):=if_neg h1;obtain⟨ho1,ho2,ho3⟩:=Ju hp h1;have HLD:=hid (λ(o:By) (ho:o.data.toList=Ck s.data.toList) W (hW:Bw w W)=>a8S gs B es v m o _ ho W (hT.below hW) ho1 ho2 (by omega));rw[hG];rw[Ao h1]at hbe;have HCS:=hid (λW=>Tryz.strings_CutSuffix s ⟨#[47]⟩ W (by omega));have hsep:(⟨#[47]⟩:By).data.toList=[47]:=rfl;rw[hsep]at HCS
  cases hsf:Lib.hasSuffix s.data.toList [47]
  ·have hot:Ck s.data.toList=s.data.toList++[47]:=by unfold Ck;rw[hsf];rfl
   have HOT:Hid ((s++(⟨#[47]⟩:By)).data.toList=Ck s.data.toList):=by unfold Hid;rw[hot];simp
   rw[hsf]at HCS;generalize Ck s.data.toList=OL at *
   clear hT hG h1 ho1 hot hsep;go_enter func204,ntmps204;go_wp2_with fail;refine(HCS.out _).mono ?_;rintro x w1 ⟨rfl,rfl⟩;go_wp2_with fail;refine(HLD.out _ HOT.out _ (Ad _ _)).mono ?_;rintro x w2 ⟨⟨vv,rfl,-⟩,hb2⟩;generalize Cv m.data.toList OL es=LG at *
   go_wp2;refine Ae (v:=.tuple #[.string (s++⟨#[47]⟩),.bool (decide (LG.2.2=0))]) (by simp[results,results204,go_sem]) rfl ?_;exact⟨⟨_,rfl,HOT.out⟩,hb2⟩
  ·have hot:Lib.trimSuffix s.data.toList [47]=Ck s.data.toList:=by unfold Ck Lib.trimSuffix;rw[hsf];rfl
   rw[hsf,hot]at HCS;generalize Ck s.data.toList=OL at *
   clear hT hG h1 ho1 hot hsep;go_enter func204,ntmps204;go_wp2_with fail;refine(HCS.out _).mono ?_;rintro x w1 ⟨rfl,rfl⟩;go_wp2_with fail;refine(HLD.out _ (by simp) _ (Ad _ _)).mono ?_;rintro x w2 ⟨⟨vv,rfl,-⟩,hb2⟩;generalize Cv m.data.toList OL es=LG at *
   go_wp2;refine Ae (v:=.tuple #[.string ⟨OL.toArray⟩,.bool (decide (LG.2.2=0))]) (by simp[results,results204,go_sem]) rfl ?_;exact⟨⟨_,rfl,by simp⟩,hb2⟩
def Jv(m:L8):Int:=if m=gtL\/m=hdL then 301 else 308
theorem b1A(m:By)(w:World):
  Calls prog 205 #[.string m] w λx w'=>x=.returned (.int .i64 (Jv m.data.toList))/\Bw w w':=by
 have hb1:=Xm m;have hb2:=Nq m;by_cases h1:m.data.toList=gtL
 ·rw[Ak h1]at hb1;have hM:Jv m.data.toList=301:=if_pos (.inl h1);rw[hM];clear hb2;go_enter func205,ntmps205;go_wp2;go_ret;exact⟨rfl,Ad _ _⟩
 ·rw[Ao h1]at hb1;by_cases h2:m.data.toList=hdL
  ·rw[Ak h2]at hb2;have hM:Jv m.data.toList=301:=if_pos (.inr h2);rw[hM];go_enter func205,ntmps205;go_wp2;go_ret;exact⟨rfl,Ad _ _⟩
  ·rw[Ao h2]at hb2;have hM:Jv m.data.toList=308:=if_neg (λh=>h.elim h1 h2);rw[hM];go_enter func205,ntmps205;go_wp2;go_ret;exact⟨rfl,Ad _ _⟩
theorem Kz{w:World}{B:Nat}{v:Value}{l:List (List UInt8)}(h:w.ownsRow B 9 1 v l.length (Gn l)):(v=.slice none 0 0/\l=[])\/∃g cap,v=.slice (some ⟨g,0,none⟩) l.length cap/\g<w.heap.size/\l.length<=cap/\∀j (hj:j<l.length),w.cell? ⟨g,j,none⟩=some (.string ⟨l[j].toArray⟩):=by
 rcases h.2 with⟨h2,h3⟩|⟨g,cap,cur,hv,hB,hg,hc,hm,hs,ht⟩
 ·exact .inl ⟨h2,Ay h3⟩
 ·refine .inr ⟨g,cap,hv,(Array.getElem?_eq_some_iff.1 hg).1,hc,λj hj=>?_⟩;rw[Ab hg];have e:(Gn l)[j]?=some (.string ⟨l[j].toArray⟩):=by unfold Gn;rw[E3z,Av hj];rfl
  rw[<-ht,D0z]at e
  split at e
  ·simpa using e
  ·cases e
theorem containsS_iff(l:List (List UInt8))(x:By):Lib.containsS (l.map λs=>(⟨s.toArray⟩:By)) x=decide (x.data.toList∈l):=by
 rw[B9z,Lib.containsS_iff,decide_eq_true_iff,E5z];constructor
 ·rintro⟨s,hs,rfl⟩;simpa using hs
 ·intro h;exact⟨_,h,rfl⟩
theorem Nr(v:Value)(l:List (List UInt8))(x:By)(B:Nat)(w:World)(h:w.ownsRow B 9 1 v l.length (Gn l))(hl:l.length<=1000000):
  Calls prog 254 #[v,.string x] w λe w'=>e=.returned (.bool (decide (x.data.toList∈l)))/\w'=w:=by
 rcases Kz h with⟨rfl,rfl⟩|⟨g,cap,rfl,hg,hc,hce⟩
 ·exact(Tryz.slices_Contains_string_empty none 0 x w).mono λe w' ⟨h1,h2⟩=>⟨by rw[h1];simp,h2⟩
 ·refine(Tryz.slices_Contains_string g 0 l.length cap (l.map λs=>(⟨s.toArray⟩:By)) x w (by simp) (by omega) (λj hj=>?_)).mono λe w' ⟨h1,h2⟩=>⟨?_,h2⟩
  ·rw[A8z]at hj;rw[C1z,hce j hj];simp[List.getD,hj]
  ·rw[h1,Aq (by simp),containsS_iff]
def Fd(l:L8)(es:List Ent):List (List UInt8):=if gtL∈Cu l es/\hdL∉Cu l es then srt (Cu l es++[hdL])else Cu l es
theorem b5B(v:Value)(l:List (List UInt8))(sep:By)(B:Nat)(w:World)(h:w.ownsRow B 9 1 v l.length (Gn l))(hl:l.length<=1000000)(hj:(Lib.join l sep.data.toList).length<=140737488355328):
  Calls prog 207 #[v,.string sep] w λe w'=>e=.returned (.string ⟨(Lib.join l sep.data.toList).toArray⟩)/\Bw w w':=by
 have hml:(l.map λs=>(⟨s.toArray⟩:By)).map (·.data.toList)=l:=by rw[E6z];simp[Function.comp_def]
 rcases Kz h with⟨rfl,rfl⟩|⟨g,cap,rfl,hg,hc,hce⟩
 ·exact(Tryz.strings_Join_none none 0 sep w).mono λe w' ⟨h1,h2⟩=>⟨h1,by rw[h2];exact Ad _ _⟩
 ·have H:=Tryz.strings_Join g 0 cap (l.map λs=>(⟨s.toArray⟩:By)) sep w (λj x hx=>by
   rw[E3z]at hx;have hjl:j<l.length:=by
    rcases B8z j l.length with q|q
    ·exact q
    ·rw[List.getElem?_eq_none q]at hx;cases hx
   rw[Av hjl]at hx;rw[C1z,hce j hjl];simpa using hx) hg (by rw[A8z];omega) (by rw[A8z];exact hc) (by rw[hml];exact hj)
  rw[hml,A8z]at H;exact H
theorem Ph(l:L8)(es:List Ent):(Cu l es).length<=es.length:=by
 rw[Pg];have:=Lz l es es.length;rw[E8z]at this;exact this
theorem a0Y(gs B:Nat)(es:List Ent)(v:Value)(s:By)(w:World)(hT:TbAt gs 0 B es v w)(hp:Pm.a1z s.data.toList=true)(h1s:1<=s.size)(hs:s.size<=140737488355328):
  Calls prog 206 #[.pointer (some ⟨gs,0,none⟩),.string s] w λx w'=>(∃vv,x=.returned vv/\w'.ownsRow w.heap.size 9 1 vv (Fd s.data.toList es).length (Gn (Fd s.data.toList es)))/\Bw w w':=by
 obtain⟨i0,hi,hz0,hz1,hz2⟩:=info_parts Tryz.info9;have lt0:=hT.lt;have hfw:=hT.few;have hms:=Ph s.data.toList es;have HM:=hid (Xl gs 0 B es v s w hT hp h1s hs);have HAL:Hid (Fd s.data.toList es=if gtL∈Cu s.data.toList es/\hdL∉Cu s.data.toList es then srt (Cu s.data.toList es++[hdL])else Cu s.data.toList es):=rfl;generalize Fd s.data.toList es=AL at *
 generalize Cu s.data.toList es=MS at *
 clear hT;go_enter func206,ntmps206;go_wp2_with fail;refine HM.out.mono ?_;rintro x w1 ⟨⟨vv,rfl,ow⟩,hb1⟩;have HC1:=hid (Nr vv MS ⟨#[71,69,84]⟩ w.heap.size w1 ow (by omega));have HC2:=hid (Nr vv MS ⟨#[72,69,65,68]⟩ w.heap.size w1 ow (by omega));have e1:(decide ((⟨#[71,69,84]⟩:By).data.toList∈MS))=decide (gtL∈MS):=rfl;have e2:(decide ((⟨#[72,69,65,68]⟩:By).data.toList∈MS))=decide (hdL∈MS):=rfl;rw[e1]at HC1;rw[e2]at HC2;have HO:=hid ow;have hsl:∃a c,vv=.slice a MS.length c:=Ce ow;obtain⟨a,c,rfl⟩:=hsl;clear HM ow e1 e2;go_wp2_with fail;refine HC1.out.mono ?_;rintro x w2 ⟨rfl,rfl⟩;by_cases hg:gtL∈MS
 ·by_cases hh:hdL∈MS
  ·have hA:AL=MS:=by rw[HAL.out,if_neg (λq=>q.2 hh)]
   subst hA;rw[Ak hg]at *
   rw[Ak hh]at HC2;clear HAL HC1;go_wp2_with fail;refine HC2.out.mono ?_;rintro x w3 ⟨rfl,rfl⟩;go_wp2;go_ret;exact⟨⟨_,rfl,HO.out⟩,hb1⟩
  ·have hA:AL=srt (MS++[hdL]):=by rw[HAL.out,if_pos ⟨hg,hh⟩]
   rw[Ak hg]at *
   rw[Ao hh]at HC2;clear HAL HC1;go_wp2_with fail;refine HC2.out.mono ?_;rintro x w3 ⟨rfl,rfl⟩;have o2:=HO.out;go_wp2_with (at_builtin;refine wpList_append_own _ rfl _ _ 99 rfl w.heap.size 9 i0 (.string ⟨#[]⟩) 1 16 underlying99 hi hz0 hz1 hz2 rfl (by decide) _ _ _ rfl (o2.alloc _) ⟨w3.heap.size,0,none⟩ 1 1 [.string ⟨#[72,69,65,68]⟩] rfl rfl ?c1 ?c2 ?c3 ?c4 ?c5 ?_)
   case c1=>
    intro j u hj
    match j,hj with
    |0,hj=>simp at hj;subst hj;simp[Addr.add]
   case c2=>intro u hu;simp at hu;subst hu;rfl
   case c3=>unfold maxLen;omega
   case c4=>omega
   case c5=>have:=hb1.size;simp;omega
   intro v' w4 hown' hgrow _;have hb4:Bw w w4:=(hb1.alloc hb1.size _).grown hgrow (by have:=hb1.size;simp;omega) (Bx o2);have hown2:w4.ownsRow w.heap.size 9 1 v' (MS++[hdL]).length (Gn (MS++[hdL])):=by
    have e:Gn (MS++[hdL])=Gn MS++[.string ⟨#[72,69,65,68]⟩]:=by unfold Gn;rw[B2z];rfl
    rw[e,A0z];exact hown'
   have HS:=hid (a0W v' (MS++[hdL]) w.heap.size w4 hown2 (by rw[A0z];simp;omega));rw[<-hA]at HS;have hle:AL.length=(MS++[hdL]).length:=by rw[hA,Ma]
   rw[<-hle]at HS;have HW:=hid hown2;clear hown' hown2 hgrow HC2 hA;go_wp2_with fail;refine HS.out.mono ?_;rintro x w5 ⟨rfl,ho5,hg5⟩;have hb5:Bw w w5:=hb4.grown hg5 hb4.size (Bx HW.out);have HO5:=hid ho5;clear ho5 hg5 HS HW;go_wp2;go_ret;exact⟨⟨_,rfl,HO5.out⟩,hb5⟩
 ·have hA:AL=MS:=by rw[HAL.out,if_neg (λq=>hg q.1)]
  subst hA;rw[Ao hg]at *
  clear HAL HC1 HC2;go_wp2;go_ret;exact⟨⟨_,rfl,HO.out⟩,hb1⟩
structure DsR where
 st:Int
 ro:Nat
 ps:List Prm
 al:L8
 lo:L8
 e:Int
def Eu(m t:L8)(es:List Ent):DsR:=
 if Pm.a1x m=false\/Pm.a2a t=false then⟨0,0,[],[],[],3⟩
 else if(Cv m (Pm.ahead 63 t) es).2.2=0 then⟨200,(Cv m (Pm.ahead 63 t) es).1,(Cv m (Pm.ahead 63 t) es).2.1,[],[],0⟩
 else if(otG m (Pm.ahead 63 t) es).2=true then⟨Jv m,0,[],[],(otG m (Pm.ahead 63 t) es).1++Pm.behind 63 t,0⟩
 else if Fd (Pm.ahead 63 t) es≠[]then⟨405,0,[],Lib.join (Fd (Pm.ahead 63 t) es) [44,32],[],0⟩
 else⟨404,0,[],[],[],0⟩
def Xn(R:DsR)(w:World)(x:Ending)(w':World):Prop:=
 (∃vv,∃ua ul:By,x=.returned (.tuple #[.agg #[.int .i64 R.st,.int .i64 R.ro,vv,.string ua,.string ul],.int .i64 R.e])/\ua.data.toList=R.al/\ul.data.toList=R.lo/\w'.ownsRow w.heap.size 129 2 vv R.ps.length (Bg R.ps))/\Bw w w'
def FnB(g:Nat)(st ro:Int)(vv:Value)(al lo:By)(w:World):Prop:=w.heap[g]?=some (.cells #[.int .i64 st,.int .i64 ro,vv,.string al,.string lo] 158 (0,0))
theorem FnB.cells{g:Nat}{st ro:Int}{vv:Value}{al lo:By}{w:World}(h:FnB g st ro vv al lo w):w.cell? ⟨g,0,none⟩=some (.int .i64 st)/\w.cell? ⟨g,1,none⟩=some (.int .i64 ro)/\w.cell? ⟨g,2,none⟩=some vv/\w.cell? ⟨g,3,none⟩=some (.string al)/\w.cell? ⟨g,4,none⟩=some (.string lo):=by
 refine⟨?_,?_,?_,?_,?_⟩<;>(rw[Ab h];rfl)
theorem FnB.free{g:Nat}{st ro:Int}{vv:Value}{al lo:By}{w:World}(h:FnB g st ro vv al lo w)(j:Nat):w.frozen? ⟨g,j,none⟩=false:=Ai h j
theorem FnB.lt{g:Nat}{st ro:Int}{vv:Value}{al lo:By}{w:World}(h:FnB g st ro vv al lo w):g<w.heap.size:=Ap h.cells.1
theorem FnB.below{g:Nat}{st ro:Int}{vv:Value}{al lo:By}{w w':World}(h:FnB g st ro vv al lo w)(hb:Bw w w'):FnB g st ro vv al lo w':=by
 have:=hb.block g h.lt;unfold FnB at *;rw[this];exact h
def Ns(g:Nat)(st ro:Int)(vv:Value)(al lo:By)(w:World):World:=((((w.setCell ⟨g,0,none⟩ (.int .i64 st)).setCell ⟨g,1,none⟩ (.int .i64 ro)).setCell ⟨g,2,none⟩ vv).setCell ⟨g,3,none⟩ (.string al)).setCell ⟨g,4,none⟩ (.string lo)
theorem FnB.set{g:Nat}{st ro:Int}{vv:Value}{al lo:By}{w:World}(h:FnB g st ro vv al lo w)(st' ro':Int)(vv':Value)(al' lo':By):FnB g st' ro' vv' al' lo' (Ns g st' ro' vv' al' lo' w):=by
 unfold FnB Ns at *
 rw[heap_setCell_same _ g 4 _ _ _ (heap_setCell_same _ g 3 _ _ _ (heap_setCell_same _ g 2 _ _ _ (heap_setCell_same _ g 1 _ _ _ (heap_setCell_same _ g 0 _ _ _ h))))];rfl
theorem Ee{g B:Nat}{st ro:Int}{vv:Value}{al lo:By}{w w':World}(h:Below B w w')(hB:B<=g):Below B w (Ns g st ro vv al lo w'):=
 ((((h.setCell hB _).setCell hB _).setCell hB _).setCell hB _).setCell hB _
theorem Vy{g B:Nat}{e:TypeId}{sz n:Nat}{v:Value}{xs:List Value}{st ro:Int}{vv:Value}{al lo:By}{w:World}(h:w.ownsRow B e sz v n xs)(hn:v.ownBlock≠some g):(Ns g st ro vv al lo w).ownsRow B e sz v n xs:=
 Bv (Bv (Bv (Bv (Bv h hn 0 _) hn 1 _) hn 2 _) hn 3 _) hn 4 _
theorem Xo(p:Value)(m t:By)(w:World)(hm:m.size<=maxLen)(ht:t.size<=140737488355328)(h:Pm.a1x m.data.toList=false\/Pm.a2a t.data.toList=false):
  Calls prog 145 #[p,.string m,.string t] w (Xn ⟨0,0,[],[],[],3⟩ w):=by
 have HM:=hid (λW=>Ct m W hm);have HT:=hid (λW=>Eo t W ht);have hA:=bA w (.cells #[.int .i64 0,.int .i64 0,.slice none 0 0,.string ⟨#[]⟩,.string ⟨#[]⟩] 158);have h0:FnB w.heap.size 0 0 (.slice none 0 0) ⟨#[]⟩ ⟨#[]⟩ (w.alloc (.cells #[.int .i64 0,.int .i64 0,.slice none 0 0,.string ⟨#[]⟩,.string ⟨#[]⟩] 158)):=Ag w _;go_enter func145,ntmps145;go_wp2_with fail;generalize w.alloc (.cells #[.int .i64 0,.int .i64 0,.slice none 0 0,.string ⟨#[]⟩,.string ⟨#[]⟩] 158)=w1 at *
 refine(HM.out _).mono ?_;rintro x w2 ⟨rfl,rfl⟩
 cases hmm:Pm.a1x m.data.toList
 ·obtain⟨c0,c1,c2,c3,c4⟩:=h0.cells;have f0:=h0.free 0;have f1:=h0.free 1;have f2:=h0.free 2;have f3:=h0.free 3;have f4:=h0.free 4;have l0:=h0.lt;have H1:=hid (h0.set 0 0 (.slice none 0 0) ⟨#[]⟩ ⟨#[]⟩);obtain⟨d0,d1,d2,d3,d4⟩:=H1.out.cells;unfold Ns at d0 d1 d2 d3 d4;go_wp2;refine Ae (v:=.tuple #[.agg #[.int .i64 0,.int .i64 0,.slice none 0 0,.string ⟨#[]⟩,.string ⟨#[]⟩],.int .i64 3]) (by simp[results,results145,go_sem,d0,d1,d2,d3,d4]) rfl ?_;exact⟨⟨_,_,_,rfl,rfl,rfl,Am _ _ _ _⟩,Ee hA (Ac _)⟩
 ·have ht0:Pm.a2a t.data.toList=false:=h.resolve_left (by rw[hmm];simp);rw[ht0]at HT;go_wp2_with fail;refine(HT.out _).mono ?_;rintro x w3 ⟨rfl,hb3⟩;have hB3:=Bc hA hb3;have h3:=h0.below hb3;obtain⟨c0,c1,c2,c3,c4⟩:=h3.cells;have f0:=h3.free 0;have f1:=h3.free 1;have f2:=h3.free 2;have f3:=h3.free 3;have f4:=h3.free 4;have l0:=h3.lt;have H1:=hid (h3.set 0 0 (.slice none 0 0) ⟨#[]⟩ ⟨#[]⟩);obtain⟨d0,d1,d2,d3,d4⟩:=H1.out.cells;unfold Ns at d0 d1 d2 d3 d4;go_wp2;refine Ae (v:=.tuple #[.agg #[.int .i64 0,.int .i64 0,(.slice none 0 0),.string ⟨#[]⟩,.string ⟨#[]⟩],.int .i64 3]) (by simp[results,results145,go_sem,d0,d1,d2,d3,d4]) rfl ?_;exact⟨⟨_,_,_,rfl,rfl,rfl,Am _ _ _ _⟩,Ee hB3 (Ac _)⟩
theorem b5C(gs B:Nat)(es:List Ent)(v:Value)(m o:By)(L:L8)(ho:o.data.toList=L)(w:World)(hT:TbAt gs 0 B es v w)(hp:Pm.a1z L=true)(h2:L.length<=140737488355000):
  Calls prog 204 #[.pointer (some ⟨gs,0,none⟩),.string m,.string o] w (b5A (otG m.data.toList L es) w):=by
 subst ho;have e:o.data.toList.length=o.size:=by simp
 exact Uz gs B es v m o w hT hp (by omega)
theorem a5N(gs B:Nat)(es:List Ent)(v:Value)(o:By)(L:L8)(ho:o.data.toList=L)(w:World)(hT:TbAt gs 0 B es v w)(hp:Pm.a1z L=true)(h1:1<=L.length)(h2:L.length<=140737488355328):
  Calls prog 206 #[.pointer (some ⟨gs,0,none⟩),.string o] w λx w'=>(∃vv,x=.returned vv/\w'.ownsRow w.heap.size 9 1 vv (Fd L es).length (Gn (Fd L es)))/\Bw w w':=by
 subst ho;have e:o.data.toList.length=o.size:=by simp
 exact a0Y gs B es v o w hT hp (by omega) (by omega)
theorem b9N(m l:L8)(es:List Ent)(h:Pm.a1z l=true):(otG m l es).1.length<=l.length+1:=by
 unfold otG;by_cases h1:l=[47]
 ·rw[if_pos h1];simp
 ·rw[if_neg h1];exact(Ju h h1).2.2
theorem a0Z(l:L8)(es:List Ent):(Fd l es).length<=es.length+1:=by
 have:=Ph l es;unfold Fd
 split
 ·rw[Ma,A0z];simp;omega
 ·omega
theorem a1A(gs B:Nat)(es:List Ent)(v:Value)(m t:By)(w:World)(hT:TbAt gs 0 B es v w)(hm:m.size<=maxLen)(ht:t.size<=140737488350000)(h1:Pm.a1x m.data.toList=true)(h2:Pm.a2a t.data.toList=true)(hj:(Lib.join (Fd (Pm.ahead 63 t.data.toList) es) [44,32]).length<=140737488355328):
  Calls prog 145 #[.pointer (some ⟨gs,0,none⟩),.string m,.string t] w (Xn (Eu m.data.toList t.data.toList es) w):=by
 have hpt:Pm.a1z (Pm.ahead 63 t.data.toList)=true:=by
  rw[Pm.a2b,A3z]at h2;exact h2.1
 have htl:t.data.toList.length=t.size:=by simp
 have hal:(Pm.ahead 63 t.data.toList).length<=t.size:=by rw[<-htl];exact(List.takeWhile_prefix _).length_le
 have hbl:(Pm.behind 63 t.data.toList).length<=t.size:=by rw[<-htl];exact(List.dropWhile_suffix _).length_le
 have hne:1<=(Pm.ahead 63 t.data.toList).length:=by
  unfold Pm.a1z at hpt;rw[A3z]at hpt
  cases hq:Pm.ahead 63 t.data.toList with
  |nil=>rw[hq]at hpt;exact absurd hpt.2 (by decide)
  |cons c r=>simp
 have hfew:=hT.few;have HR:Hid (Eu m.data.toList t.data.toList es=if(Cv m.data.toList (Pm.ahead 63 t.data.toList) es).2.2=0 then⟨200,(Cv m.data.toList (Pm.ahead 63 t.data.toList) es).1,(Cv m.data.toList (Pm.ahead 63 t.data.toList) es).2.1,[],[],0⟩
 else if(otG m.data.toList (Pm.ahead 63 t.data.toList) es).2=true then⟨Jv m.data.toList,0,[],[],(otG m.data.toList (Pm.ahead 63 t.data.toList) es).1++Pm.behind 63 t.data.toList,0⟩
 else if Fd (Pm.ahead 63 t.data.toList) es≠[]then⟨405,0,[],Lib.join (Fd (Pm.ahead 63 t.data.toList) es) [44,32],[],0⟩
 else⟨404,0,[],[],[],0⟩):=by
  unfold Hid Eu;rw[if_neg (by rw[h1,h2];simp)]
 have HM:=hid (λW=>Ct m W hm);have HTg:=hid (λW=>Eo t W (by omega));rw[h1]at HM;rw[h2]at HTg;have HSP:=hid (λW=>Kk t W (by unfold maxLen;omega));have HMV:=hid (λW=>b1A m W);have HLD:=hid (λ(o:By) (ho:o.data.toList=Pm.ahead 63 t.data.toList) W (hW:Bw w W)=>a8S gs B es v m o _ ho W (hT.below hW) hpt hne (by omega));have HLO:=hid (λ(o:By) (ho:o.data.toList=Pm.ahead 63 t.data.toList) W (hW:Bw w W)=>b5C gs B es v m o _ ho W (hT.below hW) hpt (by omega));have HAL:=hid (λ(o:By) (ho:o.data.toList=Pm.ahead 63 t.data.toList) W (hW:Bw w W)=>a5N gs B es v o _ ho W (hT.below hW) hpt hne (by omega));have hol:=b9N m.data.toList (Pm.ahead 63 t.data.toList) es hpt;have haf:=a0Z (Pm.ahead 63 t.data.toList) es;have lt0:=hT.lt;have hA:=bA w (.cells #[.int .i64 0,.int .i64 0,.slice none 0 0,.string ⟨#[]⟩,.string ⟨#[]⟩] 158);have h0:FnB w.heap.size 0 0 (.slice none 0 0) ⟨#[]⟩ ⟨#[]⟩ (w.alloc (.cells #[.int .i64 0,.int .i64 0,.slice none 0 0,.string ⟨#[]⟩,.string ⟨#[]⟩] 158)):=Ag w _;generalize Eu m.data.toList t.data.toList es=R at *
 generalize Cv m.data.toList (Pm.ahead 63 t.data.toList) es=LG at *
 generalize otG m.data.toList (Pm.ahead 63 t.data.toList) es=OG at *
 generalize Fd (Pm.ahead 63 t.data.toList) es=AG at *
 generalize Jv m.data.toList=MG at *
 generalize hPA:Pm.ahead 63 t.data.toList=PA at *
 generalize hPB:Pm.behind 63 t.data.toList=PB at *
 clear hT hpt h1 h2 htl hPA hPB;go_enter func145,ntmps145;go_wp2_with fail;generalize w.alloc (.cells #[.int .i64 0,.int .i64 0,.slice none 0 0,.string ⟨#[]⟩,.string ⟨#[]⟩] 158)=w1 at *
 refine(HM.out _).mono ?_;rintro x w2 ⟨rfl,rfl⟩;go_wp2_with fail;refine(HTg.out _).mono ?_;rintro x w3 ⟨rfl,hb3⟩;have hB3:=Bc hA hb3;have h3:=h0.below hb3;go_wp2_with fail;refine(HSP.out _).mono ?_;rintro x w4 ⟨⟨pa,pb,rfl,hpa,hpb⟩,hb4⟩;have hB4:=Bc hB3 hb4;have h4:=h3.below hb4;clear h0 h3 hb3 hb4 hA hB3 HM HTg HSP;go_wp2_with fail;refine(HLD.out _ hpa _ hB4).mono ?_;rintro x w5 ⟨⟨vv,rfl,ow⟩,hb5⟩;have hB5:=Bc hB4 hb5;have h5:=h4.below hb5;have HO:=hid ow;obtain⟨ax,cx,rfl⟩:=Ce ow;clear ow;by_cases q1:LG.2.2=0
 ·have hR:=HR.out;rw[if_pos q1]at hR;subst hR;rw[Ak q1];have hno:(Value.slice ax LG.2.1.length cx).ownBlock≠some w.heap.size:=λe=>by have:=Bx HO.out _ e;have:=h4.lt;omega
  have HO2:=hid (Bt HO.out hB4.size);clear HR HLD HLO HAL HMV h4 HO;obtain⟨c0,c1,c2,c3,c4⟩:=h5.cells;have f0:=h5.free 0;have f1:=h5.free 1;have f2:=h5.free 2;have f3:=h5.free 3;have f4:=h5.free 4;have l0:=h5.lt;have H1:=hid (h5.set 200 LG.1 (.slice ax LG.2.1.length cx) ⟨#[]⟩ ⟨#[]⟩);obtain⟨d0,d1,d2,d3,d4⟩:=H1.out.cells;unfold Ns at d0 d1 d2 d3 d4;go_wp2;refine Ae (v:=.tuple #[.agg #[.int .i64 200,.int .i64 LG.1,.slice ax LG.2.1.length cx,.string ⟨#[]⟩,.string ⟨#[]⟩],.int .i64 0]) (by simp[results,results145,go_sem,d0,d1,d2,d3,d4]) rfl ?_;exact⟨⟨_,_,_,rfl,rfl,rfl,Vy HO2.out hno⟩,Ee hB5 (Ac _)⟩
 ·rw[Ao q1];clear HO;go_wp2_with fail;refine(HLO.out _ hpa _ hB5).mono ?_;rintro x w6 ⟨⟨ob,rfl,hob⟩,hb6⟩;have hB6:=Bc hB5 hb6;have h6:=h5.below hb6;by_cases q2:OG.2=true
  ·have hR:=HR.out;rw[if_neg q1,if_pos q2]at hR;subst hR;rw[q2];have hsz:(ob++pb).size<=281474976710656:=by
    have e1:ob.data.toList.length=ob.size:=by simp
    have e2:pb.data.toList.length=pb.size:=by simp
    rw[E7z];rw[hob]at e1;rw[hpb]at e2;omega
   have hsm:ob.size+pb.size<=281474976710656:=by rw[E7z]at hsz;exact hsz
   have hk1:ob.size+pb.size<=9223372036854775807:=by omega
   have hk2:¬9223372036854775807<ob.size+pb.size:=by omega
   have HCL:=hid (λW=>Db (ob++pb) W hsz);have hlo:(ob++pb).data.toList=OG.1++PB:=by rw[<-hob,<-hpb];simp
   clear HR HLD HLO HAL h4 h5;go_wp2_with fail;refine(HCL.out _).mono ?_;rintro x w7 ⟨rfl,hb7⟩;have hB7:=Bc hB6 hb7;have h7:=h6.below hb7;go_wp2_with fail;refine(HMV.out _).mono ?_;rintro x w8 ⟨rfl,hb8⟩;have hB8:=Bc hB7 hb8;have h8:=h7.below hb8;clear h6 h7 hb7 hb8 HMV HCL;obtain⟨c0,c1,c2,c3,c4⟩:=h8.cells;have f0:=h8.free 0;have f1:=h8.free 1;have f2:=h8.free 2;have f3:=h8.free 3;have f4:=h8.free 4;have l0:=h8.lt;have H1:=hid (h8.set MG 0 (.slice none 0 0) ⟨#[]⟩ (ob++pb));obtain⟨d0,d1,d2,d3,d4⟩:=H1.out.cells;unfold Ns at d0 d1 d2 d3 d4;go_wp2;refine Ae (v:=.tuple #[.agg #[.int .i64 MG,.int .i64 0,(.slice none 0 0),.string ⟨#[]⟩,.string (ob++pb)],.int .i64 0]) (by simp[results,results145,go_sem,d0,d1,d2,d3,d4]) rfl ?_;exact⟨⟨_,_,_,rfl,rfl,hlo,Am _ _ _ _⟩,Ee hB8 (Ac _)⟩
  ·have q2':OG.2=false:=by simpa using q2
   rw[q2'];clear HLO HMV;go_wp2_with fail;refine(HAL.out _ hpa _ hB6).mono ?_;rintro x w7 ⟨⟨va,rfl,oa⟩,hb7⟩;have hB7:=Bc hB6 hb7;have h7:=h6.below hb7;obtain⟨aa,ca,rfl⟩:=Ce oa;by_cases q3:AG≠[]
   ·have hR:=HR.out;rw[if_neg q1,if_neg q2,if_pos q3]at hR;subst hR;have hpos:(0:Int)<(AG.length:Int):=by
     have:=List.length_pos_iff.2 q3;omega
    have HJ:=hid (b5B _ AG ⟨#[44,32]⟩ _ w7 oa (by omega) hj);have hsep:(⟨#[44,32]⟩:By).data.toList=[44,32]:=rfl;rw[hsep]at HJ;generalize Lib.join AG [44,32]=JG at *
    clear HR HLD HAL h4 h5 h6 oa hsep;go_wp2_with fail;refine HJ.out.mono ?_;rintro x w8 ⟨rfl,hb8⟩;have hB8:=Bc hB7 hb8;have h8:=h7.below hb8;clear h7 hb8 HJ;obtain⟨c0,c1,c2,c3,c4⟩:=h8.cells;have f0:=h8.free 0;have f1:=h8.free 1;have f2:=h8.free 2;have f3:=h8.free 3;have f4:=h8.free 4;have l0:=h8.lt;have H1:=hid (h8.set 405 0 (.slice none 0 0) ⟨JG.toArray⟩ ⟨#[]⟩);obtain⟨d0,d1,d2,d3,d4⟩:=H1.out.cells;unfold Ns at d0 d1 d2 d3 d4;go_wp2;refine Ae (v:=.tuple #[.agg #[.int .i64 405,.int .i64 0,(.slice none 0 0),.string ⟨JG.toArray⟩,.string ⟨#[]⟩],.int .i64 0]) (by simp[results,results145,go_sem,d0,d1,d2,d3,d4]) rfl ?_;exact⟨⟨_,_,_,rfl,(by simp),rfl,Am _ _ _ _⟩,Ee hB8 (Ac _)⟩
   ·have hR:=HR.out;rw[if_neg q1,if_neg q2,if_neg q3]at hR;subst hR;have hz:AG=[]:=Classical.not_not.1 q3;subst hz;clear HR HLD HAL h4 h5 h6 oa;obtain⟨c0,c1,c2,c3,c4⟩:=h7.cells;have f0:=h7.free 0;have f1:=h7.free 1;have f2:=h7.free 2;have f3:=h7.free 3;have f4:=h7.free 4;have l0:=h7.lt;have H1:=hid (h7.set 404 0 (.slice none 0 0) ⟨#[]⟩ ⟨#[]⟩);obtain⟨d0,d1,d2,d3,d4⟩:=H1.out.cells;unfold Ns at d0 d1 d2 d3 d4;go_wp2;refine Ae (v:=.tuple #[.agg #[.int .i64 404,.int .i64 0,(.slice none 0 0),.string ⟨#[]⟩,.string ⟨#[]⟩],.int .i64 0]) (by simp[results,results145,go_sem,d0,d1,d2,d3,d4]) rfl ?_;exact⟨⟨_,_,_,rfl,rfl,rfl,Am _ _ _ _⟩,Ee hB7 (Ac _)⟩
end Go.Proofs.YtbiggccolpchcaaGreatDoor
