/- Joined. -/
import Derived.Test.YtbiggccolpchcaaGreatDoorJoin08
set_option maxRecDepth 100000
set_option maxHeartbeats 8000000
namespace Go.Proofs.YtbiggccolpchcaaGreatDoor.Bn
open Go.RowKit _root_.Go.Proofs.Tryz
theorem b6W{cur:Array Value}{mv:Value}{k:Nat}(hs:k<=cur.size)(h:∀i,i<k->cur[i]?=some mv):cur.toList.take (k*1)=Ej [mv] k:=by
 apply List.ext_getElem?;intro x;rw[Nat.mul_one];by_cases hx:x<k
 ·rw[List.getElem?_take_of_lt hx];have h1:=h x hx;have h2:=Nm [mv] k x 0 mv hx rfl;rw[show x * [mv].length+0=x by simp]at h2;rw[h2];simpa using h1
 ·rw[List.getElem?_eq_none (by simp;omega),List.getElem?_eq_none (by rw[Fa];simp;omega)]
theorem c4T:(prog.info? 3).map (λi=>(i.zero,i.size,i.bytes))=some (some (.int .i64 0),1,8):=by kernel_rfl
theorem c2T:(prog.info? 38).map (λi=>(i.zero,i.size,i.bytes))=some (some (.slice none 0 0),1,24):=by kernel_rfl
def mkI(n:Nat):Int:=-1000-(n:Int)
theorem Wh(n:Nat)(hn:n<=5000000)(w:World):
  Calls prog 65 #[.int .i64 n] w λe w'=>e=.returned (.int .i64 (mkI n))/\Bw w w':=by
 have e:IntKind.i64.wrap (-1000-(n:Int))=-1000-(n:Int):=by unfold IntKind.wrap;simp[IntKind.signed,IntKind.bits];omega
 unfold mkI;go_enter func65,ntmps65;go_wp2;go_ret;exact⟨by first|rfl|rw[e],Ad _ _⟩
theorem Ym(bk B L:Nat)(cs:Array Value)(ct:TypeId)(vs:List Value)(V l:Value)(k:Nat)(xs:List Value)(w:World)
  (hbk:w.heap[bk]?=some (.cells cs ct (0,0))) (hcV:cs[0]?=some V) (hV:w.ownsRow B 38 1 V vs.length vs) (hvs:vs.length<=5000000) (hl:w.ownsRow L 3 1 l k xs) (hk:k<=1000)
  (h1:l.ownBlock≠some bk) (h2:∀r,V.ownBlock=some r->l.ownBlock≠some r) (hVb:V.ownBlock≠some bk) (n4:B<=w.heap.size) (n5:L<=w.heap.size) :
  Calls prog 52 #[.pointer (some ⟨bk,0,none⟩),l] w λx w'=>x=.returned (.tuple #[])/\Kept4 bk 0 B cs ct 38 [.int .i64 (mkI vs.length)] vs V l w w':=by
 obtain⟨i0,hi,hz0,hz1,hz2⟩:=info_parts c4T;obtain⟨j0,hj,jz0,jz1,jz2⟩:=info_parts c2T;obtain⟨Va,Vc,rfl⟩:=Vt hV;obtain⟨la,lc,rfl⟩:=Vt hl;have hbw:=heap_lt hbk;have hlw:∀r,(Value.slice la k lc).ownBlock=some r->r<w.heap.size:=λr hr=>(Cb hl r hr).2;have hVw:∀r,(Value.slice Va vs.length Vc).ownBlock=some r->r<w.heap.size:=λr hr=>(Cb hV r hr).2;have b1:w.cell? ⟨bk,0,none⟩=some (.slice Va vs.length Vc):=by rw[Ab hbk];exact hcV
 have HMT:=hid (Wh vs.length (by omega) w);generalize hmv:mkI vs.length=mv at *
 clear hmv;have hone:∀u∈[Value.int .i64 mv],u.oneCell'=true:=by intro u hu;rw[C4z]at hu;subst hu;rfl
 have HBK:=hid hbk;have HV:=hid hV;have HL:=hid hl;have HCV:=hid hcV;clear hbk hV hl hcV;go_enter func52,ntmps52;go_wp2_with fail;refine HMT.out.mono ?_;rintro e w1 ⟨rfl,hb1⟩;have HB1:=hid hb1;clear hb1 HMT b1;go_wp2_with fail
 go_loopw [5] (λi wr=>∃q:Nat,q<=k/\i=.int .i64 q/\Kx (Value.slice la k lc).ownBlock.toList w1 wr/\((k=0/\wr.ownsRow L 3 1 (.slice la k lc) k [])\/∃g cur,la=some ⟨g,0,none⟩/\L<=g/\wr.heap[g]?=some (.cells cur 3 (0,0))/\k<=lc/\lc<=maxLen/\cur.size=lc*1/\∀i,i<q->cur[i]?=some (.int .i64 mv))) (λi _=>k-(intOf i).toNat)
 case atStart=>
  refine⟨0,Ah _,rfl,Kx.refl _ _,?_⟩;have hl2:=Be HL.out HB1.out;rcases hl2.2 with⟨h3,h4⟩|⟨g,cap,cur,h3,h4,h5,h6,h7,h8,h9⟩
  ·refine .inl ⟨h4,?_⟩;have hx0:xs=[]:=Ay (by rw[hl2.1,h4]);rw[hx0]at hl2;exact hl2
  ·simp only[Value.slice.injEq]at h3;obtain⟨rfl,_,rfl⟩:=h3;exact .inr ⟨g,cur,rfl,h4,h5,h6,h7,h8,λi hi=>absurd hi (by omega)⟩
 case round=>
  obtain⟨q,hq,rfl,hkx,hst⟩:=hrel;by_cases hlt:q<k
  ·rcases hst with⟨h0,_⟩|⟨g,cur,rfl,hLg,hh,h3,h4,h5,h6⟩
   ·omega
   ·have c0:wr.cell? ⟨g,q,none⟩=some cur[q]:=by rw[Ab hh,Array.getElem?_eq_getElem (by omega)]
    have d0:wr.frozen? ⟨g,q,none⟩=false:=Ai hh _;have lg:=heap_lt hh;have HH:=hid hh;have HS:=hid h5;have H6:=hid h6;have HK:=hid hkx;generalize cur[q]=x0 at *
    clear h6 hh h5 hkx;go_wp2;refine⟨⟨q+1,by omega,by go_num,HK.out.trans (Kx.set _ _ (by simp[Value.ownBlock])) (λb hb=>.inl hb),.inr ⟨g,_,rfl,hLg,heap_setCell_same _ g _ _ _ _ HH.out,h3,h4,by simpa using HS.out,λi hi=>?_⟩⟩,by simp[intOf];omega⟩;have hcs:=HS.out;by_cases hiq:i=q
    ·subst hiq;simp[Array.getElem?_setIfInBounds];omega
    ·rw[Array.getElem?_setIfInBounds_ne (by omega)];exact H6.out i (by omega)
  ·have hqk:q=k:=by omega
   subst hqk;have hV2:=a8O (Be HV.out HB1.out) hkx (λr hr=>by rw[B5z];exact h2 r hr);have hbk2:wr.heap[bk]?=some (.cells cs ct (0,0)):=hkx.heap (by rw[HB1.out.block bk hbw];exact HBK.out) (by rw[B5z];exact h1);have hkx0:Kx (Value.slice la q lc).ownBlock.toList w wr:=(Kx.of HB1.out).trans hkx (λb hb=>.inl hb);have z1:=hkx0.size;have ow:wr.ownsRow L 3 1 (.slice la q lc) q (Ej [.int .i64 mv] q):=by
    rcases hst with⟨h0,h3⟩|⟨g,cur,rfl,hLg,hh,h3,h4,h5,h6⟩
    ·subst h0;exact h3
    ·exact⟨by rw[Fa];simp,.inr ⟨g,lc,cur,rfl,hLg,hh,h3,h4,h5,b6W (by omega) h6⟩⟩
   have S2:St bk L B cs ct 3 38 none [.int .i64 mv] vs (.slice Va vs.length Vc) (.slice la q lc) q w wr:=⟨ow,hbk2,hV2,hkx0,by omega,by omega,λb hb=>by cases hb⟩;have M0:MkG [.int .i64 mv] q la wr:=by
    obtain⟨a,c,e1,e2⟩:=Io ow;simp only[Value.slice.injEq]at e1;rw[e1.1];exact e2
   have HVV:=hid h2;have HLW:=hid hlw;have HVW:=hid hVw;clear hst hkx hV2 hbk2 hkx0 ow HBK HV HL HB1 z1 hlw hVw;go_wp2_with (at_builtin;refine Fb _ hone (by simp) rfl _ _ 38 rfl L 3 i0 _ 8 underlying38 hi hz0 hz1 hz2 (by omega) rfl (.slice la q lc) q rfl (S2.below (bA _ _)).ow ⟨wr.heap.size,0,none⟩ 1 1 rfl (World.news_of_block (cs:=#[.int .i64 mv]) (t:=3) (fr:=(0,0)) (Ag wr _)) (by omega) (by omega) (S2.below (bA _ _)).kS ?_);intro g1 p1 w3 o1 gr1 at1 lt1 ow1 mk1;have S3:=(S2.below (bA _ _)).grown gr1 ow1 h1 HVV.out (λb hb=>by cases hb);have A1:(Value.slice la q lc).ownBlock=some g1\/w.heap.size<=g1:=by
    rcases at1 with h|h
    ·exact .inl h
    ·right;have:=S2.kx.size;(try simp at h);omega
   have N1:MkG [.int .i64 mv] (q+1) (some ⟨g1,0,none⟩) w3:=by
    obtain⟨a,c,e1,e2⟩:=Io o1;simp only[Value.slice.injEq]at e1;rw[e1.1];exact e2
   have M0a:=mk1 _ _ (M0.below (bA _ _));clear gr1 at1 o1 ow1 mk1 M0;go_wp2_with (at_builtin;refine Fb _ hone (by simp) rfl _ _ 38 rfl L 3 i0 _ 8 underlying38 hi hz0 hz1 hz2 (by omega) rfl (.slice la q lc) q rfl (S3.below (bA _ _)).ow ⟨w3.heap.size,0,none⟩ 2 2 rfl (World.news_of_block (cs:=#[.int .i64 mv,.int .i64 mv]) (t:=3) (fr:=(0,0)) (Ag w3 _)) (by omega) (by omega) (S3.below (bA _ _)).kS ?_);intro g2 p2 w4 o2 gr2 at2 lt2 ow2 mk2;have S4:=(S3.below (bA _ _)).grown gr2 ow2 h1 HVV.out (λb hb=>by cases hb);have A2:(Value.slice la q lc).ownBlock=some g2\/w.heap.size<=g2:=by
    rcases at2 with h|h
    ·exact .inl h
    ·right;have:=S3.kx.size;(try simp at h);omega
   have N2:MkG [.int .i64 mv] (q+2) (some ⟨g2,0,none⟩) w4:=by
    obtain⟨a,c,e1,e2⟩:=Io o2;simp only[Value.slice.injEq]at e1;rw[e1.1];exact e2
   have M0b:=mk2 _ _ (M0a.below (bA _ _));have N1b:=mk2 _ _ (N1.below (bA _ _));have L1b:g1<w4.heap.size:=Af lt1 (by have:=gr2.size;simp at this;omega);clear gr2 at2 o2 ow2 mk2 M0a N1 S2;go_wp2_with (at_builtin;refine Fb _ hone (by simp) rfl _ _ 38 rfl L 3 i0 _ 8 underlying38 hi hz0 hz1 hz2 (by omega) rfl (.slice la q lc) q rfl (S4.below (bA _ _)).ow ⟨w4.heap.size,0,none⟩ 3 3 rfl (World.news_of_block (cs:=#[.int .i64 mv,.int .i64 mv,.int .i64 mv]) (t:=3) (fr:=(0,0)) (Ag w4 _)) (by omega) (by omega) (S4.below (bA _ _)).kS ?_);intro g3 p3 w5 o3 gr3 at3 lt3 ow3 mk3;have S5:=(S4.below (bA _ _)).grown gr3 ow3 h1 HVV.out (λb hb=>by cases hb);have A3:(Value.slice la q lc).ownBlock=some g3\/w.heap.size<=g3:=by
    rcases at3 with h|h
    ·exact .inl h
    ·right;have:=S4.kx.size;(try simp at h);omega
   have N3:MkG [.int .i64 mv] (q+3) (some ⟨g3,0,none⟩) w5:=by
    obtain⟨a,c,e1,e2⟩:=Io o3;simp only[Value.slice.injEq]at e1;rw[e1.1];exact e2
   have M0c:=mk3 _ _ (M0b.below (bA _ _));have N1c:=mk3 _ _ (N1b.below (bA _ _));have N2c:=mk3 _ _ (N2.below (bA _ _));have L1c:g1<w5.heap.size:=Af L1b (by have:=gr3.size;simp at this;omega);have L2c:g2<w5.heap.size:=Af lt2 (by have:=gr3.size;simp at this;omega);clear gr3 at3 o3 ow3 mk3 M0b N1b N2 S3 S4;have b1:w5.cell? ⟨bk,0,none⟩=some (.slice Va vs.length Vc):=by rw[Ab S5.kbk];exact HCV.out
   have lk5:=heap_lt S5.kbk;go_wp2_with (at_builtin;refine wpList_append_lies _ rfl _ _ 27 rfl B 38 j0 _ 1 24 underlying27 hj jz0 jz1 jz2 rfl (by omega) (.slice Va vs.length Vc) vs.length vs rfl (Be S5.kV (bA _ _)) ⟨w5.heap.size,0,none⟩ 4 4 [.slice la q lc,.slice (some ⟨g1,0,none⟩) (q+1) p1,.slice (some ⟨g2,0,none⟩) (q+2) p2,.slice (some ⟨g3,0,none⟩) (q+3) p3] rfl rfl (World.news_of_block (cs:=#[.slice la q lc,.slice (some ⟨g1,0,none⟩) (q+1) p1,.slice (some ⟨g2,0,none⟩) (q+2) p2,.slice (some ⟨g3,0,none⟩) (q+3) p3]) (t:=38) (fr:=(0,0)) (Ag w5 _)) (by intro u hu;simp at hu;rcases hu with rfl|rfl|rfl|rfl<;>rfl) (by omega) (by unfold maxLen;omega) (by omega) (Aj S5.kT (by simp)) _ rfl ?_);intro gV pV w7 oV grV atV ltV;have K4:=b4L (j:=0) S5 (by omega) h1 HVV.out hbw HLW.out HVW.out hVb A1 A2 A3 L1c L2c lt3 M0c N1c N2c N3 oV grV (by simpa using atV);have hA6:=bA w5 (.cells #[.slice la q lc,.slice (some ⟨g1,0,none⟩) (q+1) p1,.slice (some ⟨g2,0,none⟩) (q+2) p2,.slice (some ⟨g3,0,none⟩) (q+3) p3] 38);have k7:w7.heap[bk]?=some (.cells cs ct (0,0)):=by
    rw[grV.block bk (Af lk5 hA6.size) (λe=>hVb e.symm),hA6.block bk lk5];exact S5.kbk
   have c7:w7.cell? ⟨bk,0,none⟩=some (.slice Va vs.length Vc):=by rw[Ab k7];exact HCV.out
   have d7:w7.frozen? ⟨bk,0,none⟩=false:=Ai k7 0;have l7:=heap_lt k7;have HK4:=hid K4;clear K4 S5 oV grV atV ltV k7 hA6 M0c N1c N2c N3;go_wp2;refine bodyPost_end (v:=.tuple #[]) (by simp[results,results52,go_sem]) rfl ?_;exact⟨rfl,HK4.out⟩
theorem Vf(n:Nat)(hn:n<=5000000)(w:World):
  Calls prog 67 #[.int .i64 n] w λe w'=>e=.returned (.agg #[.string (mkS n),.string ⟨#[46]⟩])/\Bw w w':=by
 have hA:=bA w (.cells #[.string ⟨#[]⟩,.string ⟨#[]⟩] 129);go_enter func67,ntmps67;go_wp2_with fail;refine(Pa n (by omega) _).mono ?_;rintro e w1 ⟨rfl,hb1⟩;have c0:=Aa hb1 (a:=⟨w.heap.size,0,none⟩) (v:=.string ⟨#[]⟩) (by simp);have c1:=Aa hb1 (a:=⟨w.heap.size,1,none⟩) (v:=.string ⟨#[]⟩) (by simp);have d0:w1.frozen? ⟨w.heap.size,0,none⟩=false:=by rw[hb1.frozen (by simp)];simp
 have d1:w1.frozen? ⟨w.heap.size,1,none⟩=false:=by rw[hb1.frozen (by simp)];simp
 have BL:=hid (Bc hA hb1);clear hA hb1;go_wp2;refine Ae (v:=.agg #[.string (mkS n),.string ⟨#[46]⟩]) (by simp[results,results67,go_sem,c0,c1]) rfl ?_;exact⟨rfl,(BL.out.setCell (Ac _) _).setCell (Ac _) _⟩
theorem Vg(n:Nat)(hn:n<=5000000)(w:World):
  Calls prog 68 #[.int .i64 n] w λe w'=>e=.returned (.agg #[.string (mkS n),.string ⟨#[46]⟩])/\Bw w w':=by
 have hA:=bA w (.cells #[.string ⟨#[]⟩,.string ⟨#[]⟩] 131);go_enter func68,ntmps68;go_wp2_with fail;refine(Pa n (by omega) _).mono ?_;rintro e w1 ⟨rfl,hb1⟩;have c0:=Aa hb1 (a:=⟨w.heap.size,0,none⟩) (v:=.string ⟨#[]⟩) (by simp);have c1:=Aa hb1 (a:=⟨w.heap.size,1,none⟩) (v:=.string ⟨#[]⟩) (by simp);have d0:w1.frozen? ⟨w.heap.size,0,none⟩=false:=by rw[hb1.frozen (by simp)];simp
 have d1:w1.frozen? ⟨w.heap.size,1,none⟩=false:=by rw[hb1.frozen (by simp)];simp
 have BL:=hid (Bc hA hb1);clear hA hb1;go_wp2;refine Ae (v:=.agg #[.string (mkS n),.string ⟨#[46]⟩]) (by simp[results,results68,go_sem,c0,c1]) rfl ?_;exact⟨rfl,(BL.out.setCell (Ac _) _).setCell (Ac _) _⟩
end Go.Proofs.YtbiggccolpchcaaGreatDoor.Bn
