/- Joined. -/
import Derived.Test.YtbiggccolpchcaaGreatDoorWalkV
set_option maxRecDepth 100000
set_option maxHeartbeats 1000000
namespace Go.Proofs.YtbiggccolpchcaaGreatDoor
open Go.RowKit _root_.Go.Proofs.Tryz
theorem a0L{b:Nat}{w w1 w2:World}(h1:Bw w w1)(h2:Kp b w1 w2)(hb:w.heap.size<=b):Bw w w2:=
 {os:=h2.1.trans h1.os,tape:=h2.2.1.trans h1.tape,output:=h2.2.2.1.trans h1.output,size:=Aj h1.size h2.2.2.2.1,block:=λk hk=>(h2.2.2.2.2 k (Af hk h1.size) (by omega)).trans (h1.block k hk)}
theorem a5I(hd:Nat)(bd:Int)(s:By)(mx:Int)(w:World)(hs:s.size<=1152921504606846976)(hh0:32<=hd)(hh:hd<=500)(hb0:0<=bd)(hb1:bd<=200)(hm:w.cell? ⟨0,0,none⟩=some (.int .i64 mx)):
  Calls prog 135 #[.agg #[.int .i64 hd,.int .i64 bd],.string s] w λr w'=>
   (∃v,r=.returned (.tuple #[.agg #[.string ⟨(Cc s.data.toList hd bd).2.1.toArray⟩,.string ⟨(Cc s.data.toList hd bd).2.2.1.toArray⟩,v,.string ⟨(Cc s.data.toList hd bd).2.2.2.2.1.toArray⟩],.int .i64 (Cc s.data.toList hd bd).2.2.2.2.2,.int .i64 (Cc s.data.toList hd bd).1])/\w'.ownsRow w.heap.size 131 2 v (Cc s.data.toList hd bd).2.2.2.1.length (Ih (Cc s.data.toList hd bd).2.2.2.1))/\Bw w w':=by
 have hml:=Ap hm;have HM:=hid (λW (hW:Bw w W)=>Aa hW hm);have HR:=hid (λb W (hr:Cy b hd bd s 0 W) hm' hb=>a0B b hd bd s mx W hr hs hh hb0 hb1 hm' hb);have HL:=hid (Sl s.data.toList hd bd);have HB:=hid (a5C s.data.toList hd bd);generalize Cc s.data.toList hd bd=FR at *
 have hdec:decide (32<=(hd:Int)/\(hd:Int)<=500/\0<=bd/\bd<=200)=true:=Ak ⟨by omega,by omega,hb0,hb1⟩;clear hm;go_enter func135,ntmps135;go_wp2_with fail;refine(Ft _ _ _).mono ?_;rintro e w2 ⟨rfl,hb2⟩;rw[hdec];have hA:Bw w ((w.alloc (.cells #[.int .i64 hd,.int .i64 bd] 40)).alloc (.cells #[.string ⟨#[]⟩,.string ⟨#[]⟩,.slice none 0 0,.string ⟨#[]⟩] 47)):=(bA _ _).alloc (by simp) _;have hA2:=Bc hA hb2;have q1:RqB (w.heap.size+1) [] [] (.slice none 0 0) ((w.alloc (.cells #[.int .i64 hd,.int .i64 bd] 40)).alloc (.cells #[.string ⟨#[]⟩,.string ⟨#[]⟩,.slice none 0 0,.string ⟨#[]⟩] 47)):=by
  have:=Ag (w.alloc (.cells #[.int .i64 hd,.int .i64 bd] 40)) (.cells #[.string ⟨#[]⟩,.string ⟨#[]⟩,.slice none 0 0,.string ⟨#[]⟩] 47);rw[show(w.alloc (.cells #[.int .i64 hd,.int .i64 bd] 40)).heap.size=w.heap.size+1 from by simp]at this;exact this
 have q2:=q1.below hb2;have c0:=Aa hb2 (a:=⟨w.heap.size,0,none⟩) (v:=.int .i64 hd) (by simp);have c1:=Aa hb2 (a:=⟨w.heap.size,1,none⟩) (v:=.int .i64 bd) (by simp);have sz2:w.heap.size+2<=w2.heap.size:=by have:=hb2.size;simp at this;omega
 have hm2:=HM.out _ hA2;clear q1 hA hb2;go_wp2_with fail;have hA3:=bA w2 (.cells #[.int .i64 hd,.int .i64 bd,.string s,.int .i64 0] 271);refine(HR.out _ _ (Ag w2 _) (Aa hA3 hm2) (by omega)).mono ?_;rintro e w4 ⟨⟨m,g,va,vk,vc,y,rfl,hq⟩,kp⟩;have q4:=(q2.below hA3).kp kp (by omega);have hB4:=a0L (hA2.alloc hA2.size _) kp (by omega);have sz4:w2.heap.size+1<=w4.heap.size:=by have:=kp.2.2.2.1;simp at this;omega
 obtain⟨u0,u1,u2,u3⟩:=q4.cells;have y0:=q4.free 0;have y1:=q4.free 1;have y2:=q4.free 2;have y3:=q4.free 3;have BL:=hid hB4;have s1:w2.heap.size<w4.heap.size:=by omega
 have s2:w.heap.size+1<w4.heap.size:=by omega
 have s3:¬w2.heap.size=w.heap.size+1:=by omega
 have s4:¬w.heap.size+1=w2.heap.size:=by omega
 clear HR HM q2 hA3 hA2 c0 c1 hm2 kp hB4 q4;by_cases hE:FR.1=0
 ·obtain⟨rfl,rfl,rfl,ow,rd⟩:=hq hE;have ow2:=Bt ow (B':=w.heap.size) (by simp;omega);have OB:=hid (Hh ow (g:=w.heap.size+1) (by simp;omega));obtain⟨r0,r1,r2,r3⟩:=rd.cell;have OW:=hid ow2;rw[hE];clear hq ow ow2 rd HB HL r0 r1 r2;go_wp2
  go_region
  go_wp2;refine Ae (v:=.tuple #[.agg #[.string ⟨FR.2.1.toArray⟩,.string ⟨FR.2.2.1.toArray⟩,.slice va vk vc,.string ⟨FR.2.2.2.2.1.toArray⟩],.int .i64 FR.2.2.2.2.2,.int .i64 0]) (by simp[results,results135,go_sem,u0,u1,u2,u3,s2]) rfl ?_;rw[hE];refine⟨⟨_,rfl,?_⟩,?_⟩
  ·exact Be (Bv (Bv (Bv (Bv OW.out OB.out 0 _) OB.out 1 _) OB.out 2 _) OB.out 3 _) (bA _ _).drew
  ·exact(((((BL.out.setCell (Al _) _).setCell (Al _) _).setCell (Al _) _).setCell (Al _) _).alloc (by simp;omega) _).drew
 ·have HB2:=hid (HB.out hE);have hne:(FR.1 != 0)=true:=by rw[bne_iff_ne];exact hE
  clear hq HB HL;go_wp2;refine Ae (v:=.tuple #[.agg #[.string ⟨#[]⟩,.string ⟨#[]⟩,.slice none 0 0,.string ⟨#[]⟩],.int .i64 0,.int .i64 FR.1]) (by simp[results,results135,go_sem,u0,u1,u2,u3,s2]) rfl ?_;generalize hx:FR.1=x at *
  rw[HB2.out];refine⟨⟨_,rfl,Am _ _ _ _⟩,?_⟩;exact((((BL.out.setCell (Al _) _).setCell (Al _) _).setCell (Al _) _).setCell (Al _) _).alloc (by simp;omega) _
theorem Kv(c:UInt8)(w:World):
  Calls prog 319 #[.int .u8 c.toNat] w λe w'=>e=.returned (.bool (Pm.a2v c))/\w'=w:=by
 have h0:=c.toNat_lt;by_cases h1:97<=(c.toNat:Int)
 ·by_cases h2:(c.toNat:Int)<=122
  ·go_enter func319,ntmps319;go_wp2;go_ret;exact⟨Bd (by simp[Pm.a2v,h1,h2]),rfl⟩
  ·go_enter func319,ntmps319;go_wp2_with (go_at_call 236;refine(Ey _ _).mono ?_;rintro e w' ⟨rfl,rfl⟩);go_ret;exact⟨Bd (by unfold Pm.a2v;rw[Ao (show ¬(c.toNat:Int)<=122 by omega),C7z,D8z]),rfl⟩
 ·go_enter func319,ntmps319;go_wp2_with (go_at_call 236;refine(Ey _ _).mono ?_;rintro e w' ⟨rfl,rfl⟩);go_ret;exact⟨Bd (by unfold Pm.a2v;rw[Ao (show ¬97<=(c.toNat:Int) by omega),C9z,D8z]),rfl⟩
theorem Km(c:UInt8)(w:World):
  Calls prog 320 #[.int .u8 c.toNat] w λe w'=>e=.returned (.bool (Pm.a1j c))/\w'=w:=by
 have hc:((c.toNat:Int)).toNat.toUInt8=c:=by simp
 cases h1:Pm.a2f c
 ·cases h2:Pm.a0u c
  ·go_enter func320,ntmps320;go_wp2_with (first|(go_at_call 236;refine(Ey _ _).mono ?_;rintro e w' ⟨rfl,rfl⟩)|(go_at_call 235;refine(He _ _).mono ?_;rintro e w' ⟨rfl,rfl⟩)|(go_at_call 237;refine(Tryz.strings_IndexByte _ _ _).mono ?_;rintro e w' ⟨rfl,rfl⟩));go_ret;exact⟨Bd (by unfold Pm.a1j;rw[h1,h2];simp only[Bool.or_false,D8z];exact decide_eq_decide.2 Iff.rfl),rfl⟩
  ·go_enter func320,ntmps320;go_wp2_with (first|(go_at_call 236;refine(Ey _ _).mono ?_;rintro e w' ⟨rfl,rfl⟩)|(go_at_call 235;refine(He _ _).mono ?_;rintro e w' ⟨rfl,rfl⟩));go_ret;exact⟨Bd (by unfold Pm.a1j;rw[h1,h2];rfl),rfl⟩
 ·go_enter func320,ntmps320;go_wp2_with (go_at_call 235;refine(He _ _).mono ?_;rintro e w' ⟨rfl,rfl⟩);go_ret;exact⟨Bd (by unfold Pm.a1j;rw[h1];rfl),rfl⟩
theorem a0M(s:By)(w:World)(hs:s.size<=maxLen):
  Calls prog 176 #[.string s,.func (.func 319) #[] #[]] w λe w'=>e=.returned (.bool (Pm.a0h Pm.a2v s.data.toList))/\w'=w:=by
 unfold maxLen at hs;go_enter func176,ntmps176;go_wp2_with fail
 go_loop [5,8] (λ_ i=>∃k:Nat,k<=s.size/\i=.int .i64 k/\Hid (Pm.a0h Pm.a2v (s.data.toList.take k)=true)) (λ_ i=>s.size-(intOf i).toNat)
 case atStart=>exact⟨0,Ah _,rfl,rfl⟩
 case round=>
  obtain⟨k,hk,rfl,H⟩:=hrel;by_cases hlt:k<s.size
  ·have HS:Hid (Pm.a0h Pm.a2v (s.data.toList.take (k+1))=(Pm.a0h Pm.a2v (s.data.toList.take k)&&Pm.a2v s[k])):=by rw[Pm.take_snoc s k hlt,Pm.a0i];exact rfl
   cases hb:Pm.a2v s[k]
   ·go_wp2_with (go_at_call 319;refine(Kv _ _).mono ?_;rintro e w' ⟨rfl,rfl⟩);go_ret;refine⟨Bd ?_,rfl⟩;have h1:=HS.out;rw[hb,C7z]at h1;exact(Pm.a0j h1).symm
   ·go_wp2_with (go_at_call 319;refine(Kv _ _).mono ?_;rintro e w' ⟨rfl,rfl⟩)
    go_round
    case rel=>exact⟨k+1,by omega,by go_num,by rw[HS.out,hb,H.out];exact rfl⟩
    case measure=>simp[intOf];omega
  ·go_wp2;go_ret;refine⟨Bd ?_,rfl⟩;have h1:=H.out;rw[Aq (by simp;omega)]at h1;exact h1.symm
theorem a5J(s:By)(w:World)(hs:s.size<=maxLen):
  Calls prog 176 #[.string s,.func (.func 320) #[] #[]] w λe w'=>e=.returned (.bool (Pm.a0h Pm.a1j s.data.toList))/\w'=w:=by
 unfold maxLen at hs;go_enter func176,ntmps176;go_wp2_with fail
 go_loop [5,8] (λ_ i=>∃k:Nat,k<=s.size/\i=.int .i64 k/\Hid (Pm.a0h Pm.a1j (s.data.toList.take k)=true)) (λ_ i=>s.size-(intOf i).toNat)
 case atStart=>exact⟨0,Ah _,rfl,rfl⟩
 case round=>
  obtain⟨k,hk,rfl,H⟩:=hrel;by_cases hlt:k<s.size
  ·have HS:Hid (Pm.a0h Pm.a1j (s.data.toList.take (k+1))=(Pm.a0h Pm.a1j (s.data.toList.take k)&&Pm.a1j s[k])):=by rw[Pm.take_snoc s k hlt,Pm.a0i];exact rfl
   cases hb:Pm.a1j s[k]
   ·go_wp2_with (go_at_call 320;refine(Km _ _).mono ?_;rintro e w' ⟨rfl,rfl⟩);go_ret;refine⟨Bd ?_,rfl⟩;have h1:=HS.out;rw[hb,C7z]at h1;exact(Pm.a0j h1).symm
   ·go_wp2_with (go_at_call 320;refine(Km _ _).mono ?_;rintro e w' ⟨rfl,rfl⟩)
    go_round
    case rel=>exact⟨k+1,by omega,by go_num,by rw[HS.out,hb,H.out];exact rfl⟩
    case measure=>simp[intOf];omega
  ·go_wp2;go_ret;refine⟨Bd ?_,rfl⟩;have h1:=H.out;rw[Aq (by simp;omega)]at h1;exact h1.symm
theorem Xi(s:By)(w:World)(hs:s.size<=maxLen):
  Calls prog 271 #[.string s] w λe w'=>e=.returned (.bool (Pm.a0h Pm.a1j s.data.toList))/\w'=w:=by
 go_enter func271,ntmps271;go_wp2_with (go_at_call 176;refine(a5J _ _ hs).mono ?_;rintro e w' ⟨rfl,rfl⟩);go_ret;exact⟨rfl,rfl⟩
theorem a0N(s:By)(w:World)(hs:s.size<=maxLen):
  Calls prog 270 #[.string s] w λe w'=>e=.returned (.bool (Pm.a1y s.data.toList))/\w'=w:=by
 by_cases h:s.data.toList=[]
 ·have he:s.toList.isEmpty=true:=by rw[A1z,h];rfl
  have HN:Hid (Pm.a1y s.data.toList=false):=by unfold Hid Pm.a1y;rw[h];rfl
  clear h;go_enter func270,ntmps270;go_wp2;go_ret;exact⟨Bd HN.out.symm,rfl⟩
 ·have he:s.toList.isEmpty=false:=by rw[A1z];cases hl:s.data.toList with|nil=>exact absurd hl h|cons=>rfl
  have HN:Hid (Pm.a1y s.data.toList=Pm.a0h Pm.a2v s.data.toList):=by unfold Hid Pm.a1y;rw[<-A1z,he];rfl
  clear h;go_enter func270,ntmps270;go_wp2_with (go_at_call 176;refine(a0M _ _ hs).mono ?_;rintro e w' ⟨rfl,rfl⟩);go_ret;exact⟨Bd HN.out.symm,rfl⟩
theorem c2C{s:By}{c:UInt8}(h:Lib.hasPrefix s.data.toList [c]=true):Lib.trimPrefix s.data.toList [c]=s.data.toList.drop 1:=by
 unfold Lib.trimPrefix;rw[h];rfl
theorem a8P(s:By)(c:UInt8)(w:World)(h:Lib.hasPrefix s.data.toList [c]=true):
  Calls prog 269 #[.string s,.string ⟨#[c]⟩] w λe w'=>e=.returned (.tuple #[.string ⟨(s.data.toList.drop 1).toArray⟩,.bool true])/\w'=w:=by
 have h2:=Tryz.strings_CutPrefix s ⟨#[c]⟩ w;rw[show(⟨#[c]⟩:By).data.toList=[c]from rfl,c2C h,h]at h2;exact h2
theorem a0O(s:By)(c:UInt8)(w:World)(h:Lib.hasPrefix s.data.toList [c]=false):
  Calls prog 269 #[.string s,.string ⟨#[c]⟩] w λe w'=>e=.returned (.tuple #[.string s,.bool false])/\w'=w:=by
 have h2:=Tryz.strings_CutPrefix s ⟨#[c]⟩ w;rw[show(⟨#[c]⟩:By).data.toList=[c]from rfl,show Lib.trimPrefix s.data.toList [c]=s.data.toList from by unfold Lib.trimPrefix;rw[h];rfl,h]at h2;exact h2
theorem Ux(s:By)(w:World)(hs:s.size<=maxLen):
  Calls prog 221 #[.string s] w λr w'=>
   r=.returned (.tuple #[.agg #[.int .i64 (Pm.a4e s.data.toList),.string ⟨(Pm.a4g s.data.toList).toArray⟩],.bool (Pm.a4f s.data.toList)])/\Bw w w':=by
 have hA:=bA w (.cells #[.int .i64 0,.string ⟨#[]⟩] 307);have hsl:s.data.toList.length=s.size:=by simp
 have hds:(⟨(s.data.toList.drop 1).toArray⟩:By).size<=maxLen:=by
  rw[Dn (rfl:(⟨(s.data.toList.drop 1).toArray⟩:By).data.toList=s.data.toList.drop 1),A6z,hsl];omega
 have HA:=hid hA;clear hA hsl;generalize hdb:(⟨(s.data.toList.drop 1).toArray⟩:By)=db at *
 have hdd:db.data.toList=s.data.toList.drop 1:=by rw[<-hdb]
 have HDB:=hid hdb;have HN:=hid (λW=>a0N db W hds);have HX:=hid (λW=>Xi s W hs);have C1:=hid (λW=>a8P s 58 W);have C2:=hid (λW=>a0O s 58 W);have C3:=hid (λW=>a8P s 42 W);have C4:=hid (λW=>a0O s 42 W);rw[hdb]at C1 C3;rw[hdd]at HN
 cases h1:Lib.hasPrefix s.data.toList [58]
 ·have D1:=hid (λW=>C2.out W h1)
  cases h2:Lib.hasPrefix s.data.toList [42]
  ·have D2:=hid (λW=>C4.out W h2);have HK:Hid (Pm.a4e s.data.toList=0/\Pm.a4g s.data.toList=s.data.toList/\Pm.a4f s.data.toList=Pm.a0h Pm.a1j s.data.toList):=by
    unfold Hid Pm.a4f Pm.a4e Pm.a4g;rw[h1,h2];exact⟨rfl,rfl,rfl⟩
   clear C1 C2 C3 C4 h1 h2 hdb hdd HN HDB;generalize Pm.a0h Pm.a1j s.data.toList=fb at *
   go_enter func221,ntmps221;go_wp2_with fail;refine(D1.out _).mono ?_;rintro e w3 ⟨rfl,hw3⟩;rw[hw3];clear hw3 w3;go_wp2_with fail;refine(D2.out _).mono ?_;rintro e w2 ⟨rfl,hw2⟩;rw[hw2];clear hw2 w2 D1 D2;go_wp2_with fail;refine(HX.out _).mono ?_;rintro e w3 ⟨rfl,hw3⟩;rw[hw3];clear hw3 w3;go_wp2;refine Ae (v:=.tuple #[.agg #[.int .i64 0,.string s],.bool fb]) (by simp[results,results221,go_sem]) rfl ?_;obtain⟨k1,k2,k3⟩:=HK.out;rw[k1,k2,k3];exact⟨rfl,bA _ _⟩
  ·have D2:=hid (λW=>C3.out W h2);have HK:Hid (Pm.a4e s.data.toList=2/\Pm.a4g s.data.toList=s.data.toList.drop 1/\Pm.a4f s.data.toList=Pm.a1y (s.data.toList.drop 1)):=by
    unfold Hid Pm.a4f Pm.a4e Pm.a4g;rw[h1,h2];exact⟨rfl,rfl,rfl⟩
   clear C1 C2 C3 C4 h1 h2 hdb hdd HX;generalize Pm.a1y (s.data.toList.drop 1)=nb at *
   go_enter func221,ntmps221;go_wp2_with fail;refine(D1.out _).mono ?_;rintro e w3 ⟨rfl,hw3⟩;rw[hw3];clear hw3 w3;go_wp2_with fail;refine(D2.out _).mono ?_;rintro e w3 ⟨rfl,hw3⟩;rw[hw3];clear hw3 w3;go_wp2_with fail;refine(HN.out _).mono ?_;rintro e w3 ⟨rfl,hw3⟩;rw[hw3];clear hw3 w3;go_wp2;refine Ae (v:=.tuple #[.agg #[.int .i64 2,.string db],.bool nb]) (by simp[results,results221,go_sem]) rfl ?_;obtain⟨k1,k2,k3⟩:=HK.out;rw[k1,k2,k3,HDB.out];exact⟨rfl,bA _ _⟩
 ·have D1:=hid (λW=>C1.out W h1);have HK:Hid (Pm.a4e s.data.toList=1/\Pm.a4g s.data.toList=s.data.toList.drop 1/\Pm.a4f s.data.toList=Pm.a1y (s.data.toList.drop 1)):=by
   unfold Hid Pm.a4f Pm.a4e Pm.a4g;rw[h1];exact⟨rfl,rfl,rfl⟩
  clear C1 C2 C3 C4 h1 hdb hdd HX;generalize Pm.a1y (s.data.toList.drop 1)=nb at *
  go_enter func221,ntmps221;go_wp2_with fail;refine(D1.out _).mono ?_;rintro e w3 ⟨rfl,hw3⟩;rw[hw3];clear hw3 w3;go_wp2_with fail;refine(HN.out _).mono ?_;rintro e w3 ⟨rfl,hw3⟩;rw[hw3];clear hw3 w3;go_wp2;refine Ae (v:=.tuple #[.agg #[.int .i64 1,.string db],.bool nb]) (by simp[results,results221,go_sem]) rfl ?_;obtain⟨k1,k2,k3⟩:=HK.out;rw[k1,k2,k3,HDB.out];exact⟨rfl,bA _ _⟩
def Ii(ps:List (Int×By))(a:Oa)(w:World):Prop:=
 ∀i (h:i<ps.length),∃g,a=some ⟨g,0,none⟩/\g<w.heap.size/\w.cell? ⟨g,i*2,none⟩=some (.int .i64 ps[i].1)/\w.cell? ⟨g,i*2+1,none⟩=some (.string ps[i].2)
theorem Ii.below{ps:List (Int×By)}{a:Oa}{w w':World}(h:Ii ps a w)(hb:Bw w w'):Ii ps a w':=λi hi=>by
 obtain⟨g,h1,h2,h3,h4⟩:=h i hi;exact⟨g,h1,Af h2 hb.size,Aa hb h3,Aa hb h4⟩
def Dv(p q:Int×By):Bool:=(p.1 != 0)&&((q.1 != 0)&&(p.2.toList==q.2.toList))
def tk(k:Int)(own text:By):Bool:=if k=0 then text.toList==own.toList else if k=1 then !text.toList.isEmpty else true
def mt(p q:Int×By):Bool:=if p.1=0 then tk q.1 q.2 p.2 else(q.1==1||tk p.1 p.2 q.2)
theorem Pb(k:Int)(own text:By)(w:World):
  Calls prog 226 #[.agg #[.int .i64 k,.string own],.string text] w λe w'=>e=.returned (.bool (tk k own text))/\Bw w w':=by
 by_cases h0:k=0
 ·have HT:Hid (tk k own text=(text.toList==own.toList)):=by unfold Hid tk;rw[if_pos h0]
  have h0':(k==0)=true:=by rw[h0];rfl
  go_enter func226,ntmps226;go_wp2;go_ret;exact⟨Bd HT.out.symm,bA _ _⟩
 ·have h0':(k==0)=false:=by rw[Ar];exact h0
  by_cases h1:k=1
  ·have HT:Hid (tk k own text=!text.toList.isEmpty):=by unfold Hid tk;rw[if_neg h0,if_pos h1]
   have h1':(k==1)=true:=by rw[h1];rfl
   go_enter func226,ntmps226;go_wp2;go_ret;exact⟨Bd HT.out.symm,bA _ _⟩
  ·have HT:Hid (tk k own text=true):=by unfold Hid tk;rw[if_neg h0,if_neg h1]
   have h1':(k==1)=false:=by rw[Ar];exact h1
   go_enter func226,ntmps226;go_wp2;go_ret;exact⟨Bd HT.out.symm,bA _ _⟩
theorem b0W(k j:Int)(s t:By)(w:World):
  Calls prog 223 #[.agg #[.int .i64 k,.string s],.agg #[.int .i64 j,.string t]] w λe w'=>e=.returned (.bool (mt (k,s) (j,t)))/\Bw w w':=by
 have hA:Bw w ((w.alloc (.cells #[.int .i64 k,.string s] 307)).alloc (.cells #[.int .i64 j,.string t] 307)):=(bA _ _).alloc (by simp) _;by_cases h0:k=0
 ·have HT:Hid (mt (k,s) (j,t)=tk j t s):=by unfold Hid mt;rw[if_pos h0]
  have h0':(k==0)=true:=by rw[h0];rfl
  clear h0;go_enter func223,ntmps223;go_wp2_with fail;refine(Pb j t s _).mono ?_;rintro e w1 ⟨rfl,hb1⟩;generalize tk j t s=r at *
  go_wp2;go_ret;exact⟨Bd HT.out.symm,Bc hA hb1⟩
 ·have h0':(k==0)=false:=by rw[Ar];exact h0
  by_cases h1:j=1
  ·have HT:Hid (mt (k,s) (j,t)=true):=by unfold Hid mt;rw[if_neg h0,h1];rfl
   have h1':(j==1)=true:=by rw[h1];rfl
   clear h0 h1;go_enter func223,ntmps223;go_wp2;go_ret;exact⟨Bd HT.out.symm,hA⟩
  ·have h1':(j==1)=false:=by rw[Ar];exact h1
   have HT:Hid (mt (k,s) (j,t)=tk k s t):=by unfold Hid mt;rw[if_neg h0,h1'];rfl
   clear h0 h1;go_enter func223,ntmps223;go_wp2_with fail;refine(Pb k s t _).mono ?_;rintro e w1 ⟨rfl,hb1⟩;generalize tk k s t=r at *
   go_wp2;go_ret;exact⟨Bd HT.out.symm,Bc hA hb1⟩
theorem b4N{ps:List (Int×By)}{q:Int×By}{k:Nat}(h:k<ps.length):(ps.take (k+1)).any (Dv · q)=((ps.take k).any (Dv · q)||Dv ps[k] q):=by
 rw[A4z h,List.any_append];simp
theorem a0P(ps:List (Int×By))(a:Oa)(cap:Nat)(k:Int)(t:By)(w:World)(hp:Ii ps a w)(hl:ps.length<=1000000):
  Calls prog 222 #[.slice a ps.length cap,.agg #[.int .i64 k,.string t]] w λe w'=>e=.returned (.bool (ps.any (Dv · (k,t))))/\Bw w w':=by
 have hA:=bA w (.cells #[.int .i64 k,.string t] 307);have HP:=hid (hp.below hA);have b0:(w.alloc (.cells #[.int .i64 k,.string t] 307)).cell? ⟨w.heap.size,0,none⟩=some (.int .i64 k):=by simp
 have b1:(w.alloc (.cells #[.int .i64 k,.string t] 307)).cell? ⟨w.heap.size,1,none⟩=some (.string t):=by simp
 have hsz:w.heap.size<(w.alloc (.cells #[.int .i64 k,.string t] 307)).heap.size:=by simp
 clear hp;go_enter func222,ntmps222;go_wp2_with fail;generalize w.alloc (.cells #[.int .i64 k,.string t] 307)=w1 at *
 go_loopw [6,9] (λ_ i wr=>∃q:Nat,q<=ps.length/\i=.int .i64 q/\Hid ((ps.take q).any (Dv · (k,t))=false)/\Bw w1 wr) (λ_ i _=>ps.length-(intOf i).toNat)
 case atStart=>exact⟨0,Ah _,rfl,rfl,Ad _ _⟩
 case round=>
  obtain⟨q,hq,rfl,H,hbw⟩:=hrel;have c0:=Aa hbw b0;have c1:=Aa hbw b1;by_cases hlt:q<ps.length
  ·obtain⟨g,rfl,hg,hc1,hc2⟩:=(HP.out.below hbw) q hlt;have HS:=hid (b4N (q:=(k,t)) hlt);obtain⟨f,hf⟩:∃f,f=ps[q]:=⟨_,rfl⟩;rw[<-hf]at hc1 hc2 HS;clear hf;obtain⟨pk,pt⟩:=f;simp only at hc1 hc2;have hbn:Bw w1 (wr.alloc (.cells #[.int .i64 pk,.string pt] 307)):=Bc hbw (bA _ _);have NO:Hid (Dv (pk,pt) (k,t)=false->(ps.take (q+1)).any (Dv · (k,t))=false):=λh=>by rw[HS.out,H.out,h];rfl
   have hsz2:w.heap.size<wr.heap.size:=Af hsz hbw.size
   cases h1:(pk != 0)
   ·have N1:=hid (NO.out (by unfold Dv;rw[h1];rfl));clear NO HS;go_wp2;exact⟨⟨q+1,by omega,by go_num,N1,hbn⟩,by simp[intOf];omega⟩
   ·cases h2:(k != 0)
    ·have N1:=hid (NO.out (by unfold Dv;rw[h1,h2];rfl));clear NO HS;go_wp2;exact⟨⟨q+1,by omega,by go_num,N1,hbn⟩,by simp[intOf];omega⟩
    ·cases h3:(pt.toList==t.toList)
     ·have N1:=hid (NO.out (by unfold Dv;rw[h1,h2,h3];rfl));clear NO HS;go_wp2;exact⟨⟨q+1,by omega,by go_num,N1,hbn⟩,by simp[intOf];omega⟩
     ·have HY:Hid (ps.any (Dv · (k,t))=true):=by
       unfold Hid;have h4:(ps.take (q+1)).any (Dv · (k,t))=true:=by rw[HS.out];unfold Dv;rw[h1,h2,h3];simp
       rw[List.any_eq_true]at h4 ⊢;obtain⟨x,hx,hy⟩:=h4;exact⟨x,List.mem_of_mem_take hx,hy⟩
      clear NO HS;go_wp2;go_ret;exact⟨Bd HY.out.symm,Bc hA hbn⟩
  ·have HN:Hid (ps.any (Dv · (k,t))=false):=by
    have:=H.out;rw[Aq (by omega)]at this;exact this
   go_wp2;go_ret;exact⟨Bd HN.out.symm,Bc hA hbw⟩
def ovl:List (Int×By)->List (Int×By)->Bool
 |p::ps,q::qs=>if p.1=2\/q.1=2 then true else if mt p q=true then ovl ps qs else false
 |[],[]=>true
 |_,_=>false
theorem c2D{ps qs:List (Int×By)}{k:Nat}(h1:k<ps.length)(h2:k<qs.length):ovl (ps.drop k) (qs.drop k)=if ps[k].1=2\/qs[k].1=2 then true else if mt ps[k] qs[k]=true then ovl (ps.drop (k+1)) (qs.drop (k+1))else false:=by
 rw[<-Ax h1,<-Ax h2,ovl]
theorem b9F{ps qs:List (Int×By)}{k:Nat}(h:k=min ps.length qs.length):ovl (ps.drop k) (qs.drop k)=decide (ps.length=qs.length):=by
 rcases Nat.lt_trichotomy ps.length qs.length with h1|h1|h1
 ·have e:ps.drop k=[]:=Az (by omega);rw[e]
  cases hq:qs.drop k with
  |nil=>have:=congrArg List.length hq;simp at this;omega
  |cons a r=>rw[show ovl [] (a::r)=false from rfl,Ao (by omega)]
 ·have e1:ps.drop k=[]:=Az (by omega);have e2:qs.drop k=[]:=Az (by omega);rw[e1,e2,ovl,Ak h1]
 ·have e:qs.drop k=[]:=Az (by omega);rw[e]
  cases hq:ps.drop k with
  |nil=>have:=congrArg List.length hq;simp at this;omega
  |cons a r=>rw[show ovl (a::r) []=false from rfl,Ao (by omega)]
theorem No(ps qs:List (Int×By))(a b:Oa)(ca cb:Nat)(w:World)(hp:Ii ps a w)(hq:Ii qs b w)(hl:ps.length<=1000000):
  Calls prog 153 #[.slice a ps.length ca,.slice b qs.length cb] w λe w'=>e=.returned (.bool (ovl ps qs))/\Bw w w':=by
 have HP:=hid hp;have HQ:=hid hq;clear hp hq;go_enter func153,ntmps153;go_wp2_with fail
 go_loopw [5,11] (λ_ i wr=>∃k:Nat,k<=min ps.length qs.length/\i=.int .i64 k/\Hid (ovl (ps.drop k) (qs.drop k)=ovl ps qs)/\Bw w wr) (λ_ i _=>min ps.length qs.length-(intOf i).toNat)
 case atStart=>exact⟨0,Ah _,rfl,rfl,Ad _ _⟩
 case round=>
  obtain⟨k,hk,rfl,H,hbw⟩:=hrel;by_cases hlt:k<ps.length/\k<qs.length
  ·obtain⟨h1,h2⟩:=hlt;have hmn:(k:Int)<min (ps.length:Int) (qs.length:Int):=by omega
   obtain⟨ga,rfl,hg1,hc1,hc2⟩:=(HP.out.below hbw) k h1;obtain⟨gb,rfl,hg2,hc3,hc4⟩:=(HQ.out.below hbw) k h2;have HS:=hid (c2D h1 h2);rw[H.out]at HS;obtain⟨f,hf⟩:∃f,f=ps[k]:=⟨_,rfl⟩;obtain⟨f2,hf2⟩:∃f,f=qs[k]:=⟨_,rfl⟩;rw[<-hf]at hc1 hc2 HS;rw[<-hf2]at hc3 hc4 HS;clear hf hf2;obtain⟨pk,pt⟩:=f;obtain⟨qk,qt⟩:=f2;simp only at hc1 hc2 hc3 hc4 HS;by_cases e1:pk=2
   ·have e1':(pk==2)=true:=by rw[e1];rfl
    rw[if_pos (Or.inl e1)]at HS;clear e1;go_wp2;go_ret;exact⟨Bd HS.out.symm,hbw⟩
   ·have e1':(pk==2)=false:=by rw[Ar];exact e1
    by_cases e2:qk=2
    ·have e2':(qk==2)=true:=by rw[e2];rfl
     rw[if_pos (Or.inr e2)]at HS;clear e1 e2;go_wp2;go_ret;exact⟨Bd HS.out.symm,hbw⟩
    ·have e2':(qk==2)=false:=by rw[Ar];exact e2
     rw[if_neg (by rintro(h|h)<;>contradiction)]at HS;clear e1 e2;go_wp2_with fail
     go_region_with (go_at_call 223;refine(b0W pk qk pt qt _).mono ?_;rintro e w1 ⟨rfl,hb1⟩)
     all_goals
      have hB1:=Bc hbw.drew hb1;generalize mt (pk,pt) (qk,qt)=m at *
      cases m
      ·rw[if_neg (by simp)]at HS;go_wp2;go_ret;exact⟨Bd HS.out.symm,hB1⟩
      ·rw[if_pos rfl]at HS;go_wp2;exact⟨⟨k+1,by omega,by go_num,HS.out.symm,hB1⟩,by simp[intOf];omega⟩
  ·have hmn:¬(k:Int)<min (ps.length:Int) (qs.length:Int):=by omega
   have hke:k=min ps.length qs.length:=by omega
   have HE:=hid (b9F hke);rw[H.out]at HE;go_wp2
   all_goals
    go_ret;refine⟨Bd ?_,hbw⟩;rw[HE.out]
    first
     |(rw[decide_eq_decide];omega)
     |(rw[B9z,beq_iff_eq,decide_eq_true_iff];omega)
end Go.Proofs.YtbiggccolpchcaaGreatDoor
