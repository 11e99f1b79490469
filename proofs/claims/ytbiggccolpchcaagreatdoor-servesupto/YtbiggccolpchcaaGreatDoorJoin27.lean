/- Joined. -/
import Derived.Test.YtbiggccolpchcaaGreatDoorJoin15
set_option maxRecDepth 100000
set_option maxHeartbeats 2000000
namespace Go.Proofs.YtbiggccolpchcaaGreatDoor
open Go.RowKit _root_.Go.Proofs.Tryz
theorem Nz{s:By}{k j:Nat}(h:k+j<s.size):∃h2:j<(s.data.toList.drop k).length,(s.data.toList.drop k)[j]=s[k+j]:=by
 refine⟨by simp;omega,?_⟩;rw[List.getElem_drop];rfl
theorem Tz{c:UInt8}(h:((c.toNat:Int)==10)=true):c=10:=by
 apply UInt8.toNat_inj.1;simp at h;show c.toNat=10;omega
theorem b6K{c:UInt8}(h:((c.toNat:Int)==10)=false):c≠10:=by
 rintro rfl;simp at h
theorem a2C{c:UInt8}(h:((c.toNat:Int) != 13)=false):c=13:=by
 apply UInt8.toNat_inj.1;simp at h;show c.toNat=13;omega
theorem a2D{c:UInt8}(h:((c.toNat:Int) != 13)=true):c≠13:=by
 rintro rfl;simp at h
theorem Li{a:By}{l:L8}{n m e f:Int}(h:a.data.toList=l)(h2:n=m)(h3:e=f):
  Ending.returned (.tuple #[.string a,.int .i64 n,.int .i64 e])=.returned (.tuple #[.string ⟨l.toArray⟩,.int .i64 m,.int .i64 f]):=by
 rw[Rz h,h2,h3]
theorem Me(s:By)(k e:Nat)(over:Int)(w:World)(hs:s.size<=maxLen)(hk:k<=s.size)(he:k<=e)(he2:e<=4611686018427387904):
  Calls prog 185 #[.string s,.int .i64 k,.int .i64 e,.int .i64 over] w λr w'=>
   r=.returned (.tuple #[.string ⟨(Pm.a2g (s.data.toList.drop k) (e-k) over).2.1.toArray⟩,.int .i64 (k+(Pm.a2g (s.data.toList.drop k) (e-k) over).2.2:Nat),.int .i64 (Pm.a2g (s.data.toList.drop k) (e-k) over).1])/\Bw w w':=by
 unfold maxLen at hs;have HL:Hid ((s.data.toList.drop k).length=s.size-k):=by show(s.data.toList.drop k).length=s.size-k;simp
 go_enter func185,ntmps185;go_wp2_with fail
 go_loop [11] (λi=>∃j:Nat,k+j<=s.size/\k+j<=e/\i=.int .i64 ((k+j:Nat):Int)/\Hid (Pm.a2y (s.data.toList.drop k) j)) (λi=>e-(intOf i).toNat)
 case atStart=>exact⟨0,by omega,by omega,rfl,Pm.a3a _⟩
 case round=>
  obtain⟨j,hj1,hj2,rfl,H⟩:=hrel;by_cases h1:k+j<e
  ·by_cases h2:k+j<s.size
   ·obtain⟨g1,g2⟩:=Nz h2;have G:=hid g2;clear g2
    cases h3:((s[k+j].toNat:Int)==10)
    ·have HN:=hid (Pm.a2z g1 H.out (by rw[G.out];exact b6K h3));go_wp2
     go_round
     case rel=>exact⟨j+1,by omega,by omega,by go_num,HN⟩
     case measure=>simp[intOf];omega
    ·cases j with
     |zero=>
      have HR:=hid (Pm.a2m (long:=over) g1 (by rw[G.out];exact Tz h3) (show 0<e-k by omega));have h2':k<s.size:=h2;have h3':(((s[k]'h2').toNat:Int)==10)=true:=h3;have h1':k<e:=h1;clear G h3 g1 h1 h2 hj1 hj2;go_wp2
      go_ret3
      exact⟨Li (by simp[HR.out]) (by simp[HR.out]) (by simp[HR.out]),Ad _ _⟩
     |succ j=>
      obtain⟨g3,g4⟩:=Nz (s:=s) (k:=k) (j:=j) (by omega);have G2:=hid g4;clear g4;have hx:((k+(j+1):Nat):Int)-1=((k+j:Nat):Int):=by omega
      cases h4:((s[k+j].toNat:Int) != 13)
      ·have HR:=hid (Pm.a2n (long:=over) H.out g1 (by rw[G.out];exact Tz h3) (show j+1<e-k by omega) (by rw[G2.out];exact a2C h4));go_wp2
       go_ret3
       refine⟨Li ?_ ?_ ?_,Ad _ _⟩
       ·rw[HR.out,Lib.extract_data,show k+(j+1)-1-k=j from by omega]
       ·rw[HR.out];simp only;omega
       ·rw[HR.out]
      ·have HR:=hid (Pm.a2l (long:=over) H.out g1 (by rw[G.out];exact Tz h3) (show j+1<e-k by omega) (by rw[G2.out];exact a2D h4));go_wp2
       go_ret3
       exact⟨Li (by simp[HR.out]) (by simp[HR.out]) (by simp[HR.out]),Ad _ _⟩
   ·have HR:=hid (Pm.a2o (lim:=e-k) (long:=over) (by rw[HL.out,<-show j=s.size-k by omega];exact H.out) (by rw[HL.out];omega));go_wp2
    go_ret3
    exact⟨Li (by simp[HR.out]) (by simp[HR.out]) (by simp[HR.out]),Ad _ _⟩
  ·have HR:=hid (Pm.a2p (lim:=e-k) (long:=over) (by rw[<-show j=e-k by omega];exact H.out) (by rw[HL.out];omega));go_wp2
   go_ret3
   exact⟨Li (by simp[HR.out]) (by simp[HR.out]) (by simp[HR.out]),Ad _ _⟩
theorem Ob(s:By)(w:World)(hs:s.size<=maxLen):
  Calls prog 187 #[.string s] w λr w'=>
   (∃n v:By,r=.returned (.tuple #[.agg #[.string n,.string v],.bool (Pm.a1d s.data.toList).isSome])/\(∀f,Pm.a1d s.data.toList=some f->n.data.toList=f.1/\v.data.toList=f.2))/\Bw w w':=by
 have hA:=bA w (.cells #[.string ⟨#[]⟩,.string ⟨#[]⟩] 131);go_enter func187,ntmps187;go_wp2_with fail;refine(Fv s 58 _ hs).mono ?_;rintro e w1 ⟨⟨a,b,rfl,ha,hb⟩,hb1⟩;have hB1:=Bc hA hb1;have c0:=Aa hb1 (a:=⟨w.heap.size,0,none⟩) (v:=.string ⟨#[]⟩) (by simp);have c1:=Aa hb1 (a:=⟨w.heap.size,1,none⟩) (v:=.string ⟨#[]⟩) (by simp);have d0:w1.frozen? ⟨w.heap.size,0,none⟩=false:=by rw[hb1.frozen (by simp)];simp
 have d1:w1.frozen? ⟨w.heap.size,1,none⟩=false:=by rw[hb1.frozen (by simp)];simp
 have sz1:w.heap.size<w1.heap.size:=by have:=hb1.size;simp at this;omega
 have hsab:a.size+b.size=s.size:=by
  rw[Dn ha,Dn hb,<-A0z,Pm.a0c];simp
 have HF:Hid (Pm.a1d s.data.toList=if(!b.data.toList.isEmpty&&Pm.a1w a.data.toList (Lib.trimS (b.data.toList.drop 1) Pm.a0s))=true then some (a.data.toList,Lib.trimS (b.data.toList.drop 1) Pm.a0s)else none):=by
  unfold Hid Pm.a1d;rw[ha,hb]
 clear hA ha hb hb1;generalize hFR:Pm.a1d s.data.toList=FR at HF;have HFR:=hid hFR;clear hFR;by_cases h0:b.data.toList=[]
 ·have he:b.toList.isEmpty=true:=by rw[A1z,h0];rfl
  have HN:Hid (FR=none):=by have:=HF.out;rw[h0]at this;exact this
  clear h0 HF;go_wp2;refine Ae (v:=.tuple #[.agg #[.string ⟨#[]⟩,.string ⟨#[]⟩],.bool false]) (by simp[results,results187,go_sem,c0,c1]) rfl ?_;rw[HFR.out,HN.out];exact⟨⟨_,_,rfl,λf hf=>by simp at hf⟩,(hB1.setCell (Ac _) _).setCell (Ac _) _⟩
 ·have he:b.toList.isEmpty=false:=by rw[A1z];cases hb:b.data.toList with|nil=>exact absurd hb h0|cons=>rfl
  have hbs:1<=b.size:=by rw[Dn (rfl:b.data.toList=_)];cases hb:b.data.toList with|nil=>exact absurd hb h0|cons=>simp
  have HF2:Hid (FR=if Pm.a1w a.data.toList (Lib.trimS (b.data.toList.drop 1) Pm.a0s)=true then some (a.data.toList,Lib.trimS (b.data.toList.drop 1) Pm.a0s)else none):=by
   have:=HF.out;rw[show b.data.toList.isEmpty=false from by rw[<-A1z];exact he,Bool.not_false,D4z]at this;exact this
  have hxs:(b.extract 1 b.size).data.toList=b.data.toList.drop 1:=by
   rw[Lib.extract_data,Aq (by simp)]
  have hxz:(b.extract 1 b.size).size<=maxLen:=by simp;omega
  unfold maxLen at hs;clear h0 HF;go_wp2_with fail;refine(Vq _ _ hxz).mono ?_;rintro e w2 ⟨⟨o,rfl,ho⟩,hb2⟩;rw[hxs]at ho;rw[<-ho]at HF2;have hos:o.size<=maxLen:=by
   have h1:=Xe (b.data.toList.drop 1);rw[<-ho]at h1;simp at h1;unfold maxLen;omega
  have has:a.size<=maxLen:=by unfold maxLen;omega
  clear ho hxs;have c0':=Aa hb2 c0;have c1':=Aa hb2 c1;have d0':w2.frozen? ⟨w.heap.size,0,none⟩=false:=by rw[hb2.frozen sz1];exact d0
  have d1':w2.frozen? ⟨w.heap.size,1,none⟩=false:=by rw[hb2.frozen sz1];exact d1
  have sz2:w.heap.size<w2.heap.size:=Af sz1 hb2.size;have hB2:=Bc hB1 hb2;clear c0 c1 d0 d1 hB1 hb2 sz1;go_wp2_with (go_at_call 70;refine(Gg _ _ has).mono ?_;rintro e w3 ⟨rfl,rfl⟩);refine(Xc _ _ hos).mono ?_;rintro e w4 ⟨rfl,hb4⟩;have c0:=Aa hb4 c0';have c1:=Aa hb4 c1';have d0:w4.frozen? ⟨w.heap.size,0,none⟩=false:=by rw[hb4.frozen sz2];exact d0'
  have d1:w4.frozen? ⟨w.heap.size,1,none⟩=false:=by rw[hb4.frozen sz2];exact d1'
  have sz4:w.heap.size<w4.heap.size:=Af sz2 hb4.size;have BL:=hid (Bc hB2 hb4);unfold Pm.a1w at HF2;clear c0' c1' d0' d1' sz2 hb4 hB2
  cases ht:Pm.a2c a.data.toList
  ·have HN:Hid (FR=none):=by unfold Hid;have:=HF2.out;rw[ht,C9z]at this;simpa using this
   clear HF2;go_wp2;refine Ae (v:=.tuple #[.agg #[.string a,.string o],.bool false]) (by simp[results,results187,go_sem,c0,c1]) rfl ?_;rw[HFR.out,HN.out];exact⟨⟨_,_,rfl,λf hf=>by simp at hf⟩,(BL.out.setCell (Ac _) _).setCell (Ac _) _⟩
  ·have HN:=HF2.out;rw[ht,D4z]at HN;have HN2:=hid HN;clear HF2 HN;generalize Pm.a2d o.data.toList=vb at *
   go_wp2;refine Ae (v:=.tuple #[.agg #[.string a,.string o],.bool vb]) (by simp[results,results187,go_sem,c0,c1]) rfl ?_;rw[HFR.out,HN2.out];refine⟨⟨a,o,?_,?_⟩,(BL.out.setCell (Ac _) _).setCell (Ac _) _⟩
   ·cases vb<;>rfl
   ·cases vb
    ·intro f hf;simp at hf
    ·intro f hf;simp at hf;subst hf;exact⟨rfl,rfl⟩
theorem a2E{l:L8}(h:Pm.behind 32 l=[]):Pm.a1f l=(3,[],[]):=by
 rw[Pm.a1g];unfold Pm.a1e;simp only;rw[if_pos h]
theorem a2F{l r:L8}(h:Pm.behind 32 l=32::r):Pm.a1f l=if(Pm.a1x (Pm.ahead 32 l)&&(Pm.a2a (Pm.ahead 32 r)&&Pm.a2e ((Pm.behind 32 r).drop 1))&&!(Pm.behind 32 r).isEmpty)=true then(if(Pm.behind 32 r).drop 1=Pm.a1q then(0,Pm.ahead 32 l,Pm.ahead 32 r)else(7,[],[]))else(3,[],[]):=by
 rw[Pm.a1g];unfold Pm.a1e;simp only;rw[if_neg (by rw[h];simp),h];rfl
theorem c2O{v:L8}(hc:v=[]\/∃r,v=32::r)(hn:¬ ∃a b c,v=[32,72,84,84,80,47,a,b,c]):(Pm.a2e (v.drop 1)&&!v.isEmpty)=false:=by
 rcases hc with rfl|⟨r,rfl⟩
 ·simp
 ·cases h:Pm.a2e r
  ·simp[h]
  ·obtain⟨a,b,c,rfl⟩:=Pm.a5g h;exact absurd ⟨a,b,c,rfl⟩ hn
theorem c5K(a b c d:Bool):(a&&(b&&c)&&d)=(a&&(b&&(c&&d))):=by cases a<;>cases b<;>cases c<;>cases d<;>rfl
theorem a6Q(s:By)(w:World)(hs:s.size<=maxLen):
  Calls prog 186 #[.string s] w λr w'=>
   r=.returned (.tuple #[.agg #[.string ⟨(Pm.a1f s.data.toList).2.1.toArray⟩,.string ⟨(Pm.a1f s.data.toList).2.2.toArray⟩,.slice none 0 0,.string ⟨#[]⟩],.int .i64 (Pm.a1f s.data.toList).1])/\Bw w w':=by
 have hA:=bA w (.cells #[.string ⟨#[]⟩,.string ⟨#[]⟩,.slice none 0 0,.string ⟨#[]⟩] 47);have q0:RqB w.heap.size [] [] (.slice none 0 0) (w.alloc (.cells #[.string ⟨#[]⟩,.string ⟨#[]⟩,.slice none 0 0,.string ⟨#[]⟩] 47)):=Ag w _;go_enter func186,ntmps186;go_wp2_with fail;refine(Fv s 32 _ hs).mono ?_;rintro e w1 ⟨⟨a,b,rfl,ha,hb⟩,hb1⟩;have hB1:=Bc hA hb1;have q1:=q0.below hb1;have hsab:a.size+b.size=s.size:=by
  rw[Dn ha,Dn hb,<-A0z,Pm.a0c];simp
 have has:a.size<=maxLen:=by omega
 clear hA q0 hb1;rcases Pm.a0r 32 s.data.toList with h|⟨r,h⟩
 ·have HF:=hid (a2E h);rw[h]at hb;have he:b.toList.isEmpty=true:=by rw[A1z,hb];rfl
  obtain⟨c0,c1,c2,c3⟩:=q1.cells;have d0:=q1.free 0;have d1:=q1.free 1;have d2:=q1.free 2;have d3:=q1.free 3;have sz1:=q1.lt;have BL:=hid hB1;clear h ha hb q1 hB1;go_wp2;refine Ae (v:=.tuple #[.agg #[.string ⟨#[]⟩,.string ⟨#[]⟩,.slice none 0 0,.string ⟨#[]⟩],.int .i64 3]) (by simp[results,results186,go_sem,c0,c1,c2,c3]) rfl ?_;rw[HF.out];exact⟨rfl,(((BL.out.setCell (Ac _) _).setCell (Ac _) _).setCell (Ac _) _).setCell (Ac _) _⟩
 ·have HF:=hid (a2F h);rw[<-ha]at HF;have he:b.toList.isEmpty=false:=by rw[A1z,hb,h];rfl
  have hbs:1<=b.size:=by rw[Dn hb,h];simp
  have hx:(b.extract 1 b.size).data.toList=r:=by
   rw[Lib.extract_data,Aq (by simp),hb,h];rfl
  have hxz:(b.extract 1 b.size).size<=maxLen:=by simp;omega
  unfold maxLen at hs;clear h ha hb;go_wp2_with fail;refine(Fv _ 32 _ hxz).mono ?_;rintro e w2 ⟨⟨t,v,rfl,ht,hv⟩,hb2⟩;have htv:t.size+v.size=(b.extract 1 b.size).size:=by
   rw[Dn ht,Dn hv,<-A0z,Pm.a0c];simp
  have hts:t.size<=maxLen:=by omega
  rw[hx]at ht hv;have hvc:=Pm.a0r 32 r;rw[<-ht,<-hv]at HF;rw[<-hv]at hvc;have hB2:=Bc hB1 hb2;have q2:=q1.below hb2;clear hx ht hv hB1 q1 hb2;go_wp2_with (go_at_call 103;refine(Mp _ _ has).mono ?_;rintro e w3 ⟨rfl,rfl⟩);refine(Us _ _ hts).mono ?_;rintro e w4 ⟨rfl,hb4⟩;have q4:=q2.below hb4;obtain⟨c0,c1,c2,c3⟩:=q4.cells;have d0:=q4.free 0;have d1:=q4.free 1;have d2:=q4.free 2;have d3:=q4.free 3;have sz4:=q4.lt;have BL:=hid (Bc hB2 hb4);rw[c5K]at HF;generalize hFS:Pm.a1f s.data.toList=FSs at HF;have HFS:=hid hFS;clear hFS q2 q4 hB2 hb4
  cases hm:Pm.a1x a.data.toList
  ·have FB:Hid (FSs=(3,[],[])):=by unfold Hid;rw[HF.out,hm];rfl
   clear HF;go_wp2;refine Ae (v:=.tuple #[.agg #[.string ⟨#[]⟩,.string ⟨#[]⟩,.slice none 0 0,.string ⟨#[]⟩],.int .i64 3]) (by simp[results,results186,go_sem,c0,c1,c2,c3]) rfl ?_;rw[HFS.out,FB.out];exact⟨rfl,(((BL.out.setCell (Ac _) _).setCell (Ac _) _).setCell (Ac _) _).setCell (Ac _) _⟩
  ·cases htg:Pm.a2a t.data.toList
   ·have FB:Hid (FSs=(3,[],[])):=by unfold Hid;rw[HF.out,hm,htg];rfl
    clear HF;go_wp2;refine Ae (v:=.tuple #[.agg #[.string ⟨#[]⟩,.string ⟨#[]⟩,.slice none 0 0,.string ⟨#[]⟩],.int .i64 3]) (by simp[results,results186,go_sem,c0,c1,c2,c3]) rfl ?_;rw[HFS.out,FB.out];exact⟨rfl,(((BL.out.setCell (Ac _) _).setCell (Ac _) _).setCell (Ac _) _).setCell (Ac _) _⟩
   ·have HF2:Hid (FSs=if(Pm.a2e (v.data.toList.drop 1)&&!v.data.toList.isEmpty)=true then(if v.data.toList.drop 1=Pm.a1q then(0,a.data.toList,t.data.toList)else(7,[],[]))else(3,[],[])):=by
     unfold Hid;rw[HF.out,hm,htg];rfl
    clear HF;have hvl:v.data.toList.length=v.size:=by simp
    by_cases hn:∃x y z,v.data.toList=[32,72,84,84,80,47,x,y,z]
    ·obtain⟨x,y,z,hv⟩:=hn;have h9:v.size=9:=by rw[<-hvl,hv];rfl
     have h6:((v.extract 0 6).toList==[32,72,84,84,80,47])=true:=by rw[A1z,Lib.extract_data,hv];rfl
     have h7e:v[7]'(by omega)=y:=by
      have:v.data.toList[7]?=some y:=by rw[hv];rfl
      rw[Av (by simp;omega)]at this;exact Option.some.inj this
     have h67:(v.extract 6 7++v.extract 8 9).data.toList=[x,z]:=by
      rw[C8z,D7z,Lib.extract_data,Lib.extract_data,hv];rfl
     have hvr:Pm.a2e (v.data.toList.drop 1)=(Pm.a0u x&&(y==46&&Pm.a0u z)):=by rw[hv];exact Pm.a5f x y z
     have hve:v.data.toList.isEmpty=false:=by rw[hv];rfl
     rw[hvr,hve,Bool.not_false,Bool.and_true]at HF2;have H11:Hid ((v.toList==[32,72,84,84,80,47,49,46,49])=decide (v.data.toList.drop 1=Pm.a1q)):=by
      unfold Hid;rw[A1z,hv];unfold Pm.a1q;rw[B9z];simp
     cases h7:((v[7]'(by omega)).toNat:Int) != 46
     ·have hy:(y==46)=true:=by rw[Pm.b46,<-h7e,h7];rfl
      rw[hy,D4z]at HF2;have hz67:(v.extract 6 7++v.extract 8 9).size<=maxLen:=by
       have:(v.extract 6 7++v.extract 8 9).data.toList.length=2:=by rw[h67];rfl
       simp at this;unfold maxLen;simp;omega
      have HD:Hid (Pm.a0h (Pm.inB (⟨#[48,49,50,51,52,53,54,55,56,57]⟩:By).data.toList) (v.extract 6 7++v.extract 8 9).data.toList=(Pm.a0u x&&Pm.a0u z)):=by
       unfold Hid;rw[h67];simp[Pm.a0h,Pm.a3n]
      have hal:(⟨#[48,49,50,51,52,53,54,55,56,57]⟩:By).size<=maxLen:=by show 10<=maxLen;unfold maxLen;omega
      have HMD:=hid (λW=>Ov (v.extract 6 7++v.extract 8 9) ⟨#[48,49,50,51,52,53,54,55,56,57]⟩ W hz67 hal);rw[HD.out]at HMD;clear h67 hv hvr hve h7e hy hvc HD;go_wp2_with fail
      go_region_with (go_at_call 128;refine(HMD.out _).mono ?_;rintro e w5 ⟨rfl,hw5⟩)
      subst hw5
      cases hdd:(Pm.a0u x&&Pm.a0u z)
      ·have FB:Hid (FSs=(3,[],[])):=by unfold Hid;rw[HF2.out,hdd];rfl
       clear HF2 H11 hdd HMD;go_wp2;refine Ae (v:=.tuple #[.agg #[.string ⟨#[]⟩,.string ⟨#[]⟩,.slice none 0 0,.string ⟨#[]⟩],.int .i64 3]) (by simp[results,results186,go_sem,c0,c1,c2,c3]) rfl ?_;rw[HFS.out,FB.out];exact⟨rfl,(((BL.out.drew.setCell (Ac _) _).setCell (Ac _) _).setCell (Ac _) _).setCell (Ac _) _⟩
      ·rw[hdd,if_pos rfl]at HF2;have h11e:=H11.out;clear H11 hdd HMD;by_cases h11:v.data.toList.drop 1=Pm.a1q
       ·rw[Ak h11]at h11e;have FB:Hid (FSs=(0,a.data.toList,t.data.toList)):=by unfold Hid;rw[HF2.out,if_pos h11]
        clear HF2 h11;go_wp2;refine Ae (v:=.tuple #[.agg #[.string a,.string t,.slice none 0 0,.string ⟨#[]⟩],.int .i64 0]) (by simp[results,results186,go_sem,c0,c1,c2,c3]) rfl ?_;rw[HFS.out,FB.out];exact⟨rfl,(((BL.out.drew.setCell (Ac _) _).setCell (Ac _) _).setCell (Ac _) _).setCell (Ac _) _⟩
       ·rw[Ao h11]at h11e;have FB:Hid (FSs=(7,[],[])):=by unfold Hid;rw[HF2.out,if_neg h11]
        clear HF2 h11;go_wp2;refine Ae (v:=.tuple #[.agg #[.string ⟨#[]⟩,.string ⟨#[]⟩,.slice none 0 0,.string ⟨#[]⟩],.int .i64 7]) (by simp[results,results186,go_sem,c0,c1,c2,c3]) rfl ?_;rw[HFS.out,FB.out];exact⟨rfl,(((BL.out.drew.setCell (Ac _) _).setCell (Ac _) _).setCell (Ac _) _).setCell (Ac _) _⟩
     ·have hy:(y==46)=false:=by rw[Pm.b46,<-h7e,h7];rfl
      have FB:Hid (FSs=(3,[],[])):=by unfold Hid;rw[HF2.out,hy,C9z,C7z];rfl
      clear HF2 h67 hv hvr hve h7e hy H11;go_wp2;refine Ae (v:=.tuple #[.agg #[.string ⟨#[]⟩,.string ⟨#[]⟩,.slice none 0 0,.string ⟨#[]⟩],.int .i64 3]) (by simp[results,results186,go_sem,c0,c1,c2,c3]) rfl ?_;rw[HFS.out,FB.out];exact⟨rfl,(((BL.out.setCell (Ac _) _).setCell (Ac _) _).setCell (Ac _) _).setCell (Ac _) _⟩
    ·have FB:Hid (FSs=(3,[],[])):=by unfold Hid;rw[HF2.out,c2O hvc hn];rfl
     by_cases h9:v.size=9
     focus
      have h6:((v.extract 0 6).toList==[32,72,84,84,80,47])=false:=by
       rw[Ar,A1z,Lib.extract_data];intro hc;exact hn (Pm.a2x (by rw[hvl];exact h9) (by simpa using hc))
     rotate_left
     focus
      have h9':((v.size:Int) != 9)=true:=by rw[bne_iff_ne];omega
     all_goals
      clear HF2 hn hvc hvl;go_wp2;refine Ae (v:=.tuple #[.agg #[.string ⟨#[]⟩,.string ⟨#[]⟩,.slice none 0 0,.string ⟨#[]⟩],.int .i64 3]) (by simp[results,results186,go_sem,c0,c1,c2,c3]) rfl ?_;rw[HFS.out,FB.out];exact⟨rfl,(((BL.out.setCell (Ac _) _).setCell (Ac _) _).setCell (Ac _) _).setCell (Ac _) _⟩
def Jj(k:Nat)(T:Int×Nat):Int:=if T.1=0 then((k+T.2:Nat):Int)else 0
theorem Yh(s:By)(k hd:Nat)(w:World)(hs:s.size<=1152921504606846976)(hk:k<=s.size)(hh:hd<=500):
  Calls prog 190 #[.string s,.int .i64 k,.int .i64 hd] w λr w'=>
   r=.returned (.tuple #[.int .i64 (Jj k (Pm.a4t (hd+1) (s.data.toList.drop k) hd 0)),.int .i64 (Pm.a4t (hd+1) (s.data.toList.drop k) hd 0).1])/\Bw w w':=by
 have hsm:s.size<=maxLen:=by unfold maxLen;omega
 generalize hT:Pm.a4t (hd+1) (s.data.toList.drop k) hd 0=T;have HT:=hid hT;clear hT;have hw:IntKind.i64.wrap ((k:Int)+(hd:Int))=((k+hd:Nat):Int):=by simp[IntKind.wrap,IntKind.bits,IntKind.signed];omega
 go_enter func190,ntmps190;go_wp2_with fail
 go_loopw [1,9,10,11,12,13] (λat_ _ _ _ _ _ wr=>∃u g:Nat,u<=hd/\hd-u+1<=g/\k+u<=s.size/\at_=.int .i64 ((k+u:Nat):Int)/\Hid (Pm.a4t g (s.data.toList.drop (k+u)) (hd-u) u=T)/\Bw w wr) (λat_ _ _ _ _ _ _=>k+hd-(intOf at_).toNat)
 case atStart=>exact⟨0,hd+1,by omega,by omega,by omega,rfl,HT,Ad _ _⟩
 case round=>
  obtain⟨u,g,hu,hg,hku,rfl,H,hbw⟩:=hrel;obtain⟨g,rfl⟩:∃g',g=g'+1:=⟨g-1,by omega⟩;rw[Pm.a4u]at H;have HL:=hid (Me s (k+u) (k+hd) 5 wr hsm hku (by omega) (by omega));rw[show k+hd-(k+u)=hd-u from by omega]at HL;have hok:=hid (Pm.a2k (l:=s.data.toList.drop (k+u)) (lim:=hd-u) (long:=5) (by omega));generalize hLL:Pm.a2g (s.data.toList.drop (k+u)) (hd-u) 5=L at *
  clear hLL;go_wp2_with fail;refine HL.out.mono ?_;rintro e w1 ⟨rfl,hb1⟩;have hB1:=Bc hbw hb1;clear HL hb1;generalize hlb:(⟨L.2.1.toArray⟩:By)=lb;have hld:lb.data.toList=L.2.1:=by rw[<-hlb]
  clear hlb;rw[<-hld]at H hok;by_cases h1:L.1=0
  ·rw[if_neg (by simp[h1])]at H;obtain⟨o1,o2,o3,o4⟩:=hok.out h1;have o5:L.2.2<=s.size-(k+u):=by simpa using o3
   rw[h1];by_cases h2:lb.data.toList=[]
   ·rw[if_pos h2]at H;have he:lb.toList.isEmpty=true:=by rw[A1z,h2];rfl
    clear h2;go_wp2
    go_ret2
    refine⟨Dt ?_ ?_,hB1⟩
    ·rw[<-H.out];unfold Jj;rw[if_pos rfl];simp only;omega
    ·rw[<-H.out]
   ·rw[if_neg h2]at H;have he:lb.toList.isEmpty=false:=by
     rw[A1z];cases hl:lb.data.toList with|nil=>exact absurd hl h2|cons=>rfl
    have hls:lb.size<=maxLen:=by
     have:lb.data.toList.length=lb.size:=by simp
     unfold maxLen;omega
    clear h2;go_wp2_with fail;refine(Ob _ _ hls).mono ?_;rintro e w2 ⟨⟨n,v,rfl,hnv⟩,hb2⟩;have hB2:=Bc hB1 hb2;clear hnv hb2
    cases hf:(Pm.a1d lb.data.toList).isSome
    ·rw[hf,if_neg (by simp)]at H;go_wp2
     go_ret2
     exact⟨Dt (by rw[<-H.out];rfl) (by rw[<-H.out]),hB2.alloc hB2.size _⟩
    ·rw[hf,if_pos rfl]at H;go_wp2;refine⟨⟨u+L.2.2,g,by omega,by omega,by omega,by go_num,?_,hB2.alloc hB2.size _⟩,by simp[intOf];omega⟩;rw[E2z]at H;rw[show k+(u+L.2.2)=k+u+L.2.2 from by omega,show hd-(u+L.2.2)=hd-u-L.2.2 from by omega];exact H
  ·rw[if_pos h1]at H;have hne:(L.1 != 0)=true:=by rw[bne_iff_ne];exact h1
   go_wp2
   go_ret2
   exact⟨Dt (by rw[<-H.out];unfold Jj;rw[if_neg h1]) (by rw[<-H.out]),hB1⟩
def Cw:Nat->L8->Nat->Int->Int×L8×Nat
 |0,_,_,_=>(2,[],0)
 |f+1,l,hd,left=>
  let z:=(Pm.a2g l 10 3).2.2
  if Dr l≠0 then(Dr l,[],0)
  else if 0<Ci l then
   let c:=Br (l.drop z) (Ci l).toNat left
   if c.1≠0 then(c.1,[],0)
   else
    let r:=Cw f (l.drop (z+c.2.2)) hd (left-c.2.1.length)
    if r.1≠0 then(r.1,[],0)else(0,c.2.1++r.2.1,z+c.2.2+r.2.2)
  else
   let t:=Pm.a4t (hd+1) (l.drop z) hd 0
   if t.1≠0 then(t.1,[],0)else(0,[],z+t.2)
theorem b1R(hd:Nat)(bd:Int):∀(f:Nat) (l:L8) (body:L8) (u:Nat),Cx f l hd bd body u=if(Cw f l hd (bd-body.length)).1≠0 then((Cw f l hd (bd-body.length)).1,[],0)else(0,body++(Cw f l hd (bd-body.length)).2.1,u+(Cw f l hd (bd-body.length)).2.2):=by
 intro f
 induction f with
 |zero=>intro l body u;rfl
 |succ f ih=>
  intro l body u;rw[Dw,Cw];simp only;by_cases h1:Dr l≠0
  ·rw[if_pos h1,if_pos h1,if_pos h1]
  ·rw[if_neg h1,if_neg h1];by_cases h2:0<Ci l
   ·rw[if_pos h2,if_pos h2];generalize Br (l.drop (Pm.a2g l 10 3).2.2) (Ci l).toNat (bd-body.length)=c;by_cases h3:c.1≠0
    ·rw[if_pos h3,if_pos h3,if_pos h3]
    ·rw[if_neg h3,if_neg h3,ih,A0z];rw[show bd-((body.length+c.2.1.length:Nat):Int)=bd-body.length-c.2.1.length from by omega];generalize Cw f (l.drop ((Pm.a2g l 10 3).2.2+c.2.2)) hd (bd-body.length-c.2.1.length)=r;by_cases h4:r.1≠0
     ·rw[if_pos h4,if_pos h4,if_pos h4]
     ·rw[if_neg h4,if_neg h4,if_neg (by simp)];simp only[C5z,Prod.mk.injEq,true_and];omega
   ·rw[if_neg h2,if_neg h2];by_cases h3:(Pm.a4t (hd+1) (l.drop (Pm.a2g l 10 3).2.2) hd 0).1≠0
    ·rw[if_pos h3,if_pos h3,if_pos h3]
    ·rw[if_neg h3,if_neg h3,if_neg (by simp)];simp only[D9z,Prod.mk.injEq,true_and];omega
theorem b6L(f:Nat)(l:L8)(hd:Nat)(bd:Int):Cx f l hd bd [] 0=if(Cw f l hd bd).1≠0 then((Cw f l hd bd).1,[],0)else(0,(Cw f l hd bd).2.1,(Cw f l hd bd).2.2):=by
 have:=b1R hd bd f l [] 0;simpa using this
end Go.Proofs.YtbiggccolpchcaaGreatDoor
