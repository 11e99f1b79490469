/- Joined. -/
import Derived.Test.YtbiggccolpchcaaGreatDoorJoin27
set_option maxRecDepth 100000
set_option maxHeartbeats 3000000
namespace Go.Proofs.YtbiggccolpchcaaGreatDoor
open Go.RowKit _root_.Go.Proofs.Tryz
theorem Oc(f:Nat)(l:L8)(hd:Nat)(left:Int):Cw (f+1) l hd left =
    if Dr l≠0 then(Dr l,[],0)
    else if 0<Ci l then
      (if(Br (l.drop (Pm.a2g l 10 3).2.2) (Ci l).toNat left).1≠0 then((Br (l.drop (Pm.a2g l 10 3).2.2) (Ci l).toNat left).1,[],0)
       else if(Cw f (l.drop ((Pm.a2g l 10 3).2.2+(Br (l.drop (Pm.a2g l 10 3).2.2) (Ci l).toNat left).2.2)) hd (left-(Br (l.drop (Pm.a2g l 10 3).2.2) (Ci l).toNat left).2.1.length)).1≠0 then((Cw f (l.drop ((Pm.a2g l 10 3).2.2+(Br (l.drop (Pm.a2g l 10 3).2.2) (Ci l).toNat left).2.2)) hd (left-(Br (l.drop (Pm.a2g l 10 3).2.2) (Ci l).toNat left).2.1.length)).1,[],0)
       else(0,(Br (l.drop (Pm.a2g l 10 3).2.2) (Ci l).toNat left).2.1++(Cw f (l.drop ((Pm.a2g l 10 3).2.2+(Br (l.drop (Pm.a2g l 10 3).2.2) (Ci l).toNat left).2.2)) hd (left-(Br (l.drop (Pm.a2g l 10 3).2.2) (Ci l).toNat left).2.1.length)).2.1,(Pm.a2g l 10 3).2.2+(Br (l.drop (Pm.a2g l 10 3).2.2) (Ci l).toNat left).2.2+(Cw f (l.drop ((Pm.a2g l 10 3).2.2+(Br (l.drop (Pm.a2g l 10 3).2.2) (Ci l).toNat left).2.2)) hd (left-(Br (l.drop (Pm.a2g l 10 3).2.2) (Ci l).toNat left).2.1.length)).2.2))
    else if(Pm.a4t (hd+1) (l.drop (Pm.a2g l 10 3).2.2) hd 0).1≠0 then((Pm.a4t (hd+1) (l.drop (Pm.a2g l 10 3).2.2) hd 0).1,[],0)
    else(0,[],(Pm.a2g l 10 3).2.2+(Pm.a4t (hd+1) (l.drop (Pm.a2g l 10 3).2.2) hd 0).2):=rfl
def Od(k:Nat)(R:Int×L8×Nat):Int:=if R.1=0 then((k+R.2.2:Nat):Int)else 0
theorem c4S{l:L8}{n:Nat}(h:n+1<l.length):Lib.hasSuffix (l.take (n+2)) [13,10]=(l[n]==13&&l[n+1]==10):=by
 rw[show n+2=(n+1)+1 from rfl,A4z h,A4z (by omega:n<l.length)];unfold Lib.hasSuffix;rw[B9z,List.isSuffixOf_iff_suffix];constructor
 ·intro ⟨t,ht⟩;rw[C5z]at ht;have:=(List.append_inj' ht rfl).2;simp at this;simp[<-this.1,<-this.2]
 ·intro h2;simp at h2;rw[h2.1,h2.2];exact⟨l.take n,by simp⟩
theorem a2G{l:L8}{n:Nat}{room:Int}(h:room<n):Br l n room=(4,[],0):=by unfold Br;rw[if_pos h]
theorem a6R{l:L8}{n:Nat}{room:Int}(h:¬room<n)(h2:l.length<n+2):Br l n room=(2,[],0):=by unfold Br;rw[if_neg h,if_pos h2]
theorem b1S{l:L8}{n:Nat}{room:Int}(h:¬room<n)(h2:n+1<l.length)(h3:(l[n]==13&&l[n+1]==10)=false):Br l n room=(3,[],n+2):=by
 unfold Br;rw[if_neg h,if_neg (by omega),c4S h2,h3];rfl
theorem a6S{l:L8}{n:Nat}{room:Int}(h:¬room<n)(h2:n+1<l.length)(h3:(l[n]==13&&l[n+1]==10)=true):Br l n room=(0,l.take n,n+2):=by
 have hs:=c4S h2;rw[h3]at hs;unfold Br;rw[if_neg h,if_neg (by omega),if_pos hs];unfold Lib.trimSuffix;rw[if_pos hs,B0z,List.take_take];simp only[A9z,C0z];rw[show min (min (n+2) l.length-(0+1+1)) (n+2)=n from by omega]
theorem c0B{l:L8}(h1:(Pm.a2g l 10 3).1=0)(h2:Pm.a3i 16 8 (Pm.a2g l 10 3).2.1=true):Dr l=0/\Ci l=Pm.a3f 16 8 (Pm.a2g l 10 3).2.1:=by
 unfold Dr Ci Pm.a3e Pm.a3h Pm.a3f;rw[if_pos h1,if_pos h1,h2];exact⟨rfl,rfl⟩
theorem b6M{l:L8}(h1:(Pm.a2g l 10 3).1=0)(h2:Pm.a3i 16 8 (Pm.a2g l 10 3).2.1=false):Dr l=3:=by
 unfold Dr Pm.a3e;rw[if_pos h1,h2];rfl
theorem b6N{l:L8}(h1:(Pm.a2g l 10 3).1≠0):Dr l=(Pm.a2g l 10 3).1:=by
 unfold Dr;rw[if_neg h1]
theorem b1T(l:L8)(n:Nat)(room:Int)(h:(Br l n room).1=0):(Br l n room).2.1.length+(Br l n room).2.2<=2*(Br l n room).2.2/\(Br l n room).2.2<=l.length:=by
 unfold Br at h ⊢
 split at h<;>rename_i h1
 ·simp at h
 rw[if_neg h1]
 split at h<;>rename_i h2
 ·simp at h
 rw[if_neg h2]
 split at h<;>rename_i h3
 ·rw[if_pos h3];simp only;have h4:(Lib.trimSuffix (l.take (n+2)) [13,10]).length<=n+2:=by
   unfold Lib.trimSuffix;rw[if_pos h3,B0z,B0z];omega
  omega
 ·simp at h
theorem a2H(hd:Nat):∀(f:Nat) (l:L8) (left:Int),(Cw f l hd left).2.1.length<=l.length:=by
 intro f
 induction f with
 |zero=>intro l left;exact Ah _
 |succ f ih=>
  intro l left;rw[Oc];have ok:=b1T (l.drop (Pm.a2g l 10 3).2.2) (Ci l).toNat left;generalize Br (l.drop (Pm.a2g l 10 3).2.2) (Ci l).toNat left=c at *
  have h5:=ih (l.drop ((Pm.a2g l 10 3).2.2+c.2.2)) (left-c.2.1.length);generalize Cw f (l.drop ((Pm.a2g l 10 3).2.2+c.2.2)) hd (left-c.2.1.length)=r at *
  split
  ·exact Ah _
  ·split
   ·split
    ·exact Ah _
    ·rename_i h3
     split
     ·exact Ah _
     ·obtain⟨k1,k2⟩:=ok (by simpa using h3);simp only[A0z,A6z]at *
      omega
   ·split<;>exact Ah _
theorem Er{a:By}{l:L8}{n m e f:Int}(h:a.data.toList=l)(h2:n=m)(h3:e=f):
  Ending.returned (.tuple #[.string a,.int .i64 n,.int .i64 e])=.returned (.tuple #[.string ⟨l.toArray⟩,.int .i64 m,.int .i64 f]):=by
 rw[Rz h,h2,h3]
theorem a2I(s:By)(hd:Nat)(hs:s.size<=281474976710656)(hh:hd<=500)(f:Nat):∀(k:Nat) (left:Int) (w:World),k<=s.size->s.size-k<f->0<=left->left<=200 ->
  Calls prog 139 #[.string s,.int .i64 k,.int .i64 left,.int .i64 hd] w λr w'=>
   r=.returned (.tuple #[.string ⟨(Cw f (s.data.toList.drop k) hd left).2.1.toArray⟩,.int .i64 (Od k (Cw f (s.data.toList.drop k) hd left)),.int .i64 (Cw f (s.data.toList.drop k) hd left).1])/\Bw w w':=by
 induction f with
 |zero=>intro k left w _ h;omega
 |succ f ih=>
  intro k left w hk hf l0 l1;have IH:=hid ih;clear ih;have hsm:s.size<=maxLen:=by unfold maxLen;omega
  have hk10:(k:Int)+8+2=((k+10:Nat):Int):=by omega
  have HL:=hid (Me s k (k+10) 3 w hsm hk (by omega) (by omega));rw[show k+10-k=10 from by omega]at HL;have hok:=hid (Pm.a2k (l:=s.data.toList.drop k) (lim:=10) (long:=3) (by omega));have HR:=hid (Oc f (s.data.toList.drop k) hd left);have HE:=hid (@b6N (s.data.toList.drop k));have HB:=hid (@b6M (s.data.toList.drop k));have HO:=hid (@c0B (s.data.toList.drop k));generalize hRR:Cw (f+1) (s.data.toList.drop k) hd left=R at *
  clear hRR;generalize hLL:Pm.a2g (s.data.toList.drop k) 10 3=L at *
  clear hLL;go_enter func139,ntmps139;go_wp2_with fail;refine HL.out.mono ?_;rintro e w1 ⟨rfl,hb1⟩;generalize hlb:(⟨L.2.1.toArray⟩:By)=lb;have hld:lb.data.toList=L.2.1:=by rw[<-hlb]
  clear hlb HL hk10;rw[<-hld]at hok HB HO;by_cases h1:L.1=0
  ·obtain⟨o1,o2,o3,o4⟩:=hok.out h1;have o5:L.2.2<=s.size-k:=by simpa using o3
   have hls:lb.size<=maxLen:=by
    have:lb.data.toList.length=lb.size:=by simp
    unfold maxLen;omega
   rw[h1];have HN:=hid (λW=>Gx lb 16 8 W hls (by omega) (by omega))
   cases hn:Pm.a3i 16 8 lb.data.toList
   ·have hnm:Pm.a3f 16 8 lb.data.toList=-1:=by unfold Pm.a3f;rw[hn];rfl
    have hse:=HB.out h1 hn;have HRR:Hid (R=(3,[],0)):=by unfold Hid;rw[HR.out,hse];rfl
    rw[hnm]at HN;clear HR HB HO HE;go_wp2_with (go_at_call 130;refine(HN.out _).mono ?_;rintro e w2 ⟨rfl,hb2⟩)
    go_ret3
    exact⟨Er (by rw[HRR.out]) (by rw[HRR.out];rfl) (by rw[HRR.out]),hb1.trans (hb2.mono hb1.size)⟩
   ·obtain⟨hse,hsn⟩:=HO.out h1 hn;have hbd:=Pm.a3g (base:=16) (most:=8) (l:=lb.data.toList) (by omega) (by omega) (by omega);have hnn:0<=Pm.a3f 16 8 lb.data.toList:=by
     unfold Pm.a3f;rw[hn];simp only[Pm.a3i,A3z,decide_eq_true_eq]at hn;exact(Pm.a3p 16 _ (by omega) (by omega) hn.2 (by omega)).1
    obtain⟨n,hnn2⟩:∃n:Nat,Pm.a3f 16 8 lb.data.toList=n:=⟨(Pm.a3f 16 8 lb.data.toList).toNat,by omega⟩;rw[hse,if_neg (by simp),hsn,hnn2,Int.toNat_natCast]at HR;rw[hnn2]at HN hbd;clear HB HO HE hse hsn hnn hnn2 hn;generalize L.2.2=z at *
    clear o2 o3 o4 h1 hok hld;simp only[E2z]at HR;by_cases hn0:n=0
    ·subst hn0;rw[if_neg (by simp)]at HR;have HTR:=hid (λW=>Yh s (k+z) hd W (by omega) (by omega) hh);generalize Pm.a4t (hd+1) (s.data.toList.drop (k+z)) hd 0=T at *
     clear IH;go_wp2_with (go_at_call 130;refine(HN.out _).mono ?_;rintro e w2 ⟨rfl,hb2⟩);refine(HTR.out _).mono ?_;rintro e w3 ⟨rfl,hb3⟩;have hB3:=(hb1.trans (hb2.mono hb1.size)).trans (hb3.mono (hb1.trans (hb2.mono hb1.size)).size);clear HN HTR;generalize hte:Jj (k+z) T=te;have HTE:=hid hte;clear hte;go_wp2
     go_ret3
     by_cases ht:T.1=0
     ·rw[if_neg (by simp[ht])]at HR;exact⟨Er (by rw[HR.out]) (by rw[HR.out,<-HTE.out];unfold Od Jj;rw[if_pos ht,if_pos rfl];simp only;omega) (by rw[HR.out];exact ht),hB3⟩
     ·rw[if_pos ht]at HR;exact⟨Er (by rw[HR.out]) (by rw[HR.out,<-HTE.out];unfold Od Jj;rw[if_neg ht,if_neg ht]) (by rw[HR.out]),hB3⟩
    ·rw[if_pos (by omega)]at HR;have hn0':((n:Int)==0)=false:=by rw[Ar];omega
     have hdl:(s.data.toList.drop (k+z)).length=s.size-(k+z):=by simp
     by_cases hlg:left<n
     ·have HRR:Hid (R=(4,[],0)):=by unfold Hid;rw[HR.out,a2G hlg];rfl
      clear HR IH;go_wp2_with (go_at_call 130;refine(HN.out _).mono ?_;rintro e w2 ⟨rfl,hb2⟩)
      go_ret3
      exact⟨Er (by rw[HRR.out]) (by rw[HRR.out];rfl) (by rw[HRR.out]),hb1.trans (hb2.mono hb1.size)⟩
     ·by_cases hmo:s.size-(k+z)<n+2
      ·have HRR:Hid (R=(2,[],0)):=by unfold Hid;rw[HR.out,a6R hlg (by rw[hdl];exact hmo)];rfl
       clear HR IH;go_wp2_with (go_at_call 130;refine(HN.out _).mono ?_;rintro e w2 ⟨rfl,hb2⟩)
       go_ret3
       exact⟨Er (by rw[HRR.out]) (by rw[HRR.out];rfl) (by rw[HRR.out]),hb1.trans (hb2.mono hb1.size)⟩
      ·have hp1:k+z+n+1<s.size:=by omega
       have hp0:k+z+n<s.size:=by omega
       obtain⟨g1,g2⟩:=Nz (s:=s) (k:=k+z) (j:=n) (by omega);obtain⟨g3,g4⟩:=Nz (s:=s) (k:=k+z) (j:=n+1) (by omega);have G2:=hid g2;have G4:=hid g4;clear g2 g4;have HBD:=hid (λh=>b1S (room:=left) hlg g3 h);have HGD:=hid (λh=>a6S (room:=left) hlg g3 h)
       cases h13:((s[k+z+n].toNat:Int) != 13)
       ·cases h10:((s[k+z+n+1].toNat:Int) != 10)
        ·have hgd:=HGD.out (by rw[G2.out,G4.out];simp only[A3z,beq_iff_eq];exact⟨a2C h13,by apply UInt8.toNat_inj.1;simp at h10;show s[k+z+n+1].toNat=10;omega⟩);rw[hgd]at HR;simp only[ne_eq,not_true_eq_false,if_false]at HR;have htl:((s.data.toList.drop (k+z)).take n).length=n:=by rw[B0z,hdl];omega
         rw[htl,show k+(z+(n+2))=k+z+n+2 from by omega]at HR;have HIH:=hid (λW=>IH.out (k+z+n+2) (left-n) W (by omega) (by omega) (by omega) (by omega));have hex:(s.extract (k+z) (k+z+n)).data.toList=(s.data.toList.drop (k+z)).take n:=by rw[Lib.extract_data,show k+z+n-(k+z)=n from by omega]
         have hrl:=a2H hd f (s.data.toList.drop (k+z+n+2)) (left-n);simp only[A6z,Array.length_toList]at hrl;have hrl2:(Cw f (s.data.toList.drop (k+z+n+2)) hd (left-n)).2.1.length<=s.size:=by
          have:s.data.size=s.size:=rfl;omega
         clear hrl;generalize Cw f (s.data.toList.drop (k+z+n+2)) hd (left-n)=R2 at *
         generalize (s.data.toList.drop (k+z)).take n=ck at *
         have HEX:=hid hex;clear IH HBD HGD G2 G4 hgd htl hdl hex;go_wp2_with (go_at_call 130;refine(HN.out _).mono ?_;rintro e w2 ⟨rfl,hb2⟩);refine(HIH.out _).mono ?_;rintro e w3 ⟨rfl,hb3⟩;have hB3:=(hb1.trans (hb2.mono hb1.size)).trans (hb3.mono (hb1.trans (hb2.mono hb1.size)).size);clear HN HIH;generalize hrb:(⟨R2.2.1.toArray⟩:By)=rb;have hrd:rb.data.toList=R2.2.1:=by rw[<-hrb]
         have hrs:rb.size<=s.size:=by rw[Dn hrd];exact hrl2
         generalize hce:Od (k+z+n+2) R2=ce;have HCE:=hid hce;have HRD:=hid hrd;clear hrb hrd hce hrl2;by_cases hr:R2.1=0
         ·rw[if_neg (by simp[hr])]at HR;rw[hr];go_wp2
          go_ret3
          refine⟨Er ?_ ?_ ?_,hB3⟩
          ·rw[HR.out,C8z,D7z,HEX.out,HRD.out]
          ·rw[HR.out,<-HCE.out];unfold Od;rw[if_pos hr,if_pos rfl];simp only;omega
          ·rw[HR.out]
         ·rw[if_pos hr]at HR;have hne:(R2.1 != 0)=true:=by rw[bne_iff_ne];exact hr
          go_wp2
          go_ret3
          refine⟨Er ?_ ?_ ?_,hB3⟩
          ·rw[HR.out]
          ·rw[HR.out];unfold Od;rw[if_neg hr]
          ·rw[HR.out]
        ·have hbd2:=HBD.out (by rw[G2.out,G4.out];simp only[Bool.and_eq_false_iff];right;rw[Ar];intro hc;have hc2:s[k+z+n+1]=10:=hc;rw[hc2]at h10;simp at h10);have HRR:Hid (R=(3,[],0)):=by unfold Hid;rw[HR.out,hbd2];rfl
         clear HR IH HBD HGD G2 G4;go_wp2_with (go_at_call 130;refine(HN.out _).mono ?_;rintro e w2 ⟨rfl,hb2⟩)
         go_ret3
         exact⟨Er (by rw[HRR.out]) (by rw[HRR.out];rfl) (by rw[HRR.out]),hb1.trans (hb2.mono hb1.size)⟩
       ·have hbd2:=HBD.out (by rw[G2.out,G4.out];simp only[Bool.and_eq_false_iff];left;rw[Ar];exact a2D h13);have HRR:Hid (R=(3,[],0)):=by unfold Hid;rw[HR.out,hbd2];rfl
        clear HR IH HBD HGD G2 G4;go_wp2_with (go_at_call 130;refine(HN.out _).mono ?_;rintro e w2 ⟨rfl,hb2⟩)
        go_ret3
        exact⟨Er (by rw[HRR.out]) (by rw[HRR.out];rfl) (by rw[HRR.out]),hb1.trans (hb2.mono hb1.size)⟩
  ·have hse:=HE.out h1;have HRR:Hid (R=(L.1,[],0)):=by unfold Hid;rw[HR.out,hse,if_pos h1]
   have hne:(L.1 != 0)=true:=by rw[bne_iff_ne];exact h1
   clear HR HB HO HE;go_wp2
   go_ret3
   exact⟨Er (by rw[HRR.out]) (by rw[HRR.out];unfold Od;rw[if_neg h1]) (by rw[HRR.out]),hb1⟩
structure RInv(w:World)(hd:Nat)(s:By)(H:Pm.a0a)(gq g u:Nat)(m t:L8)(fs:List Pm.Fld)(v:Value)(wr:World):Prop where
 u1:u<=hd
 g1:hd-u+1<=g
 k1:u<=s.size
 n1:fs.length<=u
 eq:Pm.a1o g false (s.data.toList.drop u) (hd-u) m t fs u=H
 rb:RqB w.heap.size [] [] (.slice none 0 0) wr
 qb:RqB gq m t v wr
 ow:wr.ownsRow (gq+1) 131 2 v fs.length (Ih fs)
 sz:gq+1<=wr.heap.size
 bl:Bw w wr
theorem b1U(s:By)(hd:Nat)(w:World)(hs:s.size<=1152921504606846976)(hh:hd<=500):
  Calls prog 137 #[.string s,.int .i64 hd] w λr w'=>
   (∃v,r=.returned (.tuple #[.agg #[.string ⟨(Pm.a1o (hd+1) true s.data.toList hd [] [] [] 0).2.1.toArray⟩,.string ⟨(Pm.a1o (hd+1) true s.data.toList hd [] [] [] 0).2.2.1.toArray⟩,v,.string ⟨#[]⟩],.int .i64 (Pm.a1o (hd+1) true s.data.toList hd [] [] [] 0).2.2.2.2,.int .i64 (Pm.a1o (hd+1) true s.data.toList hd [] [] [] 0).1])/\w'.ownsRow w.heap.size 131 2 v (Pm.a1o (hd+1) true s.data.toList hd [] [] [] 0).2.2.2.1.length (Ih (Pm.a1o (hd+1) true s.data.toList hd [] [] [] 0).2.2.2.1))/\Bw w w':=by
 obtain⟨i0,hi,hz0,hz1,hz2⟩:=info_parts Tryz.info36;have hsm:s.size<=maxLen:=by unfold maxLen;omega
 have HH:=hid (Dc hd true s.data.toList hd [] [] [] 0);have HLF:=hid (λW=>Me s 0 hd 5 W hsm (Ah _) (Ah _) (by omega));rw[D6z,Nat.sub_zero]at HLF;have hok:=hid (Pm.a2k (l:=s.data.toList) (lim:=hd) (long:=5) (by omega));generalize hHH:Pm.a1o (hd+1) true s.data.toList hd [] [] [] 0=H at *
 clear hHH;generalize hLL:Pm.a2g s.data.toList hd 5=L at *
 clear hLL;have hA:=bA w (.cells #[.string ⟨#[]⟩,.string ⟨#[]⟩,.slice none 0 0,.string ⟨#[]⟩] 47);have q0:RqB w.heap.size [] [] (.slice none 0 0) (w.alloc (.cells #[.string ⟨#[]⟩,.string ⟨#[]⟩,.slice none 0 0,.string ⟨#[]⟩] 47)):=Ag w _;go_enter func137,ntmps137;go_wp2_with fail;refine(HLF.out _).mono ?_;rintro e w1 ⟨rfl,hb1⟩;have hB1:=Bc hA hb1;have q1:=q0.below hb1;generalize hlb:(⟨L.2.1.toArray⟩:By)=lb;have hld:lb.data.toList=L.2.1:=by rw[<-hlb]
 clear hlb HLF hA hb1 q0;rw[<-hld]at hok HH;by_cases h1:L.1=0
 ·obtain⟨o1,o2,o3,o4⟩:=hok.out h1;have o5:L.2.2<=s.size:=by simpa using o3
  have hls:lb.size<=maxLen:=by
   have:lb.data.toList.length=lb.size:=by simp
   unfold maxLen;omega
  rw[if_neg (by simp[h1]),if_pos trivial]at HH;rw[h1];have HF:=hid (λW=>a6Q lb W hls);generalize Pm.a1f lb.data.toList=P at *
  go_wp2_with fail;refine(HF.out _).mono ?_;rintro e w2 ⟨rfl,hb2⟩;have hB2:=Bc hB1 hb2;have q2:=q1.below hb2;have sz2:=q2.lt;clear HF hB1 q1 hb2 hls;by_cases h2:P.1=0
  ·rw[if_neg (by simp[h2])]at HH;rw[h2];have hA3:=bA w2 (.cells #[.string ⟨P.2.1.toArray⟩,.string ⟨P.2.2.toArray⟩,.slice none 0 0,.string ⟨#[]⟩] 47);have qq:RqB w2.heap.size P.2.1 P.2.2 (.slice none 0 0) (w2.alloc (.cells #[.string ⟨P.2.1.toArray⟩,.string ⟨P.2.2.toArray⟩,.slice none 0 0,.string ⟨#[]⟩] 47)):=Ag w2 _;have q3:=q2.below hA3;have hB3:=Bc hB2 hA3;have hbg:w.heap.size<w2.heap.size:=sz2;clear hA3 q2 hB2;go_wp2_with fail;have szq:w2.heap.size+1<=(w2.alloc (.cells #[.string ⟨P.2.1.toArray⟩,.string ⟨P.2.2.toArray⟩,.slice none 0 0,.string ⟨#[]⟩] 47)).heap.size:=by simp
   generalize w2.alloc (.cells #[.string ⟨P.2.1.toArray⟩,.string ⟨P.2.2.toArray⟩,.slice none 0 0,.string ⟨#[]⟩] 47)=w3 at *
   generalize w2.heap.size=gq at *
   have I0:RInv w hd s H gq hd L.2.2 P.2.1 P.2.2 [] (.slice none 0 0) w3:={u1:=o2,g1:=by omega,k1:=o5,n1:=by simp,eq:=by rw[HH.out,C1z],rb:=q3,qb:=qq,ow:=Am _ _ _ _,sz:=szq,bl:=hB3};clear HH qq q3 hB3 szq
   go_loopw [7,8,9,11,12] (λ_ at_ _ _ _ wr=>∃(g u:Nat) (fs:List Pm.Fld) (v:Value),at_=.int .i64 (u:Int)/\RInv w hd s H gq g u P.2.1 P.2.2 fs v wr) (λ_ at_ _ _ _ _=>hd-(intOf at_).toNat)
   case atStart=>exact⟨hd,L.2.2,[],_,rfl,I0⟩
   case round=>
    clear I0 o1 o2 o3 o4 o5 h1 hok hld h2 sz2;obtain⟨g,u,fs,v,rfl,I⟩:=hrel;obtain⟨av,nv,cv,rfl⟩:=Lv I.ow;have i1:=I.u1;have i2:=I.g1;have i3:=I.k1;have i5:=I.n1;obtain⟨g,rfl⟩:∃g',g=g'+1:=⟨g-1,by omega⟩;have HE:Hid _:=I.eq.symm.trans (Dc g _ _ _ _ _ _ _);have HLN:=hid (Me s u hd 5 wr hsm i3 i1 (by omega));have hok2:=hid (Pm.a2k (l:=s.data.toList.drop u) (lim:=hd-u) (long:=5) (by omega));generalize hLL:Pm.a2g (s.data.toList.drop u) (hd-u) 5=M at *
    clear hLL;go_wp2_with fail;refine HLN.out.mono ?_;rintro e w4 ⟨rfl,hb4⟩;have rb4:=I.rb.below hb4;have qb4:=I.qb.below hb4;have ow4:=Be I.ow hb4;have sz4:gq+1<=w4.heap.size:=Aj I.sz hb4.size;have hB4:=Bc I.bl hb4;generalize hlb:(⟨M.2.1.toArray⟩:By)=mb;have hmd:mb.data.toList=M.2.1:=by rw[<-hlb]
    rw[<-hmd]at hok2 HE;clear hlb HLN hb4 I;by_cases h1:M.1=0
    ·obtain⟨o1,o2,o3,o4⟩:=hok2.out h1;have o5:M.2.2<=s.size-u:=by simpa using o3
     rw[if_neg (by simp[h1]),if_neg (by simp)]at HE;rw[h1];by_cases h2:mb.data.toList=[]
     ·rw[if_pos h2]at HE;have he:mb.toList.isEmpty=true:=by rw[A1z,h2];rfl
      obtain⟨c0,c1,c2,c3⟩:=rb4.cells;have d0:=rb4.free 0;have d1:=rb4.free 1;have d2:=rb4.free 2;have d3:=rb4.free 3;obtain⟨z0,z1,z2,z3⟩:=qb4.cells;have BL:=hid hB4;have OW:=hid ow4;clear h2 rb4 qb4 ow4 hB4;go_wp2;refine Ae (v:=.tuple #[.agg #[.string ⟨P.2.1.toArray⟩,.string ⟨P.2.2.toArray⟩,.slice av nv cv,.string ⟨#[]⟩],.int .i64 ((u:Int)+(M.2.2:Int)),.int .i64 0]) (by simp[results,results137,go_sem,c0,c1,c2,c3]) rfl ?_;rw[HE.out];refine⟨⟨_,rfl,?_⟩,(((BL.out.setCell (Ac _) _).setCell (Ac _) _).setCell (Ac _) _).setCell (Ac _) _⟩;exact Bt (Di (Di (Di (Di OW.out (by omega) 0 _) (by omega) 1 _) (by omega) 2 _) (by omega) 3 _) (by omega)
     ·rw[if_neg h2]at HE;have he:mb.toList.isEmpty=false:=by
       rw[A1z];cases hl:mb.data.toList with|nil=>exact absurd hl h2|cons=>rfl
      have hls:mb.size<=maxLen:=by
       have:mb.data.toList.length=mb.size:=by simp
       unfold maxLen;omega
      have HFO:=hid (λW=>Ob mb W hls);generalize hFF:Pm.a1d mb.data.toList=FF at *
      clear hFF h2;go_wp2_with fail;refine(HFO.out _).mono ?_;rintro e w5 ⟨⟨fn,fv,rfl,hnv⟩,hb5⟩;have rb5:=rb4.below hb5;have qb5:=qb4.below hb5;have ow5:=Be ow4 hb5;have sz5:gq+1<=w5.heap.size:=Aj sz4 hb5.size;have hB5:=Bc hB4 hb5;clear HFO rb4 qb4 ow4 sz4 hB4 hb5
      cases FF with
      |none=>
       obtain⟨c0,c1,c2,c3⟩:=rb5.cells;have d0:=rb5.free 0;have d1:=rb5.free 1;have d2:=rb5.free 2;have d3:=rb5.free 3;have BL:=hid hB5;have szA:w.heap.size<w5.heap.size:=by omega
       clear rb5 qb5 ow5 hB5 hnv;go_wp2;refine Ae (v:=.tuple #[.agg #[.string ⟨#[]⟩,.string ⟨#[]⟩,.slice none 0 0,.string ⟨#[]⟩],.int .i64 0,.int .i64 3]) (by simp[results,results137,go_sem,c0,c1,c2,c3,szA]) rfl ?_;rw[HE.out];exact⟨⟨_,rfl,Am _ _ _ _⟩,((((BL.out.setCell (Ac _) _).setCell (Ac _) _).setCell (Ac _) _).setCell (Ac _) _).alloc (by simp;omega) _⟩
      |some fl=>
       obtain⟨n1,n2⟩:=hnv fl rfl;obtain⟨z0,z1,z2,z3⟩:=qb5.cells;have v2:=qb5.free 2;have szB:gq<w5.heap.size:=by omega
       clear hnv;go_wp2_with (at_builtin;refine wpList_append_lies _ rfl _ _ 45 rfl (gq+1) 131 i0 _ 2 32 underlying45 hi hz0 hz1 hz2 rfl (by omega) (.slice av nv cv) fs.length (Ih fs) rfl ((ow5.alloc _).alloc _) ⟨w5.heap.size+1,0,none⟩ 1 1 [.string fn,.string fv] rfl rfl ?c1 ?c2 (by omega) ?c3 ?c4 ?c5 _ rfl ?_)
       case c1=>
        intro j x hj
        match j,hj with
        |0,hj=>simp at hj;subst hj;simp[Addr.add]
        |1,hj=>simp at hj;subst hj;simp[Addr.add]
       case c2=>intro x hx;simp at hx;rcases hx with rfl|rfl<;>rfl
       case c3=>unfold maxLen;omega
       case c4=>omega
       case c5=>simp;omega
       intro gg cap w8 hown hgrow hat hlt;have hE8:Bw w5 ((w5.alloc (.cells #[.string fn,.string fv] 131)).alloc (.cells #[.string fn,.string fv] 131)):=(bA _ _).alloc (by simp) _;have rb8:=(rb5.below hE8).grown hgrow (Hh ow5 (by omega));have qb8:=(qb5.below hE8).grown hgrow (Hh ow5 (by omega));have hB8:Bw w w8:=(Bc hB5 hE8).grown hgrow (by have:=hB5.size;simp;omega) (λr hr=>by have:=Bx ow5 r hr;omega);have sz8:gq+1<=w8.heap.size:=by
        have h1:=hgrow.size;simp at h1;omega
       obtain⟨z0',z1',z2',z3'⟩:=qb8.cells;have v2':=qb8.free 2;have HD:Hid (s.data.toList.drop (u+M.2.2)=(s.data.toList.drop u).drop M.2.2):=by unfold Hid;rw[E2z]
       clear rb5 qb5 ow5 hB5 hE8 hgrow z0 z1 z2 z3 v2;go_wp2;refine⟨⟨g,u+M.2.2,fs++[fl],.slice (some ⟨gg,0,none⟩) (fs.length+1) cap,by go_num,?_⟩,by simp[intOf];omega⟩;refine{u1:=by omega,g1:=by omega,k1:=by omega,n1:=by simp;omega,eq:=?_,rb:=rb8.other (by omega) 2 _,qb:=qb8.set2 _,ow:=?_,sz:=by simpa using sz8,bl:=hB8.setCell (by show w.heap.size<=gq;omega) _}
       ·rw[HD.out,show hd-(u+M.2.2)=hd-u-M.2.2 from by omega];exact HE.out.symm
       ·obtain⟨f1,f2⟩:=fl;simp only at n1 n2;rw[Vr,A0z,<-n1,<-n2];exact Di hown (by omega) 2 _
    ·rw[if_pos h1]at HE;have hne:(M.1 != 0)=true:=by rw[bne_iff_ne];exact h1
     obtain⟨c0,c1,c2,c3⟩:=rb4.cells;have d0:=rb4.free 0;have d1:=rb4.free 1;have d2:=rb4.free 2;have d3:=rb4.free 3;have BL:=hid hB4;clear rb4 qb4 ow4 hB4;go_wp2;refine Ae (v:=.tuple #[.agg #[.string ⟨#[]⟩,.string ⟨#[]⟩,.slice none 0 0,.string ⟨#[]⟩],.int .i64 0,.int .i64 M.1]) (by simp[results,results137,go_sem,c0,c1,c2,c3]) rfl ?_;rw[HE.out];exact⟨⟨_,rfl,Am _ _ _ _⟩,(((BL.out.setCell (Ac _) _).setCell (Ac _) _).setCell (Ac _) _).setCell (Ac _) _⟩
  ·rw[if_pos h2]at HH;have hne:(P.1 != 0)=true:=by rw[bne_iff_ne];exact h2
   obtain⟨c0,c1,c2,c3⟩:=q2.cells;have d0:=q2.free 0;have d1:=q2.free 1;have d2:=q2.free 2;have d3:=q2.free 3;have BL:=hid hB2;clear q2 hB2;go_wp2;refine Ae (v:=.tuple #[.agg #[.string ⟨#[]⟩,.string ⟨#[]⟩,.slice none 0 0,.string ⟨#[]⟩],.int .i64 0,.int .i64 P.1]) (by simp[results,results137,go_sem,c0,c1,c2,c3,sz2]) rfl ?_;rw[HH.out];exact⟨⟨_,rfl,Am _ _ _ _⟩,((((BL.out.setCell (Ac _) _).setCell (Ac _) _).setCell (Ac _) _).setCell (Ac _) _).alloc (by simp;omega) _⟩
 ·rw[if_pos h1]at HH;have hne:(L.1 != 0)=true:=by rw[bne_iff_ne];exact h1
  obtain⟨c0,c1,c2,c3⟩:=q1.cells;have d0:=q1.free 0;have d1:=q1.free 1;have d2:=q1.free 2;have d3:=q1.free 3;have BL:=hid hB1;clear q1 hB1;go_wp2;refine Ae (v:=.tuple #[.agg #[.string ⟨#[]⟩,.string ⟨#[]⟩,.slice none 0 0,.string ⟨#[]⟩],.int .i64 0,.int .i64 L.1]) (by simp[results,results137,go_sem,c0,c1,c2,c3]) rfl ?_;rw[HH.out];exact⟨⟨_,rfl,Am _ _ _ _⟩,(((BL.out.setCell (Ac _) _).setCell (Ac _) _).setCell (Ac _) _).setCell (Ac _) _⟩
def a9F(M:Int×Bool×Int):Int:=if M.1≠0 then 0 else if M.2.1=true then -1 else M.2.2
theorem Nf{a b:L8}(fs:List (By×By))(h:a.map Pm.low=b.map Pm.low):Bf fs a=Bf fs b:=by
 unfold Bf Pm.a0d;rw[h]
theorem a6T(fs:List (By×By))(a:Oa)(cap:Nat)(w:World)(hf:Df fs a w)(hl:fs.length<=4398046511104)(hsz:∀i (h:i<fs.length),fs[i].1.size<=maxLen):
  Calls prog 188 #[.slice a fs.length cap,.string ⟨#[104,111,115,116]⟩] w λe w'=>(∃a' c',e=.returned (.slice a' (Bf fs Kl).length c')/\Dg (Bf fs Kl) a' w')/\Bw w w':=by
 have h:=La fs a cap ⟨#[104,111,115,116]⟩ w hf hl (by show 4<=maxLen;unfold maxLen;omega) hsz;rw[Nf fs (show(⟨#[104,111,115,116]⟩:By).data.toList.map Pm.low=Kl.map Pm.low from by decide +kernel)]at h;exact h
theorem Yi(fs:List (By×By))(a:Oa)(cap:Nat)(w:World)(hf:Df fs a w)(hl:fs.length<=4398046511104)(hsz:∀i (h:i<fs.length),fs[i].1.size<=maxLen):
  Calls prog 188 #[.slice a fs.length cap,.string ⟨#[99,111,110,116,101,110,116,45,108,101,110,103,116,104]⟩] w λe w'=>(∃a' c',e=.returned (.slice a' (Bf fs Dp).length c')/\Dg (Bf fs Dp) a' w')/\Bw w w':=by
 have h:=La fs a cap ⟨#[99,111,110,116,101,110,116,45,108,101,110,103,116,104]⟩ w hf hl (by show 14<=maxLen;unfold maxLen;omega) hsz;rw[Nf fs (show(⟨#[99,111,110,116,101,110,116,45,108,101,110,103,116,104]⟩:By).data.toList.map Pm.low=Dp.map Pm.low from by decide +kernel)]at h;exact h
theorem Yj(fs:List (By×By))(a:Oa)(cap:Nat)(w:World)(hf:Df fs a w)(hl:fs.length<=4398046511104)(hsz:∀i (h:i<fs.length),fs[i].1.size<=maxLen):
  Calls prog 188 #[.slice a fs.length cap,.string ⟨#[116,114,97,110,115,102,101,114,45,101,110,99,111,100,105,110,103]⟩] w λe w'=>(∃a' c',e=.returned (.slice a' (Bf fs Du).length c')/\Dg (Bf fs Du) a' w')/\Bw w w':=by
 have h:=La fs a cap ⟨#[116,114,97,110,115,102,101,114,45,101,110,99,111,100,105,110,103]⟩ w hf hl (by show 17<=maxLen;unfold maxLen;omega) hsz;rw[Nf fs (show(⟨#[116,114,97,110,115,102,101,114,45,101,110,99,111,100,105,110,103]⟩:By).data.toList.map Pm.low=Du.map Pm.low from by decide +kernel)]at h;exact h
theorem Lj(c:By)(w:World)(hc:c.size<=maxLen):
  Calls prog 189 #[.string c,.string ⟨#[99,104,117,110,107,101,100]⟩] w λe w'=>e=.returned (.bool (Pm.a0d c.data.toList Je))/\w'=w:=Ds c ⟨#[99,104,117,110,107,101,100]⟩ w hc (by show 7<=maxLen;unfold maxLen;omega)
theorem a9G{l:L8}(h:Pm.a3i 10 9 l=true):Pm.a3f 10 9 l=Pm.a3o 10 l/\0<=Pm.a3o 10 l:=by
 refine⟨by unfold Pm.a3f;rw[h];rfl,?_⟩;simp only[Pm.a3i,A3z,decide_eq_true_eq]at h;exact(Pm.a3p 10 _ (by omega) (by omega) h.2 (by omega)).1
theorem c0C{l:L8}(h:Pm.a3i 10 9 l=false):Pm.a3f 10 9 l=-1:=by unfold Pm.a3f;rw[h];rfl
theorem Wf{l:List (List UInt8)}{k:Nat}(hk:0<k)(h0:0<l.length)(h:Pm.a3u (l.take k)=true):Pm.a3f 10 9 l[0]=Pm.a3y (l.take k):=by
 cases l with
 |nil=>simp at h0
 |cons x r=>
  obtain⟨k,rfl⟩:∃j,k=j+1:=⟨k-1,by omega⟩;rw[List.take_succ_cons]at h ⊢;have:=List.all_eq_true.1 h x (by simp);simp only[A3z]at this;exact(a9G this.1).1
theorem b1V(fs:List (By×By))(m t y:By)(a:Oa)(cap:Nat)(most:Int)(w:World)(hf:Df fs a w)(hl:fs.length<=1000000)(hm0:0<=most)(hz1:∀f∈fs,f.1.size<=maxLen)(hz2:∀f∈fs,f.2.size<=maxLen):
  Calls prog 138 #[.agg #[.string m,.string t,.slice a fs.length cap,.string y],.int .i64 most] w λr w'=>r=.returned (.tuple #[.int .i64 (a9F (Cr fs most)),.int .i64 (Cr fs most).1])/\Bw w w':=by
 have hA:=bA w (.cells #[.string m,.string t,.slice a fs.length cap,.string y] 47);have hfA:=hf.below hA;have HZ1:∀i (h:i<fs.length),fs[i].1.size<=maxLen:=λi h=>hz1 _ (As h);have HV1:=hid (λW (hW:Df fs a W)=>a6T fs a cap W hW (by omega) HZ1);have HV2:=hid (λW (hW:Df fs a W)=>Yj fs a cap W hW (by omega) HZ1);have HV3:=hid (λW (hW:Df fs a W)=>Yi fs a cap W hW (by omega) HZ1);have HZL:Hid (∀i (hi:i<(Bf fs Dp).length),(Bf fs Dp)[i].size<=maxLen):=Lu hz2;have HZC:Hid (∀i (hi:i<(Bf fs Du).length),(Bf fs Du)[i].size<=maxLen):=Lu hz2;have hll:=Co fs Dp;have hlc:=Co fs Du;have hlh:=Co fs Kl;have HR:Hid (Cr fs most=Jf (Bf fs Kl).length (Bu (Bf fs Dp)) (Bu (Bf fs Du)) most):=rfl;generalize Cr fs most=M at *
 generalize Bf fs Dp=LB at *
 generalize Bf fs Du=CB at *
 generalize (Bf fs Kl).length=hn at *
 clear hz1 hz2 HZ1 hf;go_enter func138,ntmps138;go_wp2_with fail;refine(HV1.out _ hfA).mono ?_;rintro e w1 ⟨⟨a1,n1,rfl,hs1⟩,hb1⟩;have k1:=Aa hb1 (a:=⟨w.heap.size,2,none⟩) (v:=.slice a fs.length cap) (by simp);have hB1:=Bc hA hb1;have hf1:=hfA.below hb1;clear HV1 hs1 hA hfA hb1;go_wp2_with fail;refine(HV2.out _ hf1).mono ?_;rintro e w2 ⟨⟨a2,n2,rfl,hs2⟩,hb2⟩;have k2:=Aa hb2 k1;have hB2:=Bc hB1 hb2;have hf2:=hf1.below hb2;clear HV2 hB1 hf1 hb2 k1;go_wp2_with fail;refine(HV3.out _ hf2).mono ?_;rintro e w3 ⟨⟨a3,n3,rfl,hs3⟩,hb3⟩;have hB3:=Bc hB2 hb3;have hs2':=hs2.below hb3;clear HV3 hB2 hf2 hb3 k2 hs2;have hdl:(Bu LB).length=LB.length:=by simp[Bu]
 have hdc:(Bu CB).length=CB.length:=by simp[Bu]
 unfold Jf at HR;rw[hdl,hdc]at HR;have HDL:=hid hdl;have HDC:=hid hdc;clear hdl hdc;by_cases hh:hn=1
 ·subst hh;rw[if_neg (by simp)]at HR;by_cases hcl:0<CB.length/\0<LB.length
  ·have HM:Hid (M=(3,false,0)):=by unfold Hid;rw[HR.out,if_pos hcl]
   obtain⟨hc1,hc2⟩:=hcl;clear HR;go_wp2
   go_ret2
   exact⟨Dt (by rw[HM.out];rfl) (by rw[HM.out]),hB3⟩
  ·rw[if_neg hcl]at HR;have hw:¬0<CB.length\/¬0<LB.length:=by omega
   have key:∀W (hW:Bw w3 W),True:=λ_ _=>trivial;clear key;by_cases hc0:0<CB.length
   ·have hl0:¬0<LB.length:=by omega
    have hle:LB=[]:=Ay (by omega);subst hle;obtain⟨g,rfl,hg,hc⟩:=hs2' 0 hc0;have hzc:=HZC.out 0 hc0;have hch:(Bu CB).headD []=CB[0].data.toList:=by
     cases CB with
     |nil=>simp at hc0
     |cons x r=>rfl
    rw[hch]at HR;generalize CB[0]=c0 at *
    have hsz:(([]:List By).length:Int)=0:=rfl;clear hcl hw hl0 HZC HZL hch hs3 hs2'
    cases hal:Pm.a0d c0.data.toList Je
    ·have HM:Hid (M=(6,false,0)):=by
      unfold Hid;rw[HR.out,if_neg (by simp[Bu,Pm.a3s,Pm.a3u]),if_pos (by rw[hal];simp;omega)]
     clear HR;go_wp2_with fail
     go_loop [9,10,11] (λi _ _=>i=.int .i64 0) (λ_ _ _=>0)
     case atStart=>rfl
     case round=>
      obtain rfl:=hrel;go_wp2_with (go_at_call 189;refine(Lj _ _ hzc).mono ?_;rw[hal];rintro e w5 ⟨rfl,rfl⟩)
      all_goals
       go_ret2
       exact⟨Dt (by rw[HM.out];rfl) (by rw[HM.out]),hB3⟩
    ·by_cases hc1:1<CB.length
     focus
      have HM:Hid (M=(6,false,0)):=by
       unfold Hid;rw[HR.out,if_neg (by simp[Bu,Pm.a3s,Pm.a3u]),if_pos (Or.inl hc1)]
     rotate_left
     focus
      have hce:CB.length=1:=by omega
      have HM:Hid (M=(0,true,0)):=by
       unfold Hid;rw[HR.out,if_neg (by simp[Bu,Pm.a3s,Pm.a3u]),if_neg (by rw[hal];simp;omega),if_neg (by simp[Bu,Pm.a3t,Pm.a3u,Pm.a3y];omega),hce];simp[Bu,Pm.a3t,Pm.a3u,Pm.a3y]
     all_goals
      clear HR;go_wp2_with fail
      go_loop [9,10,11] (λi _ _=>i=.int .i64 0) (λ_ _ _=>0)
      case atStart=>rfl
      case round=>
       obtain rfl:=hrel;go_wp2_with (go_at_call 189;refine(Lj _ _ hzc).mono ?_;rw[hal];rintro e w5 ⟨rfl,rfl⟩)
       go_ret2
       exact⟨Dt (by rw[HM.out];rfl) (by rw[HM.out]),hB3⟩
   ·have hce:CB=[]:=Ay (by omega);subst hce;clear hcl hw hc0 HZC HDC hs2' hlc;have HR2:Hid (M=if Pm.a3s (Bu LB)≠0 then(3,false,0)else if most<Pm.a3t (Bu LB)then(4,false,0)else(0,false,Pm.a3t (Bu LB))):=by
     unfold Hid;rw[HR.out];by_cases hx:Pm.a3s (Bu LB)≠0
     ·rw[if_pos hx,if_pos hx]
     ·rw[if_neg hx,if_neg hx,if_neg (by simp)];rfl
    clear HR;go_wp2_with fail
    go_loopw [9,10,11] (λi _ _ wr=>∃k:Nat,k<=LB.length/\i=.int .i64 k/\Hid (Pm.a3u ((Bu LB).take k)=true)/\Bw w3 wr) (λi _ _ _=>LB.length-(intOf i).toNat)
    case atStart=>exact⟨0,Ah _,rfl,rfl,Ad _ _⟩
    case round=>
     obtain⟨k,hk,rfl,H,hbw⟩:=hrel;have hB4:=Bc hB3 hbw;by_cases hlt:k<LB.length
     ·obtain⟨g,rfl,hg,hck⟩:=(hs3.below hbw) k hlt;obtain⟨g',hgg,hg',hc00⟩:=(hs3.below hbw) 0 (by omega);obtain rfl:g'=g:=by simpa using hgg.symm
      have hzk:=HZL.out k hlt;have hz0:=HZL.out 0 (by omega);have hkd:k<(Bu LB).length:=by rw[HDL.out];exact hlt
      have h0d:0<(Bu LB).length:=by omega
      have hdk:(Bu LB)[k]=LB[k].data.toList:=by simp[Bu]
      have hd0:(Bu LB)[0]=LB[0].data.toList:=by simp[Bu]
      have B1:=hid (λhn=>Pm.a3v hkd (by rw[hdk];exact hn));have B2:=hid (λhp hn=>Pm.a3w hkd hp (by rw[hdk];exact hn));have ST:=hid (λhn he=>(Pm.a3x hkd H.out (by rw[hdk];exact hn) (by rw[hdk];exact he)).1);have F0:=hid (λhp=>Wf hp h0d H.out);rw[hd0]at F0;have N1:=hid (λW=>Gx LB[k] 10 9 W hzk (by omega) (by omega));have N2:=hid (λW=>Gx LB[0] 10 9 W hz0 (by omega) (by omega));have BAD:Hid (Pm.a3u (Bu LB)=false->M=(3,false,0)):=by
       intro h;rw[HR2.out];unfold Pm.a3s;rw[h];rfl
      go_wp2_with fail;refine(N1.out _).mono ?_;rintro e w5 ⟨rfl,hb5⟩;have hc01:=Aa hb5 hc00;go_wp2_with fail;refine(N2.out _).mono ?_;rintro e w6 ⟨rfl,hb6⟩;have hB6:=Bc (Bc hB4 hb5) hb6;have hBW:=Bc (Bc hbw hb5) hb6;clear N1 N2 hb5 hb6 hck hc00 hc01 hB4 hbw
      cases hn:Pm.a3i 10 9 LB[k].data.toList
      ·have HM:=hid (BAD.out (B1.out hn));rw[c0C hn];clear B1 B2 ST F0 BAD hn;go_wp2
       go_ret2
       exact⟨Dt (by rw[HM.out];rfl) (by rw[HM.out]),hB6⟩
      ·obtain⟨e1,e2⟩:=a9G hn;by_cases hk0:k=0
       ·subst hk0;have S1:=hid (ST.out hn (Or.inl rfl));rw[e1];generalize Pm.a3o 10 LB[0].data.toList=nv at *
        clear B1 B2 ST F0 BAD hn e1;go_wp2;exact⟨⟨1,by omega,rfl,S1,hBW⟩,by simp[intOf];omega⟩
       ·have f0:=F0.out (by omega);rw[e1,f0];by_cases he:Pm.a3o 10 LB[k].data.toList=Pm.a3y ((Bu LB).take k)
        ·have S1:=hid (ST.out hn (Or.inr he));rw[he]at e2 ⊢;generalize Pm.a3y ((Bu LB).take k)=o at *
         clear B1 B2 ST F0 BAD hn e1 he f0;go_wp2;exact⟨⟨k+1,by omega,by go_num,S1,hBW⟩,by simp[intOf];omega⟩
        ·have HM:=hid (BAD.out (B2.out (by omega) he));have he2:(Pm.a3o 10 LB[k].data.toList != Pm.a3y ((Bu LB).take k))=true:=by rw[bne_iff_ne];exact he
         generalize Pm.a3y ((Bu LB).take k)=o at *
         generalize Pm.a3o 10 LB[k].data.toList=nv at *
         clear B1 B2 ST F0 BAD hn e1 he f0;go_wp2
         go_ret2
         exact⟨Dt (by rw[HM.out];rfl) (by rw[HM.out]),hB6⟩
     ·have HT:Hid ((Bu LB).take k=Bu LB):=Aq (by rw[HDL.out];omega);have hone:=H.out;rw[HT.out]at hone;have HR3:Hid (M=if most<Pm.a3t (Bu LB)then(4,false,0)else(0,false,Pm.a3t (Bu LB))):=by
       unfold Hid;rw[HR2.out,if_neg (by unfold Pm.a3s;rw[hone];simp)]
      by_cases hl0:LB.length=0
      ·have hle:LB=[]:=Ay hl0;subst hle;have HM:Hid (M=(0,false,0)):=by
        unfold Hid;rw[HR3.out,if_neg (by simp[Bu,Pm.a3t,Pm.a3u,Pm.a3y];omega)];rfl
       clear HR2 HR3;go_wp2
       go_ret2
       exact⟨Dt (by rw[HM.out];rfl) (by rw[HM.out]),hB4⟩
      ·obtain⟨g,rfl,hg,hc00⟩:=(hs3.below hbw) 0 (by omega);have hz0:=HZL.out 0 (by omega);have hd0:(Bu LB)[0]'(by rw[HDL.out];omega)=LB[0].data.toList:=by simp[Bu]
       have hfo:=Wf (l:=Bu LB) (k:=(Bu LB).length) (by rw[HDL.out];omega) (by rw[HDL.out];omega) (by rw[Aq (Ac _)];exact hone);rw[Aq (Ac _),hd0]at hfo;have hon:Pm.a3t (Bu LB)=Pm.a3y (Bu LB):=by unfold Pm.a3t;rw[hone];rfl
       rw[hon,<-hfo]at HR3;have N1:=hid (λW=>Gx LB[0] 10 9 W hz0 (by omega) (by omega));have hl0':((LB.length:Int)==0)=false:=by rw[Ar];omega
       clear HR2 hd0 hfo hon hone;generalize Pm.a3f 10 9 LB[0].data.toList=nn at *
       by_cases hmo:most<nn
       ·have HM:Hid (M=(4,false,0)):=by unfold Hid;rw[HR3.out,if_pos hmo]
        clear HR3;go_wp2_with (go_at_call 130;refine(N1.out _).mono ?_;rintro e w5 ⟨rfl,hb5⟩)
        go_ret2
        exact⟨Dt (by rw[HM.out];rfl) (by rw[HM.out]),Bc hB4 hb5⟩
       ·have HM:Hid (M=(0,false,nn)):=by unfold Hid;rw[HR3.out,if_neg hmo]
        clear HR3;go_wp2_with (go_at_call 130;refine(N1.out _).mono ?_;rintro e w5 ⟨rfl,hb5⟩)
        go_ret2
        exact⟨Dt (by rw[HM.out];rfl) (by rw[HM.out]),Bc hB4 hb5⟩
 ·have HM:Hid (M=(3,false,0)):=by unfold Hid;rw[HR.out,if_pos hh]
  have hh2:((hn:Int) != 1)=true:=by rw[bne_iff_ne];omega
  clear HR;go_wp2
  go_ret2
  exact⟨Dt (by rw[HM.out];rfl) (by rw[HM.out]),hB3⟩
theorem Oe(hd bd:Int)(w:World):
  Calls prog 136 #[.agg #[.int .i64 hd,.int .i64 bd]] w λe w'=>e=.returned (.bool (decide (32<=hd/\hd<=500/\0<=bd/\bd<=200)))/\Bw w w':=by
 go_enter func136,ntmps136;go_wp2
 all_goals
  go_ret;refine⟨?_,bA _ _⟩
  try congr 2
  try simp
  try simp[*]
  try (intros;omega)
theorem a6U(hd:Nat)(bd:Int)(s:By)(w:World)(hs:s.size<=281474976710656)(hh0:32<=hd)(hh:hd<=500)(hb0:0<=bd)(hb1:bd<=200):
  Calls prog 80 #[.agg #[.int .i64 hd,.int .i64 bd],.string s] w λr w'=>
   (∃v,r=.returned (.tuple #[.agg #[.string ⟨(Cc s.data.toList hd bd).2.1.toArray⟩,.string ⟨(Cc s.data.toList hd bd).2.2.1.toArray⟩,v,.string ⟨(Cc s.data.toList hd bd).2.2.2.2.1.toArray⟩],.int .i64 (Cc s.data.toList hd bd).2.2.2.2.2,.int .i64 (Cc s.data.toList hd bd).1])/\w'.ownsRow w.heap.size 131 2 v (Cc s.data.toList hd bd).2.2.2.1.length (Ih (Cc s.data.toList hd bd).2.2.2.1))/\Bw w w':=by
 have HHD:=hid (λW=>b1U s hd W (by omega) hh);have hlen:=Lx (hd+1) true s.data.toList hd [] [] [] 0;have hfld:=hid (Jq (hd+1) true s.data.toList hd [] [] [] 0);generalize hF:Cc s.data.toList hd bd=FR;unfold Cc at hF;generalize Pm.a1o (hd+1) true s.data.toList hd [] [] [] 0=H at *
 have HF:=hid hF;clear hF;have hdec:decide (32<=(hd:Int)/\(hd:Int)<=500/\0<=bd/\bd<=200)=true:=Ak ⟨by omega,by omega,hb0,hb1⟩;go_enter func80,ntmps80;go_wp2_with fail;refine(Oe _ _ _).mono ?_;rintro e w2 ⟨rfl,hb2⟩;rw[hdec];have hA:Bw w ((w.alloc (.cells #[.int .i64 hd,.int .i64 bd] 40)).alloc (.cells #[.string ⟨#[]⟩,.string ⟨#[]⟩,.slice none 0 0,.string ⟨#[]⟩] 47)):=(bA _ _).alloc (by simp) _;have hB2:=Bc hA hb2;have q1:RqB (w.heap.size+1) [] [] (.slice none 0 0) ((w.alloc (.cells #[.int .i64 hd,.int .i64 bd] 40)).alloc (.cells #[.string ⟨#[]⟩,.string ⟨#[]⟩,.slice none 0 0,.string ⟨#[]⟩] 47)):=by
  have:=Ag (w.alloc (.cells #[.int .i64 hd,.int .i64 bd] 40)) (.cells #[.string ⟨#[]⟩,.string ⟨#[]⟩,.slice none 0 0,.string ⟨#[]⟩] 47);rw[show(w.alloc (.cells #[.int .i64 hd,.int .i64 bd] 40)).heap.size=w.heap.size+1 from by simp]at this;exact this
 have q2:=q1.below hb2;have c0:=Aa hb2 (a:=⟨w.heap.size,0,none⟩) (v:=.int .i64 hd) (by simp);have c1:=Aa hb2 (a:=⟨w.heap.size,1,none⟩) (v:=.int .i64 bd) (by simp);have sz2:w.heap.size+2<=w2.heap.size:=by have:=hb2.size;simp at this;omega
 clear q1 hA hb2;go_wp2_with fail;refine(HHD.out _).mono ?_;rintro e w3 ⟨⟨v,rfl,ow3⟩,hb3⟩;have hB3:=Bc hB2 hb3;have q3:=q2.below hb3;have c0':=Aa hb3 c0;have c1':=Aa hb3 c1;have sz3:w.heap.size+2<=w3.heap.size:=Aj sz2 hb3.size;have ob0:=Hh ow3 (g:=w.heap.size+1) (by omega);have ob1:=Sj ow3 (g:=w3.heap.size) (Ac _);have ow3:=Bt ow3 (B':=w.heap.size) (by omega);obtain⟨va,vk,vc,rfl⟩:=Lv ow3;clear HHD hB2 q2 c0 c1 hb3 sz2;have szr:w.heap.size+1<w3.heap.size:=by omega
 have szl:w.heap.size<w3.heap.size:=by omega
 obtain⟨u0,u1,u2,u3⟩:=q3.cells;have y0:=q3.free 0;have y1:=q3.free 1;have y2:=q3.free 2;have y3:=q3.free 3;by_cases he:H.1=0
 ·obtain⟨n1,n2⟩:=hlen he;obtain⟨f1,f2⟩:=hfld.out he;obtain⟨fa,fc,hfv,hfl⟩:=Rl ow3;rw[if_neg (by simp[he])]at HF;rw[he];have f2':∀x∈Bq H.2.2.2.1,x.1.size<=maxLen/\x.2.size<=maxLen:=by
   intro x hx;unfold Bq at hx;rw[E5z]at hx;obtain⟨y,hy,rfl⟩:=hx;rcases f2 y hy with h|h
   ·exact absurd h (by simp)
   ·unfold maxLen;simp[ByteArray.size];omega
  have HG:=hid (λm t y W hW=>b1V (Bq H.2.2.2.1) m t y fa fc bd W hW (by rw[Fw];simp at f1;omega) hb0 (λx hx=>(f2' x hx).1) (λx hx=>(f2' x hx).2));rw[hfv]at ow3 ob0 ob1 ⊢;have OB:=hid (And.intro ob0 ob1);have hLn:=hid (Sn (fs:=Bq H.2.2.2.1) (bd:=bd));have n3:H.2.2.2.2<=s.size:=by simp at n2;exact n2
  clear hfv f2' f2 hfld hlen ob0 ob1 u0 u1 u2 u3 y0 y1 y2 y3;generalize Cr (Bq H.2.2.2.1) bd=M at *
  have hA4:=bA w3 (.cells #[.string ⟨H.2.1.toArray⟩,.string ⟨H.2.2.1.toArray⟩,.slice fa (Bq H.2.2.2.1).length fc,.string ⟨#[]⟩] 47);have qb4:RqB w3.heap.size H.2.1 H.2.2.1 (.slice fa (Bq H.2.2.2.1).length fc) (w3.alloc (.cells #[.string ⟨H.2.1.toArray⟩,.string ⟨H.2.2.1.toArray⟩,.slice fa (Bq H.2.2.2.1).length fc,.string ⟨#[]⟩] 47)):=Ag w3 _;have q4:=q3.below hA4;have ow4:=Be ow3 hA4;have hf4:=hfl.below hA4;have hB4:=Bc hB3 hA4;have c04:=Aa hA4 c0';have c14:=Aa hA4 c1';go_wp2_with fail;clear hA4 q3 ow3 hfl hB3 c0' c1';have sz4:w3.heap.size<(w3.alloc (.cells #[.string ⟨H.2.1.toArray⟩,.string ⟨H.2.2.1.toArray⟩,.slice fa (Bq H.2.2.2.1).length fc,.string ⟨#[]⟩] 47)).heap.size:=by simp
  generalize w3.alloc (.cells #[.string ⟨H.2.1.toArray⟩,.string ⟨H.2.2.1.toArray⟩,.slice fa (Bq H.2.2.2.1).length fc,.string ⟨#[]⟩] 47)=w4 at *
  generalize w3.heap.size=gq at *
  refine(HG.out _ _ _ _ hf4).mono ?_;rintro e w5 ⟨rfl,hb5⟩;have q5:=q4.below hb5;have qb5:=qb4.below hb5;have ow5:=Be ow4 hb5;have hB5:=Bc hB4 hb5;have c05:=Aa hb5 c04;have c15:=Aa hb5 c14;have sz5:gq<w5.heap.size:=Af sz4 hb5.size;have szr5:w.heap.size+1<w5.heap.size:=by omega
  clear HG hf4 q4 qb4 ow4 hB4 c04 c14 hb5 sz4;obtain⟨u0,u1,u2,u3⟩:=q5.cells;have y0:=q5.free 0;have y1:=q5.free 1;have y2:=q5.free 2;have y3:=q5.free 3;obtain⟨e1,ch,ln⟩:=M;by_cases hE:e1=0
  ·subst hE;rw[if_neg (by simp)]at HF;obtain⟨l0,l1⟩:=hLn.out rfl;obtain⟨n,rfl⟩:∃n:Nat,ln=n:=⟨ln.toNat,(Int.toNat_of_nonneg l0).symm⟩;simp only[Int.toNat_natCast]at HF
   cases ch
   ·have hbn:a9F (0,false,(n:Int))=n:=rfl;rw[hbn];have hbl:(s.data.toList.drop H.2.2.2.2).length=s.size-H.2.2.2.2:=by simp
    have hbS:Dl (s.data.toList.drop H.2.2.2.2) hd bd false n=if s.size-H.2.2.2.2<n then(2,[],0)else(0,(s.data.toList.drop H.2.2.2.2).take n,n):=by unfold Dl;rw[if_neg (by simp),hbl]
    rw[hbS]at HF;clear hbn hbl hbS;generalize H.2.2.2.2=at_ at *
    by_cases hmo:s.size-at_<n
    ·rw[if_pos hmo,if_pos (by simp)]at HF;have BL:=hid hB5;clear q5 qb5 ow5 hB5;go_wp2;refine Ae (v:=.tuple #[.agg #[.string ⟨#[]⟩,.string ⟨#[]⟩,.slice none 0 0,.string ⟨#[]⟩],.int .i64 0,.int .i64 2]) (by simp[results,results80,go_sem,u0,u1,u2,u3]) rfl ?_;rw[<-HF.out];exact⟨⟨_,rfl,Am _ _ _ _⟩,(((BL.out.setCell (Al _) _).setCell (Al _) _).setCell (Al _) _).setCell (Al _) _⟩
    ·rw[if_neg hmo,if_neg (by simp)]at HF;have hex:(s.extract at_ (at_+n)).data.toList=(s.data.toList.drop at_).take n:=by rw[Lib.extract_data,show at_+n-at_=n from by omega]
     obtain⟨z0,z1,z2,z3⟩:=qb5.cells;have x3:=qb5.free 3;have hgw:gq≠w.heap.size+1:=by omega
     have hwg:w.heap.size+1≠gq:=by omega
     have BL:=hid hB5;have OW:=hid ow5;have HEX:=hid (Rz hex);clear q5 qb5 ow5 hB5 hex;go_wp2;refine Ae (v:=.tuple #[.agg #[.string ⟨H.2.1.toArray⟩,.string ⟨H.2.2.1.toArray⟩,.slice fa (Bq H.2.2.2.1).length fc,.string (s.extract at_ (at_+n))],.int .i64 ((at_:Int)+(n:Int)),.int .i64 0]) (by simp[results,results80,go_sem,u0,u1,u2,u3]) rfl ?_;rw[<-HF.out];refine⟨⟨.slice fa (Bq H.2.2.2.1).length fc,?_,?_⟩,?_⟩
     rotate_left
     ·exact Bv (Bv (Bv (Bv (Bv OW.out OB.out.2 3 _) OB.out.1 0 _) OB.out.1 1 _) OB.out.1 2 _) OB.out.1 3 _
     ·exact(((((BL.out.setCell (by show w.heap.size<=gq;omega) _).setCell (Al _) _).setCell (Al _) _).setCell (Al _) _).setCell (Al _) _)
     ·rw[HEX.out];rfl
   ·have hbn:a9F (0,true,(n:Int))=-1:=rfl;rw[hbn];have hbl:(s.data.toList.drop H.2.2.2.2).length=s.size-H.2.2.2.2:=by simp
    have hbS:Dl (s.data.toList.drop H.2.2.2.2) hd bd true n=Cx (s.size-H.2.2.2.2+1) (s.data.toList.drop H.2.2.2.2) hd bd [] 0:=by unfold Dl;rw[if_pos rfl,hbl]
    rw[hbS,b6L]at HF;have HC:=hid (λW=>a2I s hd hs hh (s.size-H.2.2.2.2+1) H.2.2.2.2 bd W n3 (by omega) hb0 hb1);clear hbn hbl hbS;generalize H.2.2.2.2=at_ at *
    generalize Cw (s.size-at_+1) (s.data.toList.drop at_) hd bd=R at *
    go_wp2_with fail;refine(HC.out _).mono ?_;rintro e w6 ⟨rfl,hb6⟩;have q6:=q5.below hb6;have qb6:=qb5.below hb6;have ow6:=Be ow5 hb6;have hB6:=Bc hB5 hb6;have sz6:gq<w6.heap.size:=Af sz5 hb6.size;have szr6:w.heap.size+1<w6.heap.size:=by omega
    clear HC q5 qb5 ow5 hB5 hb6 u0 u1 u2 u3 y0 y1 y2 y3;obtain⟨u0,u1,u2,u3⟩:=q6.cells;have y0:=q6.free 0;have y1:=q6.free 1;have y2:=q6.free 2;have y3:=q6.free 3;generalize hce:Od at_ R=ce;have HCE:=hid hce;clear hce;by_cases hr:R.1=0
    ·have hin:(if R.1≠0 then((R.1,[],0):Int×L8×Nat)else(0,R.2.1,R.2.2))=(0,R.2.1,R.2.2):=if_neg (by simp[hr]);rw[hin,if_neg (by simp)]at HF;clear hin;rw[hr];obtain⟨z0,z1,z2,z3⟩:=qb6.cells;have x3:=qb6.free 3;have hgw:gq≠w.heap.size+1:=by omega
     have hwg:w.heap.size+1≠gq:=by omega
     have BL:=hid hB6;have OW:=hid ow6;clear q6 qb6 ow6 hB6;go_wp2;refine Ae (v:=.tuple #[.agg #[.string ⟨H.2.1.toArray⟩,.string ⟨H.2.2.1.toArray⟩,.slice fa (Bq H.2.2.2.1).length fc,.string ⟨R.2.1.toArray⟩],.int .i64 ce,.int .i64 0]) (by simp[results,results80,go_sem,u0,u1,u2,u3]) rfl ?_;rw[<-HF.out];refine⟨⟨.slice fa (Bq H.2.2.2.1).length fc,?_,?_⟩,?_⟩
     rotate_left
     ·exact Bv (Bv (Bv (Bv (Bv OW.out OB.out.2 3 _) OB.out.1 0 _) OB.out.1 1 _) OB.out.1 2 _) OB.out.1 3 _
     ·exact(((((BL.out.setCell (by show w.heap.size<=gq;omega) _).setCell (Al _) _).setCell (Al _) _).setCell (Al _) _).setCell (Al _) _)
     ·rw[<-HCE.out];unfold Od;rw[if_pos hr]
    ·have hin:(if R.1≠0 then((R.1,[],0):Int×L8×Nat)else(0,R.2.1,R.2.2))=(R.1,[],0):=if_pos hr;rw[hin,if_pos (by simpa using hr)]at HF;clear hin;have hne:(R.1 != 0)=true:=by rw[bne_iff_ne];exact hr
     have BL:=hid hB6;clear q6 qb6 ow6 hB6;go_wp2;refine Ae (v:=.tuple #[.agg #[.string ⟨#[]⟩,.string ⟨#[]⟩,.slice none 0 0,.string ⟨#[]⟩],.int .i64 0,.int .i64 R.1]) (by simp[results,results80,go_sem,u0,u1,u2,u3]) rfl ?_;rw[<-HF.out];exact⟨⟨_,rfl,Am _ _ _ _⟩,(((BL.out.setCell (Al _) _).setCell (Al _) _).setCell (Al _) _).setCell (Al _) _⟩
  ·rw[if_pos hE]at HF;have hne:(e1 != 0)=true:=by rw[bne_iff_ne];exact hE
   have BL:=hid hB5;generalize a9F (e1,ch,ln)=bn;clear q5 qb5 ow5 hB5;go_wp2;refine Ae (v:=.tuple #[.agg #[.string ⟨#[]⟩,.string ⟨#[]⟩,.slice none 0 0,.string ⟨#[]⟩],.int .i64 0,.int .i64 e1]) (by simp[results,results80,go_sem,u0,u1,u2,u3]) rfl ?_;rw[<-HF.out];exact⟨⟨_,rfl,Am _ _ _ _⟩,(((BL.out.setCell (Al _) _).setCell (Al _) _).setCell (Al _) _).setCell (Al _) _⟩
 ·rw[if_pos he]at HF;have hne:(H.1 != 0)=true:=by rw[bne_iff_ne];exact he
  have BL:=hid hB3;clear hlen hfld q3 ow3 hB3 ob0 ob1;go_wp2;refine Ae (v:=.tuple #[.agg #[.string ⟨#[]⟩,.string ⟨#[]⟩,.slice none 0 0,.string ⟨#[]⟩],.int .i64 0,.int .i64 H.1]) (by simp[results,results80,go_sem,u0,u1,u2,u3,szr]) rfl ?_;rw[<-HF.out];refine⟨⟨_,rfl,Am _ _ _ _⟩,?_⟩;exact((((BL.out.setCell (Al _) _).setCell (Al _) _).setCell (Al _) _).setCell (Al _) _).alloc (by simp;omega) _
theorem a6V(hd bd:Int)(s:By)(w:World)(hr:¬(32<=hd/\hd<=500/\0<=bd/\bd<=200)):
  Calls prog 80 #[.agg #[.int .i64 hd,.int .i64 bd],.string s] w λr w'=>
   r=.returned (.tuple #[.agg #[.string ⟨#[]⟩,.string ⟨#[]⟩,.slice none 0 0,.string ⟨#[]⟩],.int .i64 0,.int .i64 1])/\Bw w w':=by
 have hdec:=Ao hr;clear hr;have hA:Bw w ((w.alloc (.cells #[.int .i64 hd,.int .i64 bd] 40)).alloc (.cells #[.string ⟨#[]⟩,.string ⟨#[]⟩,.slice none 0 0,.string ⟨#[]⟩] 47)):=(bA _ _).alloc (by simp) _;have q1:RqB (w.heap.size+1) [] [] (.slice none 0 0) ((w.alloc (.cells #[.int .i64 hd,.int .i64 bd] 40)).alloc (.cells #[.string ⟨#[]⟩,.string ⟨#[]⟩,.slice none 0 0,.string ⟨#[]⟩] 47)):=by
  have:=Ag (w.alloc (.cells #[.int .i64 hd,.int .i64 bd] 40)) (.cells #[.string ⟨#[]⟩,.string ⟨#[]⟩,.slice none 0 0,.string ⟨#[]⟩] 47);rw[show(w.alloc (.cells #[.int .i64 hd,.int .i64 bd] 40)).heap.size=w.heap.size+1 from by simp]at this;exact this
 go_enter func80,ntmps80;go_wp2_with fail;refine(Oe _ _ _).mono ?_;rintro e w2 ⟨rfl,hb2⟩;rw[hdec];have q2:=q1.below hb2;obtain⟨u0,u1,u2,u3⟩:=q2.cells;have y0:=q2.free 0;have y1:=q2.free 1;have y2:=q2.free 2;have y3:=q2.free 3;have BL:=hid (Bc hA hb2);clear hA hb2 q1 q2;go_wp2;refine Ae (v:=.tuple #[.agg #[.string ⟨#[]⟩,.string ⟨#[]⟩,.slice none 0 0,.string ⟨#[]⟩],.int .i64 0,.int .i64 1]) (by simp[results,results80,go_sem,u0,u1,u2,u3]) rfl ?_;exact⟨rfl,(((BL.out.setCell (Al _) _).setCell (Al _) _).setCell (Al _) _).setCell (Al _) _⟩
section
variable{P:Program}(w:World)
end
end Go.Proofs.YtbiggccolpchcaaGreatDoor
