/- Joined. -/
import Derived.Test.YtbiggccolpchcaaGreatDoorJoin05
set_option maxRecDepth 100000
set_option maxHeartbeats 1000000
namespace Go.Proofs.YtbiggccolpchcaaGreatDoor
open Go.RowKit _root_.Go.Proofs.Tryz
def Cx:Nat->L8->Nat->Int->L8->Nat->Int×L8×Nat
  |0,_,_,_,_,_=>(2,[],0)
  |f+1,l,hd,bd,body,u=>
    if Dr l≠0 then(Dr l,[],0)
    else if 0<Ci l then
      (if(Br (l.drop (Pm.a2g l 10 3).2.2) (Ci l).toNat (bd-body.length)).1≠0 then((Br (l.drop (Pm.a2g l 10 3).2.2) (Ci l).toNat (bd-body.length)).1,[],0)
       else Cx f (l.drop ((Pm.a2g l 10 3).2.2+(Br (l.drop (Pm.a2g l 10 3).2.2) (Ci l).toNat (bd-body.length)).2.2)) hd bd (body++(Br (l.drop (Pm.a2g l 10 3).2.2) (Ci l).toNat (bd-body.length)).2.1) (u+(Pm.a2g l 10 3).2.2+(Br (l.drop (Pm.a2g l 10 3).2.2) (Ci l).toNat (bd-body.length)).2.2))
    else if(Pm.a4t (hd+1) (l.drop (Pm.a2g l 10 3).2.2) hd 0).1≠0 then((Pm.a4t (hd+1) (l.drop (Pm.a2g l 10 3).2.2) hd 0).1,[],0)
    else(0,body,u+(Pm.a2g l 10 3).2.2+(Pm.a4t (hd+1) (l.drop (Pm.a2g l 10 3).2.2) hd 0).2)
theorem Dw(f:Nat)(l:L8)(hd:Nat)(bd:Int)(body:L8)(u:Nat):Cx (f+1) l hd bd body u =
    if Dr l≠0 then(Dr l,[],0)
    else if 0<Ci l then
      (if(Br (l.drop (Pm.a2g l 10 3).2.2) (Ci l).toNat (bd-body.length)).1≠0 then((Br (l.drop (Pm.a2g l 10 3).2.2) (Ci l).toNat (bd-body.length)).1,[],0)
       else Cx f (l.drop ((Pm.a2g l 10 3).2.2+(Br (l.drop (Pm.a2g l 10 3).2.2) (Ci l).toNat (bd-body.length)).2.2)) hd bd (body++(Br (l.drop (Pm.a2g l 10 3).2.2) (Ci l).toNat (bd-body.length)).2.1) (u+(Pm.a2g l 10 3).2.2+(Br (l.drop (Pm.a2g l 10 3).2.2) (Ci l).toNat (bd-body.length)).2.2))
    else if(Pm.a4t (hd+1) (l.drop (Pm.a2g l 10 3).2.2) hd 0).1≠0 then((Pm.a4t (hd+1) (l.drop (Pm.a2g l 10 3).2.2) hd 0).1,[],0)
    else(0,body,u+(Pm.a2g l 10 3).2.2+(Pm.a4t (hd+1) (l.drop (Pm.a2g l 10 3).2.2) hd 0).2):=rfl
theorem Nj{w w':World}{T e:TypeId}{B g b:Nat}{bs:List Value}(h:Lib.IsBuilder T e B g bs w)(hk:Kp b w w')(hb:b<B):Lib.IsBuilder T e B g bs w':=by
 rcases h with⟨hB,v,hg,ho,hn⟩|⟨hB,v,hg,ho,hn⟩
 ·exact .inl ⟨hB,v,hk.block hg (by omega),hk.owns ho hb,hn⟩
 ·exact .inr ⟨hB,v,hk.block hg (by omega),hk.owns ho hb,hn⟩
theorem Hy(l:L8)(lim:Nat)(long:Int):(Pm.a2g l lim long).2.1.length<=lim/\(Pm.a2g l lim long).2.2<=lim/\(Pm.a2g l lim long).2.2<=l.length:=by
 unfold Pm.a2g
 split
 ·simp
 ·rename_i h1
  have h3:=congrArg List.length (Pm.a0c 10 (l.take lim));rw[A0z,B0z]at h3;have h4:1<=(Pm.behind 10 (l.take lim)).length:=by
   cases hb:Pm.behind 10 (l.take lim)with
   |nil=>rw[hb]at h1;simp at h1
   |cons=>simp
  split
  ·have h5:(Lib.trimSuffix (Pm.ahead 10 (l.take lim)) [13]).length<=(Pm.ahead 10 (l.take lim)).length:=by
    unfold Lib.trimSuffix;by_cases hq:Lib.hasSuffix (Pm.ahead 10 (l.take lim)) [13]=true
    ·rw[if_pos hq,B0z];exact Nat.min_le_right _ _
    ·rw[if_neg hq];exact Ac _
   exact⟨Aj h5 (by omega),(by omega:(Pm.ahead 10 (l.take lim)).length+1<=lim),(by omega:(Pm.ahead 10 (l.take lim)).length+1<=l.length)⟩
  ·simp
theorem b4G(l:L8):0<=Ci l/\Ci l<68719476736:=by
 unfold Ci;split
 ·unfold Pm.a3h;split
  ·rename_i h
   simp only[Pm.a3i,A3z,decide_eq_true_eq]at h;exact Pm.a3p 16 _ (by omega) (by omega) h.2 (by omega)
  ·omega
 ·omega
theorem Zw(l:L8)(n:Nat)(room:Int)(h:(Br l n room).1=0):((Br l n room).2.1.length:Int)<=room/\(Br l n room).2.2=n+2:=by
 unfold Br at h ⊢;by_cases h1:room<n
 ·rw[if_pos h1]at h;simp at h
 ·rw[if_neg h1]at h ⊢;by_cases h2:l.length<n+2
  ·rw[if_pos h2]at h;simp at h
  ·rw[if_neg h2]at h ⊢;by_cases h3:Lib.hasSuffix (l.take (n+2)) [13,10]=true
   ·rw[if_pos h3];have:(Lib.trimSuffix (l.take (n+2)) [13,10]).length<=n:=by
     unfold Lib.trimSuffix;rw[if_pos h3,B0z,B0z];have:([13,10]:L8).length=2:=rfl;omega
    exact⟨(by omega:((Lib.trimSuffix (l.take (n+2)) [13,10]).length:Int)<=room),rfl⟩
   ·rw[if_neg h3]at h;simp at h
theorem Jp(l:L8)(n:Nat)(room:Int):(Br l n room).2.2<=l.length/\(Br l n room).2.1.length<=(Br l n room).2.2:=by
 unfold Br
 split
 ·simp
 ·split
  ·simp
  ·rename_i h
   split
   ·refine⟨by simp only;omega,?_⟩;unfold Lib.trimSuffix;split
    ·simp only[B0z];omega
    ·simp only[B0z];omega
   ·simp only[C0z];omega
theorem b9D(B g:Nat)(body:L8)(w:World)(h:Lib.IsBuilder 265 5 B g (Lib.byteCells body) w):
  Calls prog 300 #[.pointer (some ⟨g,0,none⟩)] w λe w'=>e=.returned (.int .i64 body.length)/\w'=w:=by
 have:=Tryz.Builder_Len B g (Lib.byteCells body) w h;rw[Ls]at this;exact this
theorem Cy.low{b:Nat}{hd bd:Int}{s:By}{k B:Nat}{w w':World}(h:Cy b hd bd s k w)(hb:Below B w w')(hl:b<B):Cy b hd bd s k w':=by
 have:=hb.block b hl;unfold Cy at *;rw[this];exact h
theorem Kp.low{b:Nat}{w w3 w5:World}(h:Kp b w w3)(hb:Below w.heap.size w3 w5):Kp b w w5:=
 ⟨hb.os.trans h.1,hb.tape.trans h.2.1,hb.output.trans h.2.2.1,Aj h.2.2.2.1 hb.size,λk hk hkb=>(hb.block k hk).trans (h.2.2.2.2 k hk hkb)⟩
structure TInv(w:World)(b hd:Nat)(bd:Int)(s:By)(k:Nat)(T:Int×Nat)(body:L8)(g u:Nat)(wr:World):Prop where
 u1:u<=hd
 g1:hd-u+1<=g
 k1:k+u<=s.size
 eq:T=Pm.a4t g (s.data.toList.drop (k+u)) (hd-u) u
 rd:Cy b hd bd s (k+u) wr
 bu:Lib.IsBuilder 265 5 w.heap.size w.heap.size (Lib.byteCells body) wr
 sz:w.heap.size+1<=wr.heap.size
 kp:Kp b w wr
structure CInv(w:World)(b hd:Nat)(bd:Int)(s:By)(k:Nat)(g u:Nat)(body:L8)(wr:World):Prop where
 g1:s.size-(k+u)+1<=g
 k1:k+u<=s.size
 b1:body.length<=u
 b2:(body.length:Int)<=bd
 eq:Cx (s.size-k+1) (s.data.toList.drop k) hd bd [] 0=Cx g (s.data.toList.drop (k+u)) hd bd body u
 rd:Cy b hd bd s (k+u) wr
 bu:Lib.IsBuilder 265 5 w.heap.size w.heap.size (Lib.byteCells body) wr
 sz:w.heap.size+1<=wr.heap.size
 kp:Kp b w wr
theorem a4Y(b:Nat)(hd:Nat)(bd:Int)(s:By)(k:Nat)(w:World)(hr:Cy b hd bd s k w)(hs:s.size<=1152921504606846976)(hk:k<=s.size)(hh:hd<=500)(hb0:0<=bd)(hb1:bd<=200):
  Calls prog 242 #[.pointer (some ⟨b,0,none⟩)] w λr w'=>
   r=.returned (.tuple #[.string ⟨(Cx (s.size-k+1) (s.data.toList.drop k) hd bd [] 0).2.1.toArray⟩,.int .i64 (Cx (s.size-k+1) (s.data.toList.drop k) hd bd [] 0).1]) /\
   (∃k',Cy b hd bd s k' w'/\((Cx (s.size-k+1) (s.data.toList.drop k) hd bd [] 0).1=0->k'=k+(Cx (s.size-k+1) (s.data.toList.drop k) hd bd [] 0).2.2))/\Kp b w w':=by
 have hbl:=hr.lt;have HR:Hid (Cy b hd bd s k w):=hr;clear hr;generalize hH:Cx (s.size-k+1) (s.data.toList.drop k) hd bd [] 0=H;have HH:Hid (Cx (s.size-k+1) (s.data.toList.drop k) hd bd [] 0=H):=hH;clear hH;go_enter func242,ntmps242;go_wp2
 go_step3
 go_wp2
 go_step3
 go_wp2
 go_loopg [5,6,7,8,9,10,11,12,13] (s.size-k+1) (λg _ _ _ _ _ _ _ _ _ wr=>∃(u:Nat) (body:L8),CInv w b hd bd s k g u body wr)
 case atStart=>
  have hB:=bA w (.cells #[.pointer none,.slice none 0 0] 265);exact⟨0,[],{g1:=by omega,k1:=by omega,b1:=by simp,b2:=by simpa using hb0,eq:=rfl,rd:=HR.out.below hB,bu:=Lib.fresh_isBuilder _ _ w,sz:=by simp,kp:=Kp.of hB}⟩
 case round=>
  obtain⟨u,body,I⟩:=hrel
  cases gk with
  |zero=>exact absurd I.g1 (by omega)
  |succ f=>
   have hll:=Hy (s.data.toList.drop (k+u)) 10 3;have hsl:(s.data.toList.drop (k+u)).length=s.size-(k+u):=by simp
   have HS:=hid (b4D b hd bd s (k+u) wr I.rd hs I.k1 (by have:=hll.1;unfold maxLen;omega));have HE:Hid _:=HH.out.symm.trans (I.eq.trans (Dw f _ _ _ _ _));have hsb:=b4G (s.data.toList.drop (k+u));go_wp2_with fail
   go_step3
   go_wp2_with fail;refine HS.out.mono ?_;rintro e w1 ⟨rfl,hr1,hk1⟩;have bu1:=Nj I.bu hk1 hbl;have kp1:=I.kp.trans hk1;have sz1:w.heap.size+1<=w1.heap.size:=Aj I.sz hk1.2.2.2.1;have i1:=I.g1;have i2:=I.k1;have i3:=I.b1;have i4:=I.b2;obtain⟨_,j2,j3⟩:=hll;rw[hsl]at j3;clear I HS hk1 hsl;generalize hu1:(Pm.a2g (s.data.toList.drop (k+u)) 10 3).2.2=u1 at *
   clear hu1;generalize Dr (s.data.toList.drop (k+u))=er at *
   generalize hsn:Ci (s.data.toList.drop (k+u))=sn at *
   clear hsn;by_cases he:er=0
   ·rw[if_neg (by simp[he])]at HE;subst he;by_cases hp:0<sn
    ·rw[if_pos hp]at HE;obtain⟨n,rfl⟩:∃n:Nat,sn=(n:Int):=⟨sn.toNat,by omega⟩;rw[Int.toNat_natCast]at HE;obtain⟨c0,c1,c2,c3⟩:=hr1.cell;have hdd:(s.data.toList.drop (k+u)).drop u1=s.data.toList.drop (k+u+u1):=by rw[E2z]
     rw[hdd]at HE;clear hdd;have hcl:=Jp (s.data.toList.drop (k+u+u1)) n (bd-body.length);have hcr:=hid (Zw (s.data.toList.drop (k+u+u1)) n (bd-body.length));have HC:=hid (λW hR=>b0J b hd bd s (k+u+u1) n (bd-body.length) W hR (by unfold maxLen;omega) (by omega) (by omega));rw[A6z,show s.data.toList.length=s.size from by simp]at hcl;go_wp2_with fail;have hw:IntKind.i64.wrap (bd-(body.length:Int))=bd-(body.length:Int):=by simp[IntKind.wrap,IntKind.bits,IntKind.signed];omega
     go_region_with (first|(go_at_call 300;refine(b9D w.heap.size w.heap.size body _ ?_).mono ?_;exact bu1;rintro e w2 ⟨rfl,rfl⟩)|(go_at_call 299;refine(HC.out _ ?_).mono ?_;exact hr1;rintro e w3 ⟨rfl,hr3,hk3⟩))
     all_goals
      have bu3:=Nj bu1 (show Kp b w1 w3 from hk3) hbl;have kp3:=kp1.trans (show Kp b w1 w3 from hk3);have sz3:w.heap.size+1<=w3.heap.size:=Aj sz1 (show Kp b w1 w3 from hk3).2.2.2.1;clear hk3 bu1 kp1 hr1 sz1 HC c0 c1 c2 c3 hw;generalize Br (s.data.toList.drop (k+u+u1)) n (bd-body.length)=c at *
      by_cases hc:c.1=0
      ·rw[if_neg (by simp[hc])]at HE;obtain⟨hcr2,hcr3⟩:=hcr.out hc;have HU:Hid (c.2.2=n+2):=hcr3;clear hcr3;have hcs:(⟨c.2.1.toArray⟩:By).size=c.2.1.length:=by simp[ByteArray.size]
       have hcs2:(Lib.byteCells body).length+(⟨c.2.1.toArray⟩:By).size<=140737488355328:=by rw[Ls,hcs];omega
       go_wp2_with (go_at_call 193;refine(Tryz.Builder_WriteString _ _ _ _ _ bu3 hcs2 (by omega)).mono ?_;rintro e w5 ⟨rfl,hbu5,hb5⟩);rw[Exit.noGoto_exit];go_wp2
       go_roundg f
       case measure=>omega
       case rel=>
        refine⟨u+u1+c.2.2,body++c.2.1,?_⟩;refine{g1:=?_,k1:=by omega,b1:=by simp;omega,b2:=by simp;omega,eq:=?_,rd:=?_,bu:=.inr ?_,sz:=?_,kp:=?_}
        ·have:=HU.out;omega
        ·rw[HH.out,HE.out,E2z,show k+u+(u1+c.2.2)=k+(u+u1+c.2.2)from by omega]
        ·rw[show k+(u+u1+c.2.2)=k+u+u1+c.2.2 from by omega];exact hr3.low hb5 hbl
        ·rw[Lib.byteCells_append];exact hbu5
        ·have:=hb5.size;omega
        ·exact kp3.low hb5
      ·rw[if_pos hc]at HE;have hne:(c.1 != 0)=true:=by rw[bne_iff_ne];exact hc
       go_wp2;rw[Exit.noGoto_ret];go_wp2;rw[Exit.noGoto_ret]
       go_ret2
       exact⟨Cn (by rw[HE.out]) (by rw[HE.out]),⟨_,hr3,λh=>absurd (by rw[HE.out]at h;exact h) hc⟩,kp3⟩
    ·rw[if_neg hp]at HE;obtain rfl:sn=0:=by omega
     have hdd:(s.data.toList.drop (k+u)).drop u1=s.data.toList.drop (k+u+u1):=by rw[E2z]
     rw[hdd]at HE;clear hdd hp;obtain⟨c0,c1,c2,c3⟩:=hr1.cell;generalize hT:Pm.a4t (hd+1) (s.data.toList.drop (k+u+u1)) hd 0=T at *
     have HT:=hid hT;clear hT;go_wp2
     go_quiet (fail)
     go_wp2
     go_step3
     go_wp2;have hdn:Bw w1 (w1.drewN nq):=below_drewN (Ad _ _) _
     go_loopg [10,11,12,13] (hd+1) (λg _ _ _ _ wy=>∃v:Nat,TInv w b hd bd s (k+u+u1) T body g v wy)
     case atStart=>
      exact⟨0,{u1:=by omega,g1:=by omega,k1:=by omega,eq:=HT.out.symm,rd:=hr1.below hdn,bu:=bu1,sz:=sz1,kp:=kp1.trans (Kp.of hdn)}⟩
     case round=>
      obtain⟨v,J⟩:=hrel
      cases gk with
      |zero=>exact absurd J.g1 (by omega)
      |succ f2=>
       have hl:=Sf b hd bd s (k+u+u1+v) (k+u+u1+hd) 5 wr J.rd (by unfold maxLen;omega) J.k1 (by have:=J.u1;omega) (by have:=J.k1;omega);rw[show k+u+u1+hd-(k+u+u1+v)=hd-v from by omega,show((k+u+u1+hd:Nat):Int)=(k:Int)+(u:Int)+(u1:Int)+(hd:Int)from by omega]at hl;have HL:=hid hl;clear hl;have HTE:Hid _:=J.eq.trans (Pm.a4u f2 _ _ _);go_wp2_with fail;refine HL.out.mono ?_;rintro e w2 ⟨rfl,hr2,hk2⟩;have bu2:=Nj J.bu hk2 hbl;have kp2:=J.kp.trans hk2;have sz2:w.heap.size+1<=w2.heap.size:=Aj J.sz hk2.2.2.2.1;have hls:=λh0=>Pm.a2k (l:=s.data.toList.drop (k+u+u1+v)) (lim:=hd-v) (long:=5) (by decide) h0;have m1:=J.u1;have m2:=J.g1;have m3:=J.k1;clear J HL hk2 c0 c1 c2 c3;generalize Pm.a2g (s.data.toList.drop (k+u+u1+v)) (hd-v) 5=q at *
       by_cases h0:q.1=0
       ·obtain⟨l1,l2,l3,l4⟩:=hls h0;rw[if_neg (by simp[h0])]at HTE;rw[A6z,show s.data.toList.length=s.size from by simp]at l3;have hqs:(⟨q.2.1.toArray⟩:By).size<=500:=by simp[ByteArray.size];omega
        clear hls;by_cases hem:q.2.1=[]
        ·rw[if_pos hem]at HTE;have HS:Hid (H=(0,body,u+u1+(v+q.2.2))):=by
          unfold Hid;have:=HE.out;rw[HTE.out]at this;simpa using this
         rw[hem];go_wp2;rw[Exit.noGoto_exit];go_wp2_with (go_at_call 182;refine(Tryz.Builder_String_any _ _ _ _ bu2 (by omega)).mono ?_;rintro e w5 ⟨rfl,hb5⟩)
         try rw[Exit.noGoto_ret]
         go_ret2
         exact⟨Cn (by rw[HS.out]) (by rw[HS.out]),⟨_,hr2.low hb5 hbl,λ_=>by rw[HS.out];simp only;omega⟩,kp2.low hb5⟩
        ·rw[if_neg hem]at HTE;have hem2:q.2.1.isEmpty=false:=by rw[List.isEmpty_eq_false_iff];exact hem
         have HF:=hid (Kr ⟨q.2.1.toArray⟩ w2 (by unfold maxLen;omega));rw[show(⟨q.2.1.toArray⟩:By).data.toList=q.2.1 from rfl]at HF;clear hem
         cases hfd:Pm.a1d q.2.1 with
         |none=>
          rw[hfd]at HTE HF;have HS:Hid (H=(3,[],0)):=by
           unfold Hid;have:=HE.out;rw[HTE.out]at this;simpa using this
          go_wp2_with fail;refine HF.out.mono ?_;rintro e w5 ⟨rfl,hb5⟩;unfold b0I;go_wp2;rw[Exit.noGoto_ret];go_wp2;rw[Exit.noGoto_ret]
          go_ret2
          have hA:=bA w5 (.cells #[.string ⟨#[]⟩,.string ⟨#[]⟩] 131);exact⟨Cn (by rw[HS.out]) (by rw[HS.out]),⟨_,(hr2.below hb5).below hA,λh=>absurd (by rw[HS.out]at h;exact h) (by decide)⟩,(kp2.trans (Kp.of hb5)).trans (Kp.of hA)⟩
         |some fl=>
          obtain⟨fn,fv⟩:=fl;rw[hfd,if_pos (by simp)]at HTE;rw[hfd]at HF;go_wp2_with fail;refine HF.out.mono ?_;rintro e w5 ⟨rfl,hb5⟩;unfold b0I;go_wp2
          go_roundg f2
          case measure=>omega
          case rel=>
           have hA:=bA w5 (.cells #[.string ⟨fn.toArray⟩,.string ⟨fv.toArray⟩] 131);refine⟨v+q.2.2,{u1:=by omega,g1:=by omega,k1:=by omega,eq:=?_,rd:=?_,bu:=Nj bu2 ((Kp.of hb5).trans (Kp.of hA)) hbl,sz:=?_,kp:=(kp2.trans (Kp.of hb5)).trans (Kp.of hA)}⟩
           ·rw[HTE.out,E2z,show k+u+u1+v+q.2.2=k+u+u1+(v+q.2.2)from by omega,show hd-v-q.2.2=hd-(v+q.2.2)from by omega]
           ·rw[show k+u+u1+(v+q.2.2)=k+u+u1+v+q.2.2 from by omega];exact(hr2.below hb5).below hA
           ·have:=hb5.size;simp;omega
       ·rw[if_pos h0]at HTE;have hne:(q.1 != 0)=true:=by rw[bne_iff_ne];exact h0
        have HS:Hid (H=(q.1,[],0)):=by
         unfold Hid;have:=HE.out;rw[HTE.out,if_pos h0]at this;exact this
        clear hls;go_wp2;rw[Exit.noGoto_ret];go_wp2;rw[Exit.noGoto_ret]
        go_ret2
        exact⟨Cn (by rw[HS.out]) (by rw[HS.out]),⟨_,hr2,λh=>absurd (by rw[HS.out]at h;exact h) h0⟩,kp2⟩
   ·rw[if_pos he]at HE;have hne:(er != 0)=true:=by rw[bne_iff_ne];exact he
    go_wp2;rw[Exit.noGoto_ret];go_wp2;rw[Exit.noGoto_ret]
    go_ret2
    exact⟨Cn (by rw[HE.out]) (by rw[HE.out]),⟨_,hr1,λh=>absurd (by rw[HE.out]at h;exact h) he⟩,kp1⟩
end Go.Proofs.YtbiggccolpchcaaGreatDoor
namespace Go.Proofs.YtbiggccolpchcaaGreatDoor
open _root_.Go.Proofs.Tryz
theorem b0K(c:UInt8)(a b:L8)(h:Pm.behind c a≠[]):Pm.ahead c (a++b)=Pm.ahead c a/\Pm.behind c (a++b)=Pm.behind c a++b:=by
 induction a with
 |nil=>exact absurd rfl h
 |cons x a ih=>
  by_cases hx:x=c
  ·subst hx;simp[Pm.ahead,Pm.behind]
  ·have h1:Pm.behind c (x::a)=Pm.behind c a:=by simp[Pm.behind,hx]
   have h2:=ih (by rw[<-h1];exact h);refine⟨?_,?_⟩
   ·have:Pm.ahead c (x::(a++b))=x::Pm.ahead c (a++b):=by simp[Pm.ahead,hx]
    rw[B3z,this,h2.1];simp[Pm.ahead,hx]
   ·have:Pm.behind c (x::(a++b))=Pm.behind c (a++b):=by simp[Pm.behind,hx]
    rw[B3z,this,h2.2,h1]
theorem Lw(l t:L8)(lim:Nat)(long:Int)(h:(Pm.a2g l lim long).1≠2):Pm.a2g (l++t) lim long=Pm.a2g l lim long:=by
 by_cases h1:Pm.behind 10 (l.take lim)=[]
 ·rw[Pm.a2j h1]at h ⊢;by_cases h2:l.length<lim
  ·rw[if_pos h2]at h;exact absurd rfl h
  ·have h3:(l++t).take lim=l.take lim:=List.take_append_of_le_length (by omega);rw[Pm.a2j (by rw[h3];exact h1),if_neg h2,if_neg (by rw[A0z];omega)]
 ·have h3:(l++t).take lim=l.take lim++t.take (lim-l.length):=List.take_append;obtain⟨ha,hb⟩:=b0K 10 (l.take lim) (t.take (lim-l.length)) h1;unfold Pm.a2g;rw[h3,ha,hb];have h4:(Pm.behind 10 (l.take lim)).isEmpty=false:=by
   cases hq:Pm.behind 10 (l.take lim)with
   |nil=>exact absurd hq h1
   |cons=>rfl
  have h5:(Pm.behind 10 (l.take lim)++t.take (lim-l.length)).isEmpty=false:=by
   cases hq:Pm.behind 10 (l.take lim)with
   |nil=>exact absurd hq h1
   |cons=>rfl
  rw[h4,h5];rfl
theorem Ks{l t:L8}{n:Nat}(h:n<=l.length):(l++t).drop n=l.drop n++t:=List.drop_append_of_le_length h
theorem b0L(t:L8)(f:Nat):∀(first:Bool) (l:L8) (lim:Nat) (m tg:L8) (fs:List Pm.Fld) (u:Nat),(Pm.a1o f first l lim m tg fs u).1≠2->Pm.a1o f first (l++t) lim m tg fs u=Pm.a1o f first l lim m tg fs u:=by
 induction f with
 |zero=>intro first l lim m tg fs u h;exact absurd rfl h
 |succ f ih=>
  intro first l lim m tg fs u h
  have hl:=Hy l lim 5;rw[Dc]at h;rw[Dc,Dc];by_cases h1:(Pm.a2g l lim 5).1=2
  ·rw[if_pos (by rw[h1];decide)]at h;exact absurd h1 h
  ·rw[Lw l t lim 5 h1,Ks hl.2.2];by_cases h2:(Pm.a2g l lim 5).1≠0
   ·rw[if_pos h2,if_pos h2]
   ·rw[if_neg h2]at h ⊢;rw[if_neg h2];by_cases h3:first=true
    ·rw[if_pos h3]at h ⊢;rw[if_pos h3];by_cases h4:(Pm.a1f (Pm.a2g l lim 5).2.1).1≠0
     ·rw[if_pos h4,if_pos h4]
     ·rw[if_neg h4]at h ⊢;rw[if_neg h4];exact ih _ _ _ _ _ _ _ h
    ·rw[if_neg h3]at h ⊢;rw[if_neg h3];by_cases h4:(Pm.a2g l lim 5).2.1=[]
     ·rw[if_pos h4,if_pos h4]
     ·rw[if_neg h4]at h ⊢;rw[if_neg h4]
      cases h5:Pm.a1d (Pm.a2g l lim 5).2.1 with
      |none=>rfl
      |some f'=>
       rw[h5]at h;exact ih _ _ _ _ _ _ _ h
theorem a4Z(t:L8)(f:Nat):∀(l:L8) (lim u:Nat),(Pm.a4t f l lim u).1≠2->Pm.a4t f (l++t) lim u=Pm.a4t f l lim u:=by
 induction f with
 |zero=>intro l lim u h;exact absurd rfl h
 |succ f ih=>
  intro l lim u h;have hl:=Hy l lim 5;rw[Pm.a4u]at h;rw[Pm.a4u,Pm.a4u];by_cases h1:(Pm.a2g l lim 5).1=2
  ·rw[if_pos (by rw[h1];decide)]at h;exact absurd h1 h
  ·rw[Lw l t lim 5 h1,Ks hl.2.2];by_cases h2:(Pm.a2g l lim 5).1≠0
   ·rw[if_pos h2,if_pos h2]
   ·rw[if_neg h2]at h ⊢;rw[if_neg h2];by_cases h4:(Pm.a2g l lim 5).2.1=[]
    ·rw[if_pos h4,if_pos h4]
    ·rw[if_neg h4]at h ⊢;rw[if_neg h4];by_cases h5:(Pm.a1d (Pm.a2g l lim 5).2.1).isSome=true
     ·rw[if_pos h5]at h ⊢;rw[if_pos h5];exact ih _ _ _ h
     ·rw[if_neg h5,if_neg h5]
theorem a5A(l t:L8)(n:Nat)(room:Int)(h:(Br l n room).1≠2):Br (l++t) n room=Br l n room:=by
 unfold Br at h ⊢;by_cases h1:room<n
 ·rw[if_pos h1,if_pos h1]
 ·rw[if_neg h1]at h ⊢;rw[if_neg h1];by_cases h2:l.length<n+2
  ·rw[if_pos h2]at h;exact absurd rfl h
  ·rw[if_neg h2,if_neg (by rw[A0z];omega),List.take_append_of_le_length (by omega)]
theorem Vs(l:L8)(h:Dr l≠2):(Pm.a2g l 10 3).1≠2:=by
 intro h1;apply h;unfold Dr;rw[if_neg (by rw[h1];decide),h1]
theorem b4H(l t:L8)(h:Dr l≠2):Dr (l++t)=Dr l/\Ci (l++t)=Ci l:=by
 have h1:=Lw l t 10 3 (Vs l h);unfold Dr Ci;rw[h1];exact⟨rfl,rfl⟩
theorem Zx(t:L8)(hd:Nat)(bd:Int)(f:Nat):∀(g:Nat) (l body:L8) (u:Nat),f<=g->(Cx f l hd bd body u).1≠2->Cx g (l++t) hd bd body u=Cx f l hd bd body u:=by
 induction f with
 |zero=>intro g l body u _ h;exact absurd rfl h
 |succ f ih=>
  intro g l body u hg h;obtain⟨g,rfl⟩:∃g',g=g'+1:=⟨g-1,by omega⟩;have hl:=Hy l 10 3;rw[Dw]at h;rw[Dw,Dw];by_cases h1:Dr l=2
  ·rw[if_pos (by rw[h1];decide)]at h;exact absurd h1 h
  ·obtain⟨e1,e2⟩:=b4H l t h1;rw[e1,e2,Lw l t 10 3 (Vs l h1),Ks hl.2.2];by_cases h2:Dr l≠0
   ·rw[if_pos h2,if_pos h2]
   ·rw[if_neg h2]at h ⊢;rw[if_neg h2];by_cases h3:0<Ci l
    ·rw[if_pos h3]at h ⊢;rw[if_pos h3];generalize hC:Br (l.drop (Pm.a2g l 10 3).2.2) (Ci l).toNat (bd-body.length)=C at h ⊢;by_cases h4:C.1=2
     ·rw[if_pos (by rw[h4];decide)]at h;exact absurd h4 h
     ·rw[a5A _ t _ _ (by rw[hC];exact h4),hC];have hc:=Jp (l.drop (Pm.a2g l 10 3).2.2) (Ci l).toNat (bd-body.length);rw[hC,A6z]at hc;by_cases h5:C.1≠0
      ·rw[if_pos h5,if_pos h5]
      ·rw[if_neg h5]at h ⊢;rw[if_neg h5,Ks (by omega)];exact ih _ _ _ _ (by omega) h
    ·rw[if_neg h3]at h ⊢;rw[if_neg h3];generalize hT:Pm.a4t (hd+1) (l.drop (Pm.a2g l 10 3).2.2) hd 0=T at h ⊢;by_cases h4:T.1=2
     ·rw[if_pos (by rw[h4];decide)]at h;exact absurd h4 h
     ·rw[a4Z t _ _ _ _ (by rw[hT];exact h4),hT]
abbrev Ed:=Int×L8×L8×List Pm.Fld×L8×Nat
def Kt(e:Int):Ed:=(e,[],[],[],[],0)
def Bq(fs:List Pm.Fld):List (By×By):=fs.map λf=>(⟨f.1.toArray⟩,⟨f.2.toArray⟩)
def Dl(l:L8)(hd:Nat)(bd:Int)(chunked:Bool)(n:Nat):Int×L8×Nat:=
 if chunked=true then Cx (l.length+1) l hd bd [] 0
 else if l.length<n then(2,[],0)else(0,l.take n,n)
def Cc(l:L8)(hd:Nat)(bd:Int):Ed:=
 let h:=Pm.a1o (hd+1) true l hd [] [] [] 0
 if h.1≠0 then Kt h.1
 else
  let m:=Cr (Bq h.2.2.2.1) bd
  if m.1≠0 then Kt m.1
  else
   let b:=Dl (l.drop h.2.2.2.2) hd bd m.2.1 m.2.2.toNat
   if b.1≠0 then Kt b.1 else(0,h.2.1,h.2.2.1,h.2.2.2.1,b.2.1,h.2.2.2.2+b.2.2)
theorem b0M(l t:L8)(hd:Nat)(bd:Int)(c:Bool)(n:Nat)(h:(Dl l hd bd c n).1≠2):Dl (l++t) hd bd c n=Dl l hd bd c n:=by
 unfold Dl at h ⊢;by_cases h1:c=true
 ·rw[if_pos h1]at h ⊢;rw[if_pos h1];exact Zx t hd bd _ _ _ _ _ (by rw[A0z];omega) h
 ·rw[if_neg h1]at h ⊢;rw[if_neg h1];by_cases h2:l.length<n
  ·rw[if_pos h2]at h;exact absurd rfl h
  ·rw[if_neg h2,if_neg (by rw[A0z];omega),List.take_append_of_le_length (by omega)]
theorem Lx(f:Nat):∀(first:Bool) (l:L8) (lim:Nat) (m tg:L8) (fs:List Pm.Fld) (u:Nat),(Pm.a1o f first l lim m tg fs u).1=0->u+1<=(Pm.a1o f first l lim m tg fs u).2.2.2.2/\(Pm.a1o f first l lim m tg fs u).2.2.2.2<=u+l.length:=by
 induction f with
 |zero=>intro first l lim m tg fs u h;exact absurd (show(2:Int)=0 from h) (by decide)
 |succ f ih=>
  intro first l lim m tg fs u h
  rw[Dc]at h ⊢;by_cases h2:(Pm.a2g l lim 5).1≠0
  ·rw[if_pos h2]at h;exact absurd h h2
  ·have hk:=Pm.a2k (l:=l) (lim:=lim) (long:=5) (by decide) (by omega);rw[if_neg h2]at h ⊢;by_cases h3:first=true
   ·rw[if_pos h3]at h ⊢;by_cases h4:(Pm.a1f (Pm.a2g l lim 5).2.1).1≠0
    ·rw[if_pos h4]at h;exact absurd h h4
    ·rw[if_neg h4]at h ⊢;have:=ih _ _ _ _ _ _ _ h;rw[A6z]at this;omega
   ·rw[if_neg h3]at h ⊢;by_cases h4:(Pm.a2g l lim 5).2.1=[]
    ·rw[if_pos h4]at h ⊢;refine⟨by simp only;omega,by simp only;omega⟩
    ·rw[if_neg h4]at h ⊢
     cases h5:Pm.a1d (Pm.a2g l lim 5).2.1 with
     |none=>rw[h5]at h;exact absurd (show(3:Int)=0 from h) (by decide)
     |some f'=>
      rw[h5]at h;have:=ih _ _ _ _ _ _ _ h;rw[A6z]at this;simp only;omega
theorem a5B(l t:L8)(hd:Nat)(bd:Int)(h:(Cc l hd bd).1≠2):Cc (l++t) hd bd=Cc l hd bd:=by
 unfold Cc at h ⊢;generalize hH:Pm.a1o (hd+1) true l hd [] [] [] 0=H at h ⊢;simp only at h ⊢;by_cases h1:H.1=2
 ·rw[if_pos (by rw[h1];decide)]at h;exact absurd h1 h
 ·rw[b0L t _ _ _ _ _ _ _ _ (by rw[hH];exact h1),hH];by_cases h2:H.1≠0
  ·rw[if_pos h2,if_pos h2]
  ·have hl:=Lx (hd+1) true l hd [] [] [] 0 (by rw[hH];omega);rw[hH]at hl;rw[if_neg h2]at h ⊢;rw[if_neg h2];generalize Cr (Bq H.2.2.2.1) bd=M at h ⊢;by_cases h3:M.1≠0
   ·rw[if_pos h3,if_pos h3]
   ·rw[if_neg h3]at h ⊢;rw[if_neg h3,Ks (by omega)];generalize hB:Dl (l.drop H.2.2.2.2) hd bd M.2.1 M.2.2.toNat=B at h ⊢;by_cases h4:B.1=2
    ·rw[if_pos (by rw[h4];decide)]at h;exact absurd h4 h
    ·rw[b0M _ t _ _ _ _ (by rw[hB];exact h4),hB]
theorem a5C(l:L8)(hd:Nat)(bd:Int)(h:(Cc l hd bd).1≠0):Cc l hd bd=Kt (Cc l hd bd).1:=by
 unfold Cc at h ⊢;simp only at h ⊢
 split at h
 ·rename_i h1;rw[if_pos h1];rfl
 ·rename_i h1;rw[if_neg h1]
  split at h
  ·rename_i h2;rw[if_pos h2];rfl
  ·rename_i h2;rw[if_neg h2]
   split at h
   ·rename_i h3;rw[if_pos h3];rfl
   ·exact absurd rfl h
theorem Sk(l:L8)(lim:Nat)(long:Int)(h:long≠1):(Pm.a2g l lim long).1≠1:=by
 unfold Pm.a2g
 split
 ·simp only;split
  ·decide
  ·exact h
 ·split
  ·simp
  ·simp
theorem b0N(l:L8):(Pm.a1f l).1≠1:=by
 unfold Pm.a1f
 repeat' split
 all_goals (first|decide|simp)
theorem b0O(f:Nat):∀(first:Bool) (l:L8) (lim:Nat) (m tg:L8) (fs:List Pm.Fld) (u:Nat),(Pm.a1o f first l lim m tg fs u).1≠1:=by
 induction f with
 |zero=>intro first l lim m tg fs u h;exact absurd (show(2:Int)=1 from h) (by decide)
 |succ f ih=>
  intro first l lim m tg fs u
  rw[Dc];by_cases h2:(Pm.a2g l lim 5).1≠0
  ·rw[if_pos h2];exact Sk l lim 5 (by decide)
  ·rw[if_neg h2];by_cases h3:first=true
   ·rw[if_pos h3];by_cases h4:(Pm.a1f (Pm.a2g l lim 5).2.1).1≠0
    ·rw[if_pos h4];exact b0N _
    ·rw[if_neg h4];exact ih _ _ _ _ _ _ _
   ·rw[if_neg h3];by_cases h4:(Pm.a2g l lim 5).2.1=[]
    ·rw[if_pos h4];simp
    ·rw[if_neg h4]
     cases h5:Pm.a1d (Pm.a2g l lim 5).2.1 with
     |none=>exact λh=>absurd (show(3:Int)=1 from h) (by decide)
     |some f'=>exact ih _ _ _ _ _ _ _
theorem a5D(f:Nat):∀(l:L8) (lim u:Nat),(Pm.a4t f l lim u).1≠1:=by
 induction f with
 |zero=>intro l lim u h;exact absurd (show(2:Int)=1 from h) (by decide)
 |succ f ih=>
  intro l lim u;rw[Pm.a4u];by_cases h2:(Pm.a2g l lim 5).1≠0
  ·rw[if_pos h2];exact Sk l lim 5 (by decide)
  ·rw[if_neg h2];by_cases h4:(Pm.a2g l lim 5).2.1=[]
   ·rw[if_pos h4];simp
   ·rw[if_neg h4];by_cases h5:(Pm.a1d (Pm.a2g l lim 5).2.1).isSome=true
    ·rw[if_pos h5];exact ih _ _ _
    ·rw[if_neg h5];simp
theorem a5E(f:Nat):∀(l:L8) (lim u:Nat),(Pm.a4t f l lim u).1=0->(Pm.a4t f l lim u).2<=u+l.length:=by
 induction f with
 |zero=>intro l lim u h;exact absurd (show(2:Int)=0 from h) (by decide)
 |succ f ih=>
  intro l lim u h;have hl:=Hy l lim 5;rw[Pm.a4u]at h ⊢;by_cases h2:(Pm.a2g l lim 5).1≠0
  ·rw[if_pos h2]at h;exact absurd h h2
  ·rw[if_neg h2]at h ⊢;by_cases h4:(Pm.a2g l lim 5).2.1=[]
   ·rw[if_pos h4];simp only;omega
   ·rw[if_neg h4]at h ⊢;by_cases h5:(Pm.a1d (Pm.a2g l lim 5).2.1).isSome=true
    ·rw[if_pos h5]at h ⊢;have:=ih _ _ _ h;rw[A6z]at this;omega
    ·rw[if_neg h5]at h;exact absurd (show(3:Int)=0 from h) (by decide)
theorem b0P(l:L8):Dr l≠1:=by
 unfold Dr
 split
 ·split
  ·decide
  ·decide
 ·exact Sk l 10 3 (by decide)
theorem a5F(l:L8)(n:Nat)(room:Int):(Br l n room).1≠1:=by
 unfold Br
 repeat' split
 all_goals simp
theorem Zy(hd:Nat)(bd:Int)(f:Nat):∀(l body:L8) (u:Nat),(Cx f l hd bd body u).1≠1/\((Cx f l hd bd body u).1=0->(Cx f l hd bd body u).2.2<=u+l.length):=by
 induction f with
 |zero=>intro l body u;exact⟨λh=>absurd (show(2:Int)=1 from h) (by decide),λh=>absurd (show(2:Int)=0 from h) (by decide)⟩
 |succ f ih=>
  intro l body u;have hl:=Hy l 10 3;rw[Dw];by_cases h2:Dr l≠0
  ·rw[if_pos h2];exact⟨b0P l,λh=>absurd h h2⟩
  ·rw[if_neg h2];by_cases h3:0<Ci l
   ·rw[if_pos h3];have hc:=Jp (l.drop (Pm.a2g l 10 3).2.2) (Ci l).toNat (bd-body.length);have hn:=a5F (l.drop (Pm.a2g l 10 3).2.2) (Ci l).toNat (bd-body.length);generalize Br (l.drop (Pm.a2g l 10 3).2.2) (Ci l).toNat (bd-body.length)=C at hc hn ⊢;rw[A6z]at hc;by_cases h5:C.1≠0
    ·rw[if_pos h5];exact⟨hn,λh=>absurd h h5⟩
    ·rw[if_neg h5];obtain⟨i1,i2⟩:=ih (l.drop ((Pm.a2g l 10 3).2.2+C.2.2)) (body++C.2.1) (u+(Pm.a2g l 10 3).2.2+C.2.2);refine⟨i1,λh=>?_⟩;have:=i2 h;rw[A6z]at this;omega
   ·rw[if_neg h3];have hn:=a5D (hd+1) (l.drop (Pm.a2g l 10 3).2.2) hd 0;have ht:=a5E (hd+1) (l.drop (Pm.a2g l 10 3).2.2) hd 0;generalize Pm.a4t (hd+1) (l.drop (Pm.a2g l 10 3).2.2) hd 0=T at hn ht ⊢;rw[A6z]at ht;by_cases h5:T.1≠0
    ·rw[if_pos h5];exact⟨hn,λh=>absurd h h5⟩
    ·rw[if_neg h5];have:=ht (by omega);exact⟨by simp,λ_=>(by simp only;omega)⟩
theorem b0Q(hosts:Nat)(lens cods:List (List UInt8))(most:Int):(Jf hosts lens cods most).1≠1:=by
 unfold Jf
 repeat' split
 all_goals simp
theorem b0R(l:L8)(hd:Nat)(bd:Int)(c:Bool)(n:Nat):(Dl l hd bd c n).1≠1/\((Dl l hd bd c n).1=0->(Dl l hd bd c n).2.2<=l.length):=by
 unfold Dl
 split
 ·have:=Zy hd bd (l.length+1) l [] 0;exact⟨this.1,λh=>by have:=this.2 h;omega⟩
 ·split
  ·exact⟨by simp,λh=>absurd (show(2:Int)=0 from h) (by decide)⟩
  ·exact⟨by simp,λ_=>(by simp only;omega)⟩
theorem Sl(l:L8)(hd:Nat)(bd:Int):(Cc l hd bd).1≠1/\((Cc l hd bd).1=0->0<(Cc l hd bd).2.2.2.2.2)/\((Cc l hd bd).1≠0->(Cc l hd bd).2.2.2.2.2=0)/\(Cc l hd bd).2.2.2.2.2<=l.length:=by
 unfold Cc;have hn:=b0O (hd+1) true l hd [] [] [] 0;have hl:=Lx (hd+1) true l hd [] [] [] 0;generalize Pm.a1o (hd+1) true l hd [] [] [] 0=H at hn hl ⊢;simp only;by_cases h1:H.1≠0
 ·rw[if_pos h1];exact⟨hn,λh=>absurd h h1,λ_=>rfl,Ah _⟩
 ·have hl:=hl (by omega);rw[if_neg h1];have hm:(Cr (Bq H.2.2.2.1) bd).1≠1:=b0Q _ _ _ _;generalize Cr (Bq H.2.2.2.1) bd=M at hm ⊢;by_cases h2:M.1≠0
  ·rw[if_pos h2];exact⟨hm,λh=>absurd h h2,λ_=>rfl,Ah _⟩
  ·rw[if_neg h2];have hb:=b0R (l.drop H.2.2.2.2) hd bd M.2.1 M.2.2.toNat;generalize Dl (l.drop H.2.2.2.2) hd bd M.2.1 M.2.2.toNat=B at hb ⊢;rw[A6z]at hb;by_cases h3:B.1≠0
   ·rw[if_pos h3];exact⟨hb.1,λh=>absurd h h3,λ_=>rfl,Ah _⟩
   ·rw[if_neg h3];have:=hb.2 (by omega);exact⟨by simp,λ_=>(by simp only;omega),λh=>absurd rfl h,(by simp only;omega)⟩
end Go.Proofs.YtbiggccolpchcaaGreatDoor
namespace Go.Proofs.YtbiggccolpchcaaGreatDoor
open Go.RowKit _root_.Go.Proofs.Tryz
theorem Ft(hd bd:Int)(w:World):
  Calls prog 183 #[.agg #[.int .i64 hd,.int .i64 bd]] w λe w'=>e=.returned (.bool (decide (32<=hd/\hd<=500/\0<=bd/\bd<=200)))/\Bw w w':=by
 go_enter func183,ntmps183;go_wp2
 all_goals
  go_ret;refine⟨?_,bA _ _⟩
  try congr 2
  try simp
  try simp[*]
  try (intros;omega)
theorem Fw(fs:List Pm.Fld):(Bq fs).length=fs.length:=by unfold Bq;simp
theorem Sm:∀(fs:List Pm.Fld) (i:Nat) (h:i<(Bq fs).length),(Ih fs)[i*2]?=some (.string (Bq fs)[i].1)/\(Ih fs)[i*2+1]?=some (.string (Bq fs)[i].2)
 |[],i,h=>absurd h (by simp[Bq])
 |f::fs,0,h=>by simp[Ih,Bq]
 |f::fs,i+1,h=>by
  have:=Sm fs i (by simpa[Bq]using h);have e:Ih (f::fs)=(.string ⟨f.1.toArray⟩)::(.string ⟨f.2.toArray⟩)::Ih fs:=by simp[Ih]
  rw[e,show(i+1)*2=i*2+1+1 from by omega,B6z,B6z,show i*2+1+1+1=(i*2+1)+1+1 from by omega,B6z,B6z];simpa[Bq]using this
theorem Rl{w:World}{B:Nat}{e:TypeId}{v:Value}{fs:List Pm.Fld}(h:w.ownsRow B e 2 v fs.length (Ih fs)):∃a cap,v=.slice a (Bq fs).length cap/\Df (Bq fs) a w:=by
 obtain⟨h1,h2⟩:=h;rcases h2 with⟨h2,h3⟩|⟨g,cap,cur,hv,hB,hg,hc,hm,hsz,ht⟩
 ·refine⟨none,0,?_,λi hi=>?_⟩
  ·rw[Fw,h3];exact h2
  ·rw[Fw]at hi;omega
 ·refine⟨some ⟨g,0,none⟩,cap,?_,λi hi=>⟨g,rfl,?_,?_,?_⟩⟩
  ·rw[Fw];exact hv
  ·exact(Array.getElem?_eq_some_iff.1 hg).1
  ·rw[Ab hg];have:=(Sm fs i hi).1;rw[<-ht,List.getElem?_take_of_lt (by rw[Fw]at hi;omega)]at this;simpa using this
  ·rw[Ab hg];have:=(Sm fs i hi).2;rw[<-ht,List.getElem?_take_of_lt (by rw[Fw]at hi;omega)]at this;simpa using this
theorem Jq(f:Nat):∀(first:Bool) (l:L8) (lim:Nat) (m tg:L8) (fs:List Pm.Fld) (u:Nat),(Pm.a1o f first l lim m tg fs u).1=0->(Pm.a1o f first l lim m tg fs u).2.2.2.1.length<=fs.length+lim/\∀x∈(Pm.a1o f first l lim m tg fs u).2.2.2.1,x∈fs\/x.1.length+x.2.length<=lim:=by
 induction f with
 |zero=>intro first l lim m tg fs u h;exact absurd (show(2:Int)=0 from h) (by decide)
 |succ f ih=>
  intro first l lim m tg fs u h
  rw[Dc]at h ⊢;by_cases h2:(Pm.a2g l lim 5).1≠0
  ·rw[if_pos h2]at h;exact absurd h h2
  ·have hk:=Pm.a2k (l:=l) (lim:=lim) (long:=5) (by decide) (by omega);rw[if_neg h2]at h ⊢;by_cases h3:first=true
   ·rw[if_pos h3]at h ⊢;by_cases h4:(Pm.a1f (Pm.a2g l lim 5).2.1).1≠0
    ·rw[if_pos h4]at h;exact absurd h h4
    ·rw[if_neg h4]at h ⊢;obtain⟨i1,i2⟩:=ih _ _ _ _ _ _ _ h;refine⟨by omega,λx hx=>?_⟩;rcases i2 x hx with h5|h5
     ·exact .inl h5
     ·exact .inr (by omega)
   ·rw[if_neg h3]at h ⊢;by_cases h4:(Pm.a2g l lim 5).2.1=[]
    ·rw[if_pos h4];exact⟨Nat.le_add_right _ _,λx hx=>.inl hx⟩
    ·rw[if_neg h4]at h ⊢
     cases h5:Pm.a1d (Pm.a2g l lim 5).2.1 with
     |none=>rw[h5]at h;exact absurd (show(3:Int)=0 from h) (by decide)
     |some f'=>
      rw[h5]at h;have hle:=Zv (n:=f'.1) (v:=f'.2) h5;obtain⟨i1,i2⟩:=ih _ _ _ _ _ _ _ h;simp only;rw[A0z,List.length_singleton]at i1;refine⟨by omega,λx hx=>?_⟩;rcases i2 x hx with h6|h6
      ·rw[D3z,C4z]at h6;rcases h6 with h6|h6
       ·exact .inl h6
       ·subst h6;exact .inr (by omega)
      ·exact .inr (by omega)
theorem Zz(l:List (List UInt8)):0<=Pm.a3t l:=by
 unfold Pm.a3t
 split
 ·rename_i h
  unfold Pm.a3y
  cases l with
  |nil=>simp
  |cons x r=>
   have h2:=List.all_eq_true.1 h x (by simp);simp only[Pm.a3i,A3z,decide_eq_true_eq]at h2;exact(Pm.a3p 10 x (by omega) (by omega) h2.1.2 (by omega)).1
 ·exact Int.le_refl _
theorem Sn{fs:List (By×By)}{bd:Int}(h:(Cr fs bd).1=0):0<=(Cr fs bd).2.2/\(Cr fs bd).2.2<=bd:=by
 unfold Cr Jf at h ⊢
 split at h<;>rename_i h1
 ·simp at h
 rw[if_neg h1]
 split at h<;>rename_i h2
 ·simp at h
 rw[if_neg h2]
 split at h<;>rename_i h3
 ·simp at h
 rw[if_neg h3]
 split at h<;>rename_i h4
 ·simp at h
 rw[if_neg h4]
 split at h<;>rename_i h5
 ·simp at h
 rw[if_neg h5];exact⟨Zz _,by simpa using h5⟩
theorem a5G(b:Nat)(hd bd:Int)(hd':Nat)(s:By)(k n:Nat)(w:World)(hr:Cy b hd bd s k w)(hs:s.size<=maxLen)(hk:k<=s.size)(hn2:n<=281474976710656):
  Calls prog 243 #[.pointer (some ⟨b,0,none⟩),.int .i64 n] w λr w'=>
   r=.returned (.tuple #[.string ⟨(Dl (s.data.toList.drop k) hd' bd false n).2.1.toArray⟩,.int .i64 (Dl (s.data.toList.drop k) hd' bd false n).1]) /\
   (∃k',Cy b hd bd s k' w'/\((Dl (s.data.toList.drop k) hd' bd false n).1=0->k'=k+(Dl (s.data.toList.drop k) hd' bd false n).2.2))/\Kp b w w':=by
 have hl:(s.data.toList.drop k).length=s.size-k:=by simp
 unfold Dl;rw[if_neg (by simp),hl];by_cases h:s.size-k<n
 ·rw[if_pos h];refine(Qd b hd bd s k n w hr hs hk h (by omega)).mono ?_;rintro e w' ⟨rfl,h1,h2⟩;exact⟨rfl,⟨k,h1,λh=>by simp at h⟩,h2⟩
 ·rw[if_neg h];refine(Si b hd bd s k n w hr hs hk (by omega) hn2).mono ?_;rintro e w' ⟨rfl,h1,h2⟩;refine⟨?_,⟨k+n,h1,λ_=>rfl⟩,h2⟩;have:s.extract k (k+n)=⟨((s.data.toList.drop k).take n).toArray⟩:=by
   apply ByteArray.ext;apply Array.ext';rw[Lib.extract_data];simp
  rw[this]
theorem a0A(b:Nat)(hd:Nat)(bd:Int)(s:By)(k n:Nat)(w:World)(hr:Cy b hd bd s k w)(hs:s.size<=1152921504606846976)(hk:k<=s.size)(hh:hd<=500)(hb0:0<=bd)(hb1:bd<=200):
  Calls prog 242 #[.pointer (some ⟨b,0,none⟩)] w λr w'=>
   r=.returned (.tuple #[.string ⟨(Dl (s.data.toList.drop k) hd bd true n).2.1.toArray⟩,.int .i64 (Dl (s.data.toList.drop k) hd bd true n).1]) /\
   (∃k',Cy b hd bd s k' w'/\((Dl (s.data.toList.drop k) hd bd true n).1=0->k'=k+(Dl (s.data.toList.drop k) hd bd true n).2.2))/\Kp b w w':=by
 have hl:(s.data.toList.drop k).length=s.size-k:=by simp
 unfold Dl;rw[if_pos rfl,hl];exact a4Y b hd bd s k w hr hs hk hh hb0 hb1
end Go.Proofs.YtbiggccolpchcaaGreatDoor
