/- Joined. -/
import Derived.Test.YtbiggccolpchcaaGreatDoorJoin15
import Derived.Laws.OwnMore
import Derived.Deep.Upon
set_option maxRecDepth 100000
set_option maxHeartbeats 4000000
namespace Go.Proofs.YtbiggccolpchcaaGreatDoor
open _root_.Go.Proofs.Tryz
theorem c2I(c:UInt8):Pm.inB alF c=Pm.a1j c:=by
 have:=Pm.a0g (p:=λc=>Pm.inB alF c==Pm.a1j c) (by decide +kernel) c;simpa using this
theorem b9P(c:UInt8):Pm.inB alN.data.toList c=Pm.a2v c:=by
 have:=Pm.a0g (p:=λc=>Pm.inB alN.data.toList c==Pm.a2v c) (by decide +kernel) c;simpa using this
theorem a8T(l:L8):Pm.a0h (Pm.inB alF) l=Pm.a0h Pm.a1j l:=by
 unfold Pm.a0h;congr 1;funext c;exact c2I c
theorem b5F(l:L8):Pm.a0h (Pm.inB alN.data.toList) l=Pm.a0h Pm.a2v l:=by
 unfold Pm.a0h;congr 1;funext c;exact b9P c
theorem Fx(l:L8):Pm.a4e l=0\/Pm.a4e l=1\/Pm.a4e l=2:=by
 unfold Pm.a4e;split
 ·simp
 ·split<;>simp
theorem Fy{l:L8}(h:Pm.a4e l=0):Pm.a4g l=l:=by
 unfold Pm.a4e at h;unfold Pm.a4g
 split at h
 ·omega
 ·rename_i h1;rw[if_neg h1];split at h
  ·omega
  ·rename_i h2;rw[if_neg h2]
theorem a5Q{l:L8}(h:Pm.a4e l≠0):Pm.a4g l=l.drop 1:=by
 unfold Pm.a4e at h;unfold Pm.a4g
 split
 ·rfl
 ·rename_i h1;rw[if_neg h1]at h;split
  ·rfl
  ·rename_i h2;rw[if_neg h2]at h;exact absurd rfl h
theorem a5R{s:By}(h:Pm.a4e s.data.toList=0):Dq s=⟨#[]⟩:=by unfold Dq;rw[if_pos h]
theorem Sz{s:By}(h:Pm.a4e s.data.toList≠0):Dq s=⟨(Pm.a4g s.data.toList).toArray⟩:=by
 unfold Dq;rw[if_neg h,a5Q h];have:(s.extract 1 s.size).data.toList=s.data.toList.drop 1:=by rw[Lib.extract_data,Aq (by simp)]
 rw[<-this]
theorem Lb{s:By}(h:Pm.a4e s.data.toList≠0):(Dq s).data.toList=Pm.a4g s.data.toList:=by rw[Sz h]
theorem b1C(ts:List By)(k:Nat)(hk:k<ts.length):
  a8Q ts[k].data.toList (decide (k+1=ts.length)) ((ts.take k).map (λt=>pcB t.data.toList))=okP ts ts[k] k:=by
 generalize ts[k]=t;unfold a8Q okP;generalize decide (k+1=ts.length)=lst;by_cases h0:Pm.a4e t.data.toList=0
 ·have h1:((ts.take k).map (λt=>pcB t.data.toList)).any (Dv · (pcB t.data.toList))=false:=by
   rw[List.any_eq_false];intro p _;unfold Dv pcB;simp[h0]
  rw[if_pos h0,h1,a8T,h0];unfold Pm.a4f;rw[if_pos h0];simp
 ·rw[if_neg h0];unfold Pm.a4f okN Pm.a1y;rw[if_neg h0,Lb h0,b5F,A1z,Lb h0]
  cases he:(Pm.a4g t.data.toList).isEmpty
  ·have h1:((ts.take k).map (λt=>pcB t.data.toList)).any (Dv · (pcB t.data.toList))=!((ts.take k).all (λo=>!((Dq o).toList==Pm.a4g t.data.toList))):=by
    rw[List.any_map,List.not_all_eq_any_not]
    congr 1;funext o
    simp only[Function.comp,Bool.not_not];unfold Dv pcB;simp only;have h2:(Pm.a4e t.data.toList != 0)=true:=by simpa using h0
    rw[h2,D4z,A1z,A1z,A1z];by_cases h3:Pm.a4e o.data.toList=0
    ·rw[a5R h3,h3]
     cases hp:Pm.a4g t.data.toList with
     |nil=>rw[hp]at he;simp at he
     |cons a b=>rfl
    ·rw[Lb h3];simp[h3]
   rw[h1,Bool.not_not];generalize ((ts.take k).all (λo=>!((Dq o).toList==Pm.a4g t.data.toList)))=A;generalize Pm.a0h Pm.a2v (Pm.a4g t.data.toList)=B;generalize (Pm.a4e t.data.toList==2)=C
   cases A<;>cases B<;>cases C<;>cases lst<;>rfl
  ·simp
theorem Xq(ts:List By):∀(n k:Nat),n+k=ts.length ->
  ((∀i,k<=i->∀h:i<ts.length,okP ts ts[i] i=true)->Rd ((ts.drop k).map (·.data.toList)) ((ts.take k).map (λt=>pcB t.data.toList))=some (ts.map (λt=>pcB t.data.toList))) /\
  ((¬ ∀i,k<=i->∀h:i<ts.length,okP ts ts[i] i=true)->Rd ((ts.drop k).map (·.data.toList)) ((ts.take k).map (λt=>pcB t.data.toList))=none)
 |0,k,hn=>by
  have hk:k=ts.length:=by omega
  subst hk;refine⟨λ_=>?_,λh=>absurd (λi h1 h2=>absurd h2 (by omega)) h⟩;rw[List.drop_length,E8z];rfl
 |n+1,k,hn=>by
  have hk:k<ts.length:=by omega
  obtain⟨i1,i2⟩:=Xq ts n (k+1) (by omega);have hd:ts.drop k=ts[k]::ts.drop (k+1):=(Ax hk).symm;have hl:((ts.drop (k+1)).map (·.data.toList)).isEmpty=decide (k+1=ts.length):=by
   rw[B9z,List.isEmpty_iff,List.map_eq_nil_iff,List.drop_eq_nil_iff,decide_eq_true_iff];omega
  have ht:(ts.take k).map (λt=>pcB t.data.toList)++[pcB ts[k].data.toList]=(ts.take (k+1)).map (λt=>pcB t.data.toList):=by
   rw[List.take_add_one,Av hk,B2z];rfl
  rw[hd,B1z,Rd,hl,b1C ts k hk,ht]
  cases hok:okP ts ts[k] k
  ·refine⟨λh=>?_,λ_=>by simp⟩;rw[h k (Ac _) hk]at hok;cases hok
  ·rw[if_pos rfl];refine⟨λh=>i1 (λi hi=>h i (by omega)),λh=>i2 (λh'=>h (λi hi hl=>?_))⟩;rcases B8z k i with h3|h3
   ·exact h' i h3 hl
   ·obtain rfl:i=k:=by omega
    exact hok
def Wa(s:L8)(ts:List By):Prop:=s.length<=64/\Lib.hasPrefix s [47]=true/\∀i (h:i<ts.length),okP ts ts[i] i=true
theorem Ib{s:L8}{ts:List By}(ht:ts.map (·.data.toList)=pcs s)(h:Wa s ts):Bo s=some ((pcs s).map pcB):=by
 obtain⟨h1,h2,h3⟩:=h;have hne:s≠[]:=by rintro rfl;simp[Lib.hasPrefix]at h2
 have:=(Xq ts ts.length 0 (by omega)).1 (λi _ h=>h3 i h);unfold Bo;rw[if_pos ⟨h1,h2⟩];rw[D6z,ht,List.take_zero]at this;have e:pcs s=Lib.split (s.drop 1) [47]:=by unfold pcs;rw[if_neg hne]
 rw[<-e,show([]:List (Int×By))=([]:List By).map (λt=>pcB t.data.toList)from rfl,this,<-ht,E6z];rfl
theorem It{s:L8}{ts:List By}(ht:ts.map (·.data.toList)=pcs s)(h:¬Wa s ts):Bo s=none:=by
 unfold Bo;by_cases h1:s.length<=64/\Lib.hasPrefix s [47]=true
 ·rw[if_pos h1];have hne:s≠[]:=by rintro rfl;simp[Lib.hasPrefix]at h1
  have e:pcs s=Lib.split (s.drop 1) [47]:=by unfold pcs;rw[if_neg hne]
  have:=(Xq ts ts.length 0 (by omega)).2 (λh'=>h ⟨h1.1,h1.2,λi hi=>h' i (Ah _) hi⟩);rw[D6z,ht,List.take_zero]at this;rw[<-e];exact this
 ·rw[if_neg h1]
theorem b1D{ts:List By}(h:∀i (h:i<ts.length),okP ts ts[i] i=true):∀i (hi:i<ts.length),Pm.a4e ts[i].data.toList=2->i+1=ts.length:=λi hi hk=>by
 have:=h i hi;unfold okP at this;rw[if_neg (by omega),hk]at this;unfold okN at this;simp only[A3z]at this;simpa using this.1.2
theorem b5G{ts:List By}(h:∀i (h:i<ts.length),okP ts ts[i] i=true):∀i (hi:i<ts.length),Pm.a4e ts[i].data.toList=0->Pm.a0h Pm.a1j ts[i].data.toList=true:=λi hi hk=>by
 have:=h i hi;unfold okP at this;rw[if_pos hk,a8T]at this;exact this
def Dm:List (List UInt8)->List (List UInt8)->Option (List Prm)
 |[],[]=>some []
 |[],_::_=>none
 |_::_,[]=>none
 |t::r,x::xs=>if Pm.a4e t=2 then some [(⟨(Pm.a4g t).toArray⟩,Pm.unT (Dy (x::xs)))]
  else match Dm r xs with
   |none=>none
   |some more=>if Pm.a4e t=0 then(if(Pm.unT x).data.toList=t then some more else none)else if x=[]then none else some ((⟨(Pm.a4g t).toArray⟩,Pm.unT x)::more)
def Lc:List (List UInt8)->Prop
 |[]=>True
 |t::r=>(Pm.a4e t=2->r=[])/\Lc r
theorem Jh:∀(n:Nat) (a b o:L8),a.length<=n->Pm.unesc (a++47::b)=some o->(Pm.unesc a).isSome/\(Pm.unesc b).isSome
 |_,[],b,o,_,h=>by
  rw[F4z,Pm.unesc_plain _ _ (by decide)]at h;refine⟨by simp[Pm.unesc],?_⟩
  cases hb:Pm.unesc b with
  |none=>rw[hb]at h;cases h
  |some x=>rfl
 |n+1,c::a,b,o,hn,h=>by
  by_cases hc:c=37
  ·subst hc
   match a,hn,h with
   |[],_,h=>
    match b,h with
    |[],h=>rw[B3z,Pm.a5c _ (by simp)]at h;cases h
    |y::b,h=>
     rw[B3z,F4z,Pm.a5b]at h;have hd:Pm.digsB 16 [47,y]=false:=by
      have:∀y,Pm.digsB 16 [47,y]=false:=λy=>by
       have:=Pm.a0g (p:=λy=>!(Pm.digsB 16 [47,y])) (by decide +kernel) y;simpa using this
      exact this y
     rw[hd]at h;simp at h
   |[x],_,h=>
    rw[B3z,B3z,F4z,Pm.a5b]at h;have hd:Pm.digsB 16 [x,47]=false:=by
     have:=Pm.a0g (p:=λy=>!(Pm.digsB 16 [y,47])) (by decide +kernel) x;simpa using this
    rw[hd]at h;simp at h
   |x::y::a,hn,h=>
    rw[B3z,B3z,B3z,Pm.a5b]at h;rw[Pm.a5b]
    cases hd:Pm.digsB 16 [x,y]
    ·rw[hd]at h;simp at h
    ·rw[hd,if_pos rfl]at h;rw[if_pos rfl]
     cases hu:Pm.unesc (a++47::b)with
     |none=>rw[hu]at h;cases h
     |some o'=>
      obtain⟨h1,h2⟩:=Jh n a b o' (by simp at hn;omega) hu;exact⟨by rw[Option.isSome_map];exact h1,h2⟩
  ·rw[B3z,Pm.unesc_plain _ _ hc]at h;rw[Pm.unesc_plain _ _ hc]
   cases hu:Pm.unesc (a++47::b)with
   |none=>rw[hu]at h;cases h
   |some o'=>
    obtain⟨h1,h2⟩:=Jh n a b o' (by simp at hn;omega) hu;exact⟨by rw[Option.isSome_map];exact h1,h2⟩
theorem b1E:∀(l:L8),Pm.unesc l=some []->l=[]
 |[],_=>rfl
 |c::r,h=>by
  by_cases hc:c=37
  ·subst hc
   match r,h with
   |[],h=>rw[Pm.a5c _ (by simp)]at h;cases h
   |[x],h=>rw[Pm.a5c _ (by simp)]at h;cases h
   |x::y::r,h=>
    rw[Pm.a5b]at h
    split at h
    ·cases hu:Pm.unesc r with
     |none=>rw[hu]at h;cases h
     |some o=>rw[hu]at h;simp at h
    ·cases h
  ·rw[Pm.unesc_plain _ _ hc]at h
   cases hu:Pm.unesc r with
   |none=>rw[hu]at h;cases h
   |some o=>rw[hu]at h;simp at h
theorem Wb{x:L8}(h:(Pm.unesc x).isSome):(Pm.unT x).toList.isEmpty=x.isEmpty:=by
 obtain⟨o,ho⟩:=Option.isSome_iff_exists.mp h;rw[Pm.a5a ho,A1z]
 cases o with
 |nil=>rw[b1E x ho]
 |cons a b=>
  cases x with
  |nil=>simp[Pm.unesc]at ho
  |cons=>rfl
theorem Ta(l:L8):∃x xs,Lib.split l [47]=x::xs:=by
 rcases Pm.a0r 47 l with h|⟨r,h⟩
 ·exact⟨_,_,Pm.a4m h⟩
 ·exact⟨_,_,Pm.a4n h⟩
theorem Tb(a b:L8)(r:List (List UInt8)):Dy (a::b::r)=a++47::Dy (b::r):=by simp[Dy]
theorem My:∀(n:Nat) (l:L8),l.length<=n->Dy (Lib.split l [47])=l
 |n,l,hn=>by
  rcases Pm.a0r 47 l with h|⟨r,h⟩
  ·rw[Pm.a4m h];simp[Dy]
  ·have h1:=Pm.a0c 47 l;rw[h]at h1;have h2:=congrArg List.length h1;rw[A0z,A9z]at h2
   match n,hn with
   |0,hn=>omega
   |n+1,hn=>
    have ih:=My n r (by omega);rw[Pm.a4n h];obtain⟨x,xs,hx⟩:=Ta r;rw[hx]at ih ⊢;rw[Tb,ih,h1]
theorem Wc:∀(ts:List (List UInt8)) (l:L8) (acc:List Prm),Lc ts->(Pm.unesc l).isSome ->
  Cj (ts.map pcB) l true acc=(Dm ts (Lib.split l [47])).map (λm=>acc++m)
 |[],l,acc,_,_=>by
  obtain⟨x,xs,hx⟩:=Ta l;rw[hx];rfl
 |t::r,l,acc,hr,hu=>by
  rw[B1z,Cj,if_neg (by simp)];unfold Qj Pd Xk;have hp1:(pcB t).1=Pm.a4e t:=rfl;have hp2:(pcB t).2=⟨(Pm.a4g t).toArray⟩:=rfl;rw[hp1,hp2];by_cases h2:Pm.a4e t=2
  ·have htk:tk (Pm.a4e t) ⟨(Pm.a4g t).toArray⟩ (Pm.unT l)=true:=by unfold tk;rw[h2];rfl
   have hn:Pm.a4e t≠0:=by omega
   rw[if_pos h2,htk,if_pos rfl,if_pos h2,if_pos h2,if_neg hn,hr.1 h2];obtain⟨x,xs,hx⟩:=Ta l;have hj:=My _ l (Ac _);rw[hx]at hj ⊢;rw[Dm,if_pos h2,hj];rfl
  ·rw[if_neg h2,if_neg h2,if_neg h2];have key:∀(x:L8) (xs:List (List UInt8)),(Pm.unesc x).isSome->Pm.ahead 47 l=x->Lib.split l [47]=x::xs ->
     (∀acc',Cj (r.map pcB) ((Pm.behind 47 l).drop 1) (!(Pm.behind 47 l).isEmpty) acc'=(Dm r xs).map (λm=>acc'++m)) ->
     (if tk (Pm.a4e t) ⟨(Pm.a4g t).toArray⟩ (Pm.unT (Pm.ahead 47 l))=true then Cj (r.map pcB) ((Pm.behind 47 l).drop 1) (!(Pm.behind 47 l).isEmpty) (if Pm.a4e t=0 then acc else acc++[(⟨(Pm.a4g t).toArray⟩,Pm.unT (Pm.ahead 47 l))])else none)=(Dm (t::r) (Lib.split l [47])).map (λm=>acc++m):=by
    intro x xs hx ha hs hi;rw[ha,hs,hi,Dm,if_neg h2];unfold tk;by_cases h0:Pm.a4e t=0
    ·rw[if_pos h0,if_pos h0,Fy h0,A1z,A1z]
     cases hm:Dm r xs with
     |none=>simp
     |some more=>
      by_cases he:(Pm.unT x).data.toList=t
      ·simp[he,h0]
      ·simp[he,h0]
    ·have h1:Pm.a4e t=1:=by rcases Fx t with h|h|h<;>omega
     rw[if_neg h0,if_pos h1,if_neg h0,Wb hx]
     cases hm:Dm r xs with
     |none=>simp
     |some more=>
      cases x with
      |nil=>simp[h0]
      |cons a b=>simp[h0]
   rcases Pm.a0r 47 l with h|⟨b,h⟩
   ·have ha:Pm.ahead 47 l=l:=by
     have:=Pm.a0c 47 l;rw[h,D9z]at this;exact this
    refine key l [] hu ha (Pm.a4m h) (λacc'=>?_);rw[h]
    cases r with
    |nil=>simp[Cj,Dm]
    |cons a b=>simp[Cj,Dm]
   ·have h1:=Pm.a0c 47 l;rw[h]at h1;obtain⟨o,ho⟩:=Option.isSome_iff_exists.mp hu;rw[<-h1]at ho;obtain⟨u1,u2⟩:=Jh _ _ _ _ (Ac _) ho;refine key _ _ u1 rfl (Pm.a4n h) (λacc'=>?_);rw[h];exact Wc r b acc' hr.2 u2
def tkL(p s:L8):Bool:=if Pm.a4e p=0 then p==s else((Pm.a4e p==2)||!s.isEmpty)
def Nu(x y t:L8):Bool:=(tkL x t&&tkL y t)&&(Pm.a4e t==0)
def fnd(x y:L8):Option (List UInt8):=if Nu x y x=true then some x else if Nu x y y=true then some y else if Nu x y [120]=true then some [120]else none
def xAt(A:List (List UInt8))(i:Nat):L8:=if i<A.length then A.getD i []else A.getD (A.length-1) []
def cmn(A B:List (List UInt8)):Nat->Option (List (List UInt8))
 |0=>some []
 |k+1=>match cmn A B k with
  |none=>none
  |some l=>match fnd (xAt A k) (xAt B k)with
   |none=>none
   |some c=>some (l++[c])
def Fe(cs:List (List UInt8)):L8:=cs.flatMap (λc=>47::c)
def b1F(A B:List (List UInt8)):Bool:=match cmn A B (max A.length B.length)with
 |none=>false
 |some cs=>(Dm A (pcs (Fe cs))).isSome&&(Dm B (pcs (Fe cs))).isSome
def Gt(A:List (List UInt8)):Prop:=Lc A/\∀t∈A,Pm.a4e t=0->Pm.a0h Pm.a1j t=true
def Qk(c:L8):Prop:=Pm.unT c=⟨c.toArray⟩/\Pm.behind 47 c=[]
theorem Xr(l:List (List UInt8))(d:L8)(i:Nat)(h:i<l.length):l.getD i d=l[i]:=by
 rw[D2z,Av h];rfl
theorem a8U(c:UInt8)(h:Pm.a1j c=true):c≠37/\c≠47:=by
 constructor<;>(rintro rfl;revert h;decide)
theorem Hp:∀(c:L8),Pm.a0h Pm.a1j c=true->Qk c
 |[],_=>⟨by simp[Pm.unT,Pm.unesc],by simp[Pm.behind]⟩
 |a::r,h=>by
  unfold Pm.a0h at h;rw[List.all_cons,A3z]at h;obtain⟨h1,h2⟩:=a8U a h.1;have hu:∀l:L8,Pm.a0h Pm.a1j l=true->Pm.unesc l=some l:=by
   intro l
   induction l with
   |nil=>intro _;simp[Pm.unesc]
   |cons b l ih=>
    intro hl;unfold Pm.a0h at hl;rw[List.all_cons,A3z]at hl;rw[Pm.unesc_plain _ _ (a8U b hl.1).1,ih hl.2];rfl
  refine⟨Pm.a5a (hu _ (by unfold Pm.a0h;rw[List.all_cons,h.1,h.2];rfl)),?_⟩;unfold Pm.behind;rw[E9z (by simpa using h2)];exact(Hp r h.2).2
theorem a5S{x y c:L8}(h:fnd x y=some c):Nu x y c=true/\(c=x\/c=y\/c=[120]):=by
 unfold fnd at h
 split at h
 ·rename_i h1;cases h;exact⟨h1,Or.inl rfl⟩
 ·split at h
  ·rename_i h1;cases h;exact⟨h1,Or.inr (Or.inl rfl)⟩
  ·split at h
   ·rename_i h1;cases h;exact⟨h1,Or.inr (Or.inr rfl)⟩
   ·cases h
theorem a8V{A:List (List UInt8)}(h:A≠[])(i:Nat):xAt A i∈A:=by
 have hl:0<A.length:=List.length_pos_iff.mpr h;unfold xAt
 split
 ·rename_i hi;rw[Xr _ _ _ hi];exact As hi
 ·rw[Xr _ _ _ (by omega)];exact As _
theorem b1G{A B:List (List UInt8)}(ha:A≠[])(hb:B≠[])(hA:Gt A)(hB:Gt B){i:Nat}{c:L8}(h:fnd (xAt A i) (xAt B i)=some c):Qk c:=by
 obtain⟨h1,h2⟩:=a5S h;have hk:Pm.a4e c=0:=by
  unfold Nu at h1;rw[A3z]at h1;simpa using h1.2
 apply Hp;rcases h2 with rfl|rfl|rfl
 ·exact hA.2 _ (a8V ha i) hk
 ·exact hB.2 _ (a8V hb i) hk
 ·decide +kernel
theorem Pi{A B:List (List UInt8)}(ha:A≠[])(hb:B≠[])(hA:Gt A)(hB:Gt B):∀(k:Nat) (cs:List (List UInt8)),cmn A B k=some cs->cs.length=k/\∀c∈cs,Qk c
 |0,cs,h=>by rw[cmn]at h;cases h;simp
 |k+1,cs,h=>by
  rw[cmn]at h
  cases hc:cmn A B k with
  |none=>rw[hc]at h;cases h
  |some l=>
   rw[hc]at h;simp only at h
   cases hf:fnd (xAt A k) (xAt B k)with
   |none=>rw[hf]at h;cases h
   |some c=>
    rw[hf]at h;simp only at h;cases h;obtain⟨i1,i2⟩:=Pi ha hb hA hB k l hc;refine⟨by simp[i1],λc' hc'=>?_⟩;rcases List.mem_append.mp hc' with h|h
    ·exact i2 _ h
    ·rw[List.mem_singleton.mp h];exact b1G ha hb hA hB hf
theorem a1B{c r:L8}(h:Pm.behind 47 c=[]):Pm.ahead 47 (c++47::r)=c/\Pm.behind 47 (c++47::r)=47::r:=by
 induction c with
 |nil=>simp[Pm.ahead,Pm.behind]
 |cons a c ih=>
  have ha:a≠47:=by
   rintro rfl;simp[Pm.behind]at h
  have h':Pm.behind 47 c=[]:=by
   unfold Pm.behind at h ⊢;rw[E9z (by simpa using ha)]at h;exact h
  obtain⟨i1,i2⟩:=ih h';unfold Pm.ahead Pm.behind at *
  rw[B3z,List.takeWhile_cons_of_pos (by simpa using ha),E9z (by simpa using ha),i1,i2];exact⟨rfl,rfl⟩
theorem Tc:∀(cs:List (List UInt8)),(∀c∈cs,Qk c)->pcs (Fe cs)=cs
 |[],_=>rfl
 |c::r,h=>by
  have hc:=(h c (by simp)).2;have hr:=Tc r (λx hx=>h x (by simp[hx]));have he:Fe (c::r)=47::(c++Fe r):=by simp[Fe]
  rw[he,Nt (by simp),List.drop_one,List.tail_cons]
  cases r with
  |nil=>
   have e:Fe []=[]:=rfl;have ha:Pm.ahead 47 c=c:=by
    have:=Pm.a0c 47 c;rw[hc,D9z]at this;exact this
   rw[e,D9z,ha,hc];rfl
  |cons b r=>
   have e:Fe (b::r)=47::(b++Fe r):=by simp[Fe]
   rw[e]at hr ⊢;obtain⟨h1,h2⟩:=a1B (r:=b++Fe r) hc;rw[h1,h2,hr]
def c2J(c:L8):Prop:=(Pm.unT c).data.toList=[]->c=[]
theorem a5T{c:L8}(h:Qk c):c2J c:=λh'=>by rw[h.1]at h';exact h'
theorem Td:∀(A B cs:List (List UInt8)),(∀c∈cs,c2J c)->(Dm A cs).isSome->(Dm B cs).isSome->ovl (A.map pcB) (B.map pcB)=true
 |[],[],_,_,_,_=>rfl
 |[],b::B,[],_,_,h=>by simp[Dm]at h
 |[],b::B,c::cs,_,h,_=>by simp[Dm]at h
 |a::A,[],[],_,h,_=>by simp[Dm]at h
 |a::A,[],c::cs,_,_,h=>by simp[Dm]at h
 |a::A,b::B,[],_,h,_=>by simp[Dm]at h
 |a::A,b::B,c::cs,hc,h1,h2=>by
  rw[B1z,B1z,ovl];have ea:(pcB a).1=Pm.a4e a:=rfl;have eb:(pcB b).1=Pm.a4e b:=rfl;rw[ea,eb];by_cases hr:Pm.a4e a=2\/Pm.a4e b=2
  ·rw[if_pos hr]
  ·rw[if_neg hr];have na:Pm.a4e a≠2:=λh=>hr (Or.inl h);have nb:Pm.a4e b≠2:=λh=>hr (Or.inr h);rw[Dm,if_neg na]at h1;rw[Dm,if_neg nb]at h2
   cases e1:Dm A cs with
   |none=>rw[e1]at h1;cases h1
   |some m1=>
    cases e2:Dm B cs with
    |none=>rw[e2]at h2;cases h2
    |some m2=>
     rw[e1]at h1;rw[e2]at h2;simp only at h1 h2;have ih:=Td A B cs (λx hx=>hc x (by simp[hx])) (by rw[e1];rfl) (by rw[e2];rfl);have hu:c≠[]->(Pm.unT c).data.toList≠[]:=λh h'=>h (hc c (by simp) h');rw[ih];have hm:mt (pcB a) (pcB b)=true:=by
      unfold mt tk;rw[ea,eb];have ta:(pcB a).2=⟨(Pm.a4g a).toArray⟩:=rfl;have tb:(pcB b).2=⟨(Pm.a4g b).toArray⟩:=rfl;rw[ta,tb,A1z,A1z];by_cases ka:Pm.a4e a=0
      ·rw[if_pos ka]at h1 ⊢;have hca:(Pm.unT c).data.toList=a:=by
        split at h1
        ·assumption
        ·cases h1
       rw[hca]at h2 hu;rw[Fy ka];by_cases kb:Pm.a4e b=0
       ·rw[if_pos kb]at h2 ⊢;rw[Fy kb]
        split at h2
        ·rename_i h;rw[h];simp
        ·cases h2
       ·have kb1:Pm.a4e b=1:=by rcases Fx b with h|h|h<;>omega
        rw[if_neg kb]at h2 ⊢;rw[if_pos kb1];have hcn:c≠[]:=by rintro rfl;simp at h2
        have:=hu hcn
        cases a with
        |nil=>exact absurd rfl this
        |cons=>rfl
      ·have ka1:Pm.a4e a=1:=by rcases Fx a with h|h|h<;>omega
       rw[if_neg ka]at h1 ⊢;by_cases kb:Pm.a4e b=0
       ·rw[if_pos kb]at h2;rw[kb,Fy kb,if_neg ka,if_pos ka1];have hcb:(Pm.unT c).data.toList=b:=by
         split at h2
         ·assumption
         ·cases h2
        rw[hcb]at hu;have hcn:c≠[]:=by rintro rfl;simp at h1
        have:=hu hcn
        cases b with
        |nil=>exact absurd rfl this
        |cons=>rfl
       ·have kb1:Pm.a4e b=1:=by rcases Fx b with h|h|h<;>omega
        rw[kb1];rfl
     rw[if_pos hm]
def Jw(y:L8):L8:=if Pm.a4e y=0 then y else[120]
theorem b5H:Pm.a4e [120]=0:=by decide
theorem a8W(y:L8):tkL y (Jw y)=true:=by
 unfold tkL Jw
 split
 ·simp
 ·simp
theorem a1C{p y:L8}(h:Pm.a4e p=2):fnd p y=some (Jw y)/\fnd y p=some (Jw y):=by
 have hp:∀t,tkL p t=true:=λt=>by unfold tkL;rw[if_neg (by omega),h];rfl
 have f1:∀t,Nu p y t=(tkL y t&&(Pm.a4e t==0)):=λt=>by unfold Nu;rw[hp,D4z]
 have f2:∀t,Nu y p t=(tkL y t&&(Pm.a4e t==0)):=λt=>by unfold Nu;rw[hp,Bool.and_true]
 have kp:(Pm.a4e p==0)=false:=by rw[h];rfl
 unfold fnd;rw[f1,f1,f1,f2,f2,f2,kp,C7z];by_cases ky:Pm.a4e y=0
 ·have t1:tkL y y=true:=by have:=a8W y;unfold Jw at this;rwa [if_pos ky]at this
  have e:Jw y=y:=by unfold Jw;rw[if_pos ky]
  rw[t1,ky,e];simp
 ·have e:Jw y=[120]:=by unfold Jw;rw[if_neg ky]
  have t1:tkL y [120]=true:=by rw[<-e];exact a8W y
  have kk:(Pm.a4e y==0)=false:=by rw[Ar];exact ky
  rw[t1,kk,b5H,e];simp
theorem Te:∀(B:List (List UInt8)),Gt B->(∀c∈B.map Jw,Qk c)->(Dm B (B.map Jw)).isSome
 |[],_,_=>rfl
 |b::B,h,hc=>by
  rw[B1z,Dm];by_cases h2:Pm.a4e b=2
  ·rw[if_pos h2];rfl
  ·rw[if_neg h2];have ih:=Te B ⟨h.1.2,λt ht=>h.2 t (by simp[ht])⟩ (λc hx=>hc c (by rw[B1z];simp only[C3z];exact Or.inr hx));obtain⟨m,hm⟩:=Option.isSome_iff_exists.mp ih;rw[hm];simp only;have hu:(Pm.unT (Jw b)).data.toList=Jw b:=by rw[(hc (Jw b) (by simp)).1]
   rw[hu];unfold Jw;by_cases h0:Pm.a4e b=0
   ·rw[if_pos h0,if_pos h0,if_pos rfl];rfl
   ·rw[if_neg h0,if_neg h0];simp
theorem Tf{B:List (List UInt8)}(h:Gt B):∀c∈B.map Jw,Qk c:=λc hc=>by
 obtain⟨y,hy,rfl⟩:=List.mem_map.mp hc;apply Hp;unfold Jw
 split
 ·rename_i hk;exact h.2 y hy hk
 ·decide +kernel
theorem a1D{a:L8}{A:List (List UInt8)}(h:A≠[])(i:Nat):xAt (a::A) (i+1)=xAt A i:=by
 have hl:0<A.length:=List.length_pos_iff.mpr h;unfold xAt;by_cases hi:i<A.length
 ·rw[if_pos (by simpa using hi),if_pos hi,List.getD_cons_succ]
 ·rw[if_neg (by simpa using hi),if_neg hi,A9z];rw[show A.length+1-1=(A.length-1)+1 from by omega,List.getD_cons_succ]
theorem Ro(a:L8)(i:Nat):xAt [a] i=a:=by
 unfold xAt
 split
 ·rename_i h;obtain rfl:i=0:=by simpa using h
  rfl
 ·rfl
theorem a1E(B:List (List UInt8))(i:Nat)(h:i<B.length):xAt B i=B[i]:=by
 unfold xAt;rw[if_pos h,Xr _ _ _ h]
theorem a1F:∀(A B:List (List UInt8)),A≠[]->B≠[]->Gt A->Gt B->ovl (A.map pcB) (B.map pcB)=true ->
  ∃cs:List (List UInt8),cs.length=max A.length B.length/\(∀i (h:i<cs.length),fnd (xAt A i) (xAt B i)=some cs[i])/\(Dm A cs).isSome/\(Dm B cs).isSome
 |[],_,h,_,_,_,_=>absurd rfl h
 |_::_,[],_,h,_,_,_=>absurd rfl h
 |a::A,b::B,_,_,hA,hB,ho=>by
  by_cases ra:Pm.a4e a=2
  ·obtain rfl:=hA.1.1 ra;refine⟨(b::B).map Jw,by simp,λi hi=>?_,?_,Te _ hB (Tf hB)⟩
   ·rw[Ro,List.getElem_map,a1E _ _ (by simpa using hi)];exact(a1C ra).1
   ·rw[B1z,Dm,if_pos ra];rfl
  ·by_cases rb:Pm.a4e b=2
   ·obtain rfl:=hB.1.1 rb;refine⟨(a::A).map Jw,by simp,λi hi=>?_,Te _ hA (Tf hA),?_⟩
    ·rw[Ro,List.getElem_map,a1E _ _ (by simpa using hi)];exact(a1C rb).2
    ·rw[B1z,Dm,if_pos rb];rfl
   ·rw[B1z,B1z,ovl]at ho;have ea:(pcB a).1=Pm.a4e a:=rfl;have eb:(pcB b).1=Pm.a4e b:=rfl;rw[ea,eb,if_neg (by rintro(h|h)<;>contradiction)]at ho
    split at ho
    ·rename_i hm
     have hc:∃c,fnd a b=some c/\Qk c/\(if Pm.a4e a=0 then c=a else c≠[])/\(if Pm.a4e b=0 then c=b else c≠[]):=by
      unfold mt tk at hm;rw[ea,eb]at hm;have ta:(pcB a).2=⟨(Pm.a4g a).toArray⟩:=rfl;have tb:(pcB b).2=⟨(Pm.a4g b).toArray⟩:=rfl;rw[ta,tb,A1z,A1z]at hm;unfold fnd Nu tkL;by_cases ka:Pm.a4e a=0
      ·rw[if_pos ka]at hm;rw[Fy ka]at hm;have ca:=Hp a (hA.2 a (by simp) ka);by_cases kb:Pm.a4e b=0
       ·rw[if_pos kb,Fy kb]at hm;have hab:a=b:=by simpa using hm
        subst hab;exact⟨a,by simp[ka],ca,by simp[ka],by simp[ka]⟩
       ·have kb1:Pm.a4e b=1:=by rcases Fx b with h|h|h<;>omega
        rw[if_neg kb,if_pos kb1]at hm;have hae:a≠[]:=by rintro rfl;simp at hm
        exact⟨a,by simp[ka,kb1,hae],ca,by simp[ka],by simp[kb1,hae]⟩
      ·have ka1:Pm.a4e a=1:=by rcases Fx a with h|h|h<;>omega
       rw[if_neg ka]at hm;by_cases kb:Pm.a4e b=0
       ·rw[kb,Fy kb,if_neg ka,if_pos ka1]at hm;have hbe:b≠[]:=by rintro rfl;simp at hm
        have cb:=Hp b (hB.2 b (by simp) kb);exact⟨b,by simp[ka1,kb,hbe],cb,by simp[ka1,hbe],by simp[kb]⟩
       ·have kb1:Pm.a4e b=1:=by rcases Fx b with h|h|h<;>omega
        exact⟨[120],by simp[ka1,kb1,b5H],Hp _ (by decide +kernel),by simp[ka1],by simp[kb1]⟩
     obtain⟨c,hf,hcl,c1,c2⟩:=hc;have hu:(Pm.unT c).data.toList=c:=by rw[hcl.1]
     have step:∀(t:L8) (T cs:List (List UInt8)),Pm.a4e t≠2->(if Pm.a4e t=0 then c=t else c≠[])->(Dm T cs).isSome->(Dm (t::T) (c::cs)).isSome:=by
      intro t T cs h2 hc hs;obtain⟨m,hm⟩:=Option.isSome_iff_exists.mp hs;rw[Dm,if_neg h2,hm];simp only[hu];by_cases h0:Pm.a4e t=0
      ·rw[if_pos h0]at hc ⊢;rw[if_pos hc];rfl
      ·rw[if_neg h0]at hc ⊢;rw[if_neg hc];rfl
     cases A with
     |nil=>
      cases B with
      |nil=>
       refine⟨[c],rfl,λi hi=>?_,step _ _ _ ra c1 rfl,step _ _ _ rb c2 rfl⟩;obtain rfl:i=0:=by simpa using hi
       rw[Ro,Ro];exact hf
      |cons b' B=>simp[ovl]at ho
     |cons a' A=>
      cases B with
      |nil=>simp[ovl]at ho
      |cons b' B=>
       obtain⟨cs,l1,l2,l3,l4⟩:=a1F (a'::A) (b'::B) (by simp) (by simp) ⟨hA.1.2,λt ht=>hA.2 t (by simp only[C3z]at ht ⊢;exact Or.inr ht)⟩ ⟨hB.1.2,λt ht=>hB.2 t (by simp only[C3z]at ht ⊢;exact Or.inr ht)⟩ ho;refine⟨c::cs,by simp only[A9z]at l1 ⊢;omega,λi hi=>?_,step _ _ _ ra c1 l3,step _ _ _ rb c2 l4⟩
       match i,hi with
       |0,_=>exact hf
       |i+1,hi=>
        rw[a1D (by simp),a1D (by simp),List.getElem_cons_succ];exact l2 i (by simpa using hi)
    ·cases ho
theorem b5I(A B:List (List UInt8))(cs:List (List UInt8))(h:∀i (h:i<cs.length),fnd (xAt A i) (xAt B i)=some cs[i]):∀k,k<=cs.length->cmn A B k=some (cs.take k)
 |0,_=>by rw[cmn,List.take_zero]
 |k+1,hk=>by
  rw[cmn,b5I A B cs h k (by omega)];simp only;rw[h k (by omega)];simp only;rw[List.take_add_one,Av (by omega)];rfl
theorem a1G{A B:List (List UInt8)}(ha:A≠[])(hb:B≠[])(hA:Gt A)(hB:Gt B):b1F A B=ovl (A.map pcB) (B.map pcB):=by
 rw[B9z];constructor
 ·intro h;unfold b1F at h
  cases hc:cmn A B (max A.length B.length)with
  |none=>rw[hc]at h;cases h
  |some cs=>
   rw[hc]at h;obtain⟨_,h2⟩:=Pi ha hb hA hB _ _ hc;simp only[Tc cs h2,A3z]at h;exact Td A B cs (λc hc=>a5T (h2 c hc)) h.1 h.2
 ·intro h;obtain⟨cs,l1,l2,l3,l4⟩:=a1F A B ha hb hA hB h;have hc:=b5I A B cs l2 cs.length (Ac _);rw[E8z,l1]at hc;obtain⟨_,h2⟩:=Pi ha hb hA hB _ _ hc;unfold b1F;rw[hc];simp only;rw[Tc cs h2,l3,l4];rfl
theorem Nv:∀(n:Nat) (l:L8),l.length<=n->(Pm.unesc l).isSome->∀c∈Lib.split l [47],(Pm.unesc c).isSome
 |n,l,hn,hu=>by
  rcases Pm.a0r 47 l with h|⟨r,h⟩
  ·rw[Pm.a4m h];intro c hc;rw[List.mem_singleton.mp hc];exact hu
  ·have h1:=Pm.a0c 47 l;rw[h]at h1;have h2:=congrArg List.length h1;rw[A0z,A9z]at h2;obtain⟨o,ho⟩:=Option.isSome_iff_exists.mp hu;rw[<-h1]at ho;obtain⟨u1,u2⟩:=Jh _ _ _ _ (Ac _) ho;rw[Pm.a4n h]
   match n,hn with
   |0,hn=>omega
   |n+1,hn=>
    intro c hc;rcases List.mem_cons.mp hc with rfl|hc
    ·exact u1
    ·exact Nv n r (by omega) u2 c hc
theorem Ql{l:L8}(h:Pm.a1z l=true):∃r,l=47::r/\(Pm.unesc r).isSome/\pcs l=Lib.split r [47]:=by
 unfold Pm.a1z at h;rw[A3z]at h;obtain⟨h1,h2⟩:=h
 cases l with
 |nil=>simp[Lib.hasPrefix]at h2
 |cons c s=>
  have hc:c=47:=by
   unfold Lib.hasPrefix at h2;exact(by simpa[List.isPrefixOf]using h2:47=c).symm
  subst hc;obtain⟨o,ho⟩:=Option.isSome_iff_exists.mp h1;refine⟨s,rfl,(Jh 0 [] s o (Ac _) ho).2,?_⟩;unfold pcs;rw[if_neg (by simp)];rfl
theorem b1H{l:L8}(h:Pm.a1z l=true):∀c∈pcs l,c2J c:=λc hc=>by
 obtain⟨r,rfl,hu,hp⟩:=Ql h;rw[hp]at hc;have:=Nv _ r (Ac _) hu c hc;intro h';have he:=Wb this;rw[A1z,h']at he
 cases c with
 |nil=>rfl
 |cons=>cases he
def hs(A:List (List UInt8))(l:L8):Option (List Prm):=Dm A (pcs l)
theorem Th{A:List (List UInt8)}{l:L8}(hA:Lc A)(h:Pm.a1z l=true):Cj (A.map pcB) (l.drop 1) true []=hs A l:=by
 obtain⟨r,rfl,hu,hp⟩:=Ql h;rw[List.drop_one,List.tail_cons,Wc _ _ _ hA hu];unfold hs;rw[hp]
 cases Dm A (Lib.split r [47])<;>rfl
theorem b9Q{A B:List (List UInt8)}{l:L8}(h:Pm.a1z l=true)(h1:(hs A l).isSome)(h2:(hs B l).isSome):ovl (A.map pcB) (B.map pcB)=true:=
 Td A B _ (b1H h) h1 h2
end Go.Proofs.YtbiggccolpchcaaGreatDoor
namespace Go.Proofs.YtbiggccolpchcaaGreatDoor
open Go.RowKit _root_.Go.Proofs.Tryz
theorem a1H:∀(A B:List (List UInt8)) (ps:List Prm),Dm A B=some ps->ps.length<=A.length
 |[],[],ps,h=>by rw[Dm]at h;cases h;simp
 |[],_::_,ps,h=>by rw[Dm]at h;cases h
 |_::_,[],ps,h=>by rw[Dm]at h;cases h
 |t::r,x::xs,ps,h=>by
  rw[Dm]at h
  split at h
  ·cases h;simp
  ·cases hm:Dm r xs with
   |none=>rw[hm]at h;cases h
   |some more=>
    rw[hm]at h;simp only at h;have:=a1H r xs more hm
    split at h
    ·split at h
     ·cases h;simp;omega
     ·cases h
    ·split at h
     ·cases h
     ·cases h;simp;omega
theorem b1I(a:L8)(r:List (List UInt8)):a.length<=(Dy (a::r)).length/\(Dy r).length<=(Dy (a::r)).length:=by
 cases r with
 |nil=>simp[Dy]
 |cons b r=>rw[Tb,A0z,A9z];omega
theorem StO.tail{t:By}{ts:List By}{g o:Nat}{w:World}(h:StO (t::ts) (some ⟨g,o,none⟩) w):StO ts (some ⟨g,o+1,none⟩) w:=λi hi=>by
 obtain⟨g',o',h1,h2,h3⟩:=h (i+1) (by simpa using hi);simp only[Option.some.injEq,Addr.mk.injEq,and_true]at h1;obtain⟨rfl,rfl⟩:=h1;exact⟨g,o+1,rfl,h2,by rw[show o+1+i=o+(i+1)from by omega];simpa using h3⟩
theorem StO.head{t:By}{ts:List By}{a:Oa}{w:World}(h:StO (t::ts) a w):∃g o,a=some ⟨g,o,none⟩/\g<w.heap.size/\w.cell? ⟨g,o,none⟩=some (.string t):=by
 obtain⟨g,o,h1,h2,h3⟩:=h 0 (by simp);exact⟨g,o,h1,h2,by simpa using h3⟩
theorem StO.of_owns{w:World}{B:Nat}{e:TypeId}{v:Value}{ts:List By}(h:w.ownsRow B e 1 v ts.length (ts.map Value.string)):∃a c,v=.slice a ts.length c/\ts.length<=c/\StO ts a w:=by
 obtain⟨h1,h2⟩:=h;rcases h2 with⟨h2,h3⟩|⟨g,cap,cur,hv,hB,hg,hc,hm,hsz,ht⟩
 ·refine⟨none,0,by rw[h3];exact h2,by omega,λi hi=>absurd hi (by omega)⟩
 ·refine⟨some ⟨g,0,none⟩,cap,hv,hc,λi hi=>⟨g,0,rfl,?_,?_⟩⟩
  ·rcases B8z g w.heap.size with h'|h'
   ·exact h'
   ·simp[Array.getElem?_eq_none h']at hg
  ·rw[Ab hg];have h3:(cur.toList.take (ts.length*1))[i]?=some (.string ts[i]):=by rw[ht];simp[hi]
   rw[D0z]at h3
   split at h3
   ·simpa using h3
   ·cases h3
def c2K(PO:Option (List Prm))(B:Nat)(r:Ending)(w':World):Prop:=
 ∃v,r=.returned (.tuple #[v,.bool PO.isSome])/\∀ps,PO=some ps->w'.ownsRow B 129 2 v ps.length (Bg ps)
theorem b1J(a b:Oa)(ca cb n:Nat)(w:World)(hn:0<n)(hl:n<=4398046511104):
  Calls prog 162 #[.slice a 0 ca,.slice b n cb] w λr w'=>r=.returned (.tuple #[.slice none 0 0,.bool false])/\w'=w:=by
 have h1:((0:Int)==(n:Int))=false:=by rw[Ar];omega
 go_enter func162,ntmps162;go_wp2
 go_ret2
 exact⟨rfl,rfl⟩
theorem a5U(a b:Oa)(ca cb n:Nat)(w:World)(hn:0<n)(hl:n<=4398046511104):
  Calls prog 162 #[.slice a n ca,.slice b 0 cb] w λr w'=>r=.returned (.tuple #[.slice none 0 0,.bool false])/\w'=w:=by
 have h1:((n:Int)==0)=false:=by rw[Ar];omega
 go_enter func162,ntmps162;go_wp2
 go_ret2
 exact⟨rfl,rfl⟩
theorem b1K(a b:Oa)(ca cb:Nat)(w:World):
  Calls prog 162 #[.slice a 0 ca,.slice b 0 cb] w λr w'=>r=.returned (.tuple #[.slice none 0 0,.bool true])/\w'=w:=by
 go_enter func162,ntmps162;go_wp2
 go_ret2
 exact⟨rfl,rfl⟩
theorem a5V{w:World}{B:Nat}{e:TypeId}{v:Value}{ps:List Prm}(h:w.ownsRow B e 2 v ps.length (Bg ps))(hn:ps≠[]):∃g cap,v=.slice (some ⟨g,0,none⟩) ps.length cap/\g<w.heap.size/\∀j u,(Bg ps)[j]?=some u->w.cell? ((⟨g,0,none⟩:Addr).add j)=some u:=by
 obtain⟨g,cap,rfl,hB,hg⟩:=h.form (List.length_pos_iff.mpr hn);exact⟨g,cap,rfl,hg,h.cells (g:=g) rfl⟩
theorem a1I(ps:List Prm):∀u∈Bg ps,u.oneCell'=true:=λu hu=>by
 unfold Bg at hu;obtain⟨f,_,hf⟩:=List.mem_flatMap.mp hu;simp at hf;rcases hf with rfl|rfl<;>rfl
theorem a1J(ps:List Prm):(Bg ps).length=ps.length*2:=by
 induction ps with
 |nil=>rfl
 |cons a r ih=>simp[Bg]at ih ⊢;omega
theorem a5W{w:World}{B:Nat}{e:TypeId}{v:Value}(h:w.ownsRow B e 2 v 0 []):∃a c,v=.slice a 0 c:=by
 rcases h.2 with⟨rfl,_⟩|⟨g,cap,cur,rfl,_⟩
 ·exact⟨_,_,rfl⟩
 ·exact⟨_,_,rfl⟩
section
variable{P:Program}(w:World)
theorem Mz{ops:Array Oper}{rest:List Oper}{o:Oper}{a:Act}{Q:Exit->Act->World->Prop}(hgd:o.guard=none)(s x:Operand)(t:TypeId)
  (ho:o.op=.call {callee:=.builtin .append,args:=#[s,x],argTypes:=#[t,t]})
  (e:TypeId) (i:TypeInfo) (ht:P.underlying t=some (.slice e)) (hi:P.info? e=some i) (base:Oa) (sLen sCap:Nat) (hle:sLen<=sCap)
  (hs:a.eval s=.slice base sLen sCap) (ma:Oa) (mc:Nat) (hx:a.eval x=.slice ma 0 mc)
  (h:wpList P ops Q rest (a.put o.dst (.slice base sLen sCap)) w):wpList P ops Q (o::rest) a w:=by
 refine wpList_plain hgd λK hK=>?_;have hr:=run_append_nothing (P:=P) w t t o.type e i ht hi base sLen sCap hle (.slice ma 0 mc) (by
  cases ma with
  |none=>exact Src.ofNil w ht mc
  |some ad=>exact Src.ofSlice w ht ad 0 mc [] (by simp) (λj u hj=>by simp at hj) (λu hu=>by cases hu))
 unfold Oper.wp execOp;simp only[ho,resolve,invoke,builtin,Sem.run_bind,Sem.run_pure,Result.andThen_ok,List.map_toArray,B1z,E0z,hs,hx,hr];exact hK _ _ h
end
theorem b5J:∀(ts xs:List By) (a b:Oa) (ca cb:Nat) (w:World),StO ts a w->StO xs b w->ts.length<=ca->xs.length<=cb->ts.length<=1000000->xs.length<=4398046511104->(Dy (xs.map (·.data.toList))).length<=4398046511104->(∀t∈ts,t.size<=1000000) ->
  Calls prog 162 #[.slice a ts.length ca,.slice b xs.length cb] w λr w'=>c2K (Dm (ts.map (·.data.toList)) (xs.map (·.data.toList))) w.heap.size r w'/\Bw w w':=by
 obtain⟨i0,hi,hz0,hz1,hz2⟩:=info_parts Tryz.infoPr;intro ts
 induction ts with
 |nil=>
  intro xs a b ca cb w _ _ _ _ _ hxl _ _
  cases xs with
  |nil=>
   refine(b1K a b ca cb w).mono ?_;rintro e w' ⟨rfl,rfl⟩;exact⟨⟨_,rfl,λps h=>by cases h;exact Am _ _ _ _⟩,Ad _ _⟩
  |cons x xs=>
   refine(b1J a b ca cb (x::xs).length w (by simp) hxl).mono ?_;rintro e w' ⟨rfl,rfl⟩;exact⟨⟨_,rfl,λps h=>by cases h⟩,Ad _ _⟩
 |cons t ts ih=>
  intro xs a b ca cb w hta hxb hca hcb htl hxl hjl htz
  cases xs with
  |nil=>
   refine(a5U a b ca cb (t::ts).length w (by simp) (by omega)).mono ?_;rintro e w' ⟨rfl,rfl⟩;exact⟨⟨_,rfl,λps h=>by cases h⟩,Ad _ _⟩
  |cons x xs=>
   have HJ:=hid (λW (hW:Bw w W)=>b1B (x::xs) b cb W (hxb.below hW) hxl hjl);obtain⟨g,o,rfl,hg,hct⟩:=hta.head;obtain⟨g2,o2,rfl,hg2,hcx⟩:=hxb.head;have HCX:=hid hcx;have HG2:=hid hg2;obtain⟨a',ha'⟩:∃a':Oa,(if ca=1 then some ⟨g,o,none⟩else some ⟨g,o+1,none⟩)=a':=⟨_,rfl⟩;obtain⟨b',hb'⟩:∃b':Oa,(if cb=1 then some ⟨g2,o2,none⟩else some ⟨g2,o2+1,none⟩)=b':=⟨_,rfl⟩;have HTA:Hid (StO ts a' w):=by
    unfold Hid;rw[<-ha'];split
    ·intro i hi;rw[A9z]at hca;omega
    ·exact hta.tail
   have HXB:Hid (StO xs b' w):=by
    unfold Hid;rw[<-hb'];split
    ·intro i hi;rw[A9z]at hcb;omega
    ·exact hxb.tail
   have jt:=b1I x.data.toList (xs.map (·.data.toList));rw[B1z]at hjl;have hxl2:x.data.toList.length=x.size:=by simp
   have htz1:=htz t (by simp);rw[A9z]at hca hcb htl hxl;have IH:=hid (λW (hW:Bw w W)=>ih xs a' b' (ca-1) (cb-1) W (HTA.out.below hW) (HXB.out.below hW) (by omega) (by omega) (by omega) (by omega) (by omega) (λt' ht'=>htz t' (by simp[ht'])));have HLN:=hid (λps h=>a1H (ts.map (·.data.toList)) (xs.map (·.data.toList)) ps h);rw[A8z]at HLN;have HU:=hid (λ(s:By) W (h:s.size<=4398046511104)=>Mn s W (by unfold maxLen;omega));have HR:=hid (λW=>Kw t W);have HF:=hid (λW=>Gi t W);have HN:=hid (λW=>Mw t W (by unfold maxLen;omega));generalize hPO:Dm ((t::ts).map (·.data.toList)) ((x::xs).map (·.data.toList))=PO;have HPO:=hid hPO;rw[B1z,B1z,Dm]at HPO;have HNM:=hid (@Sz t);rw[A9z,A9z]at *
   clear hta hxb ih hPO htz;generalize Dm (ts.map (·.data.toList)) (xs.map (·.data.toList))=MO at *
   generalize hK:Pm.a4e t.data.toList=K at *
   clear hK;have z1:((ts.length:Int)+1==0)=false:=by rw[Ar];omega
   have z2:((xs.length:Int)+1==0)=false:=by rw[Ar];omega
   go_enter func162,ntmps162;go_wp2_with fail;refine(HR.out _).mono ?_;rintro e w1 ⟨rfl,hb1⟩;have hct1:=Aa hb1 hct;have hg1:g<w1.heap.size:=Af hg hb1.size;go_wp2_with fail;refine(HF.out _).mono ?_;rintro e w2 ⟨rfl,hb2⟩;have hB2:=Bc hb1 hb2;have hct2:=Aa hb2 hct1;have hg2':g<w2.heap.size:=Af hg1 hb2.size;go_wp2_with fail;refine(HN.out _).mono ?_;rintro e w3 ⟨rfl,hb3⟩;have hB3:=Bc hB2 hb3;have hct3:=Aa hb3 hct2;have hcx3:=Aa hB3 hcx;have hg3:g<w3.heap.size:=Af hg2' hb3.size;have hg23:g2<w3.heap.size:=Af hg2 hB3.size;clear HR HF HN hct1 hct2 hct hcx hg1 hg2' hb1 hb2 hb3 hB2 hg hg2;generalize Dq t=nm at *
   by_cases h2:K=2
   ·have hk2:(K==2)=true:=by rw[h2];rfl
    have HNM2:=hid (HNM.out (by omega));rw[if_pos h2]at HPO;rw[hk2];clear HNM h2 IH HTA HXB;go_wp2_with fail;refine(HJ.out _ hB3).mono ?_;rintro e w4 ⟨⟨s,rfl,hs⟩,hw4⟩;subst hw4;rw[B1z]at hs;have hsz:s.size<=4398046511104:=by
     have:s.data.toList.length=s.size:=by simp
     rw[hs]at this;exact this ▸ hjl
    have HUs:=hid (λW=>HU.out s W hsz);rw[hs]at HUs;clear HJ HU;go_wp2_with fail;refine(HUs.out _).mono ?_;rintro e w5 ⟨rfl,hb5⟩;have hB5:=Bc hB3 hb5;have HS:Hid (PO=some [(nm,Pm.unT (Dy (x.data.toList::xs.map (·.data.toList))))]):=by unfold Hid;rw[<-HPO.out,HNM2.out]
    generalize Pm.unT (Dy (x.data.toList::xs.map (·.data.toList)))=vv at *
    clear HUs hs hsz HPO HNM2 hct3 hcx3 jt hjl;go_wp2
    go_ret2
    rw[HS.out];refine⟨⟨_,rfl,λps h=>?_⟩,hB5.alloc hB5.size _⟩
    cases h
    exact World.ownsRow_lit _ #[.string nm,.string vv] 1 hB5.size (by decide) rfl
   ·have hk2:(K==2)=false:=by rw[Ar];exact h2
    rw[if_neg h2]at HPO;rw[hk2];have HUs:=hid (λW=>HU.out x W (by omega));clear HJ HU;go_wp2_with fail;refine(HUs.out _).mono ?_;rintro e w4 ⟨rfl,hb4⟩;have hB4:=Bc hB3 hb4;have hct4:=Aa hb4 hct3;have hcx4:=Aa hb4 hcx3;have hg4:g<w4.heap.size:=Af hg3 hb4.size;have hg24:g2<w4.heap.size:=Af hg23 hb4.size;clear HUs hct3 hcx3 hg3 hg23 hb4 hB3;go_wp2_with fail;have y1:(1:Int)<=(ts.length:Int)+1:=by omega
    have y2:(ts.length:Int)+1<=(ca:Int):=by omega
    have y3:(1:Int)<=(xs.length:Int)+1:=by omega
    have y4:(xs.length:Int)+1<=(cb:Int):=by omega
    go_region_with (go_at_call 162;refine(IH.out _ hB4.drew).mono ?_;rintro e w5 ⟨⟨mv,rfl,hmv⟩,hb5⟩)
    all_goals
     have hB5:=Bc hB4.drew hb5;have hct5:=Aa hb5 (show w4.drew.cell? _=_ from hct4);have hcx5:=Aa hb5 (show w4.drew.cell? _=_ from hcx4);have hg5:g<w5.heap.size:=Af hg4 (by simpa using hb5.size);have hg25:g2<w5.heap.size:=Af hg24 (by simpa using hb5.size);have hs4:w.heap.size<=w4.drew.heap.size:=by simpa using hB4.size
     clear IH hct4 hcx4 hg4 hg24 hB4
     cases MO with
     |none=>
      have HN:Hid (PO=none):=HPO.out.symm;clear HPO;go_wp2
      go_ret2
      rw[HN.out];exact⟨⟨_,rfl,λps h=>by cases h⟩,hB5⟩
     |some more=>
      have ow5:=Bt (hmv more rfl) hs4;have hml:=HLN.out more rfl;simp only at HPO;clear hmv HLN hs4 hb5;by_cases h0:K=0
      ·have hk0:(K==0)=true:=by rw[h0];rfl
       rw[if_pos h0]at HPO;have HE:Hid (((Pm.unT x.data.toList).toList==t.toList)=PO.isSome/\∀ps,PO=some ps->ps=more):=by
        unfold Hid;rw[<-HPO.out,A1z,A1z];by_cases he:(Pm.unT x.data.toList).data.toList=t.data.toList
        ·rw[if_pos he,he];exact⟨by simp,λps h=>by cases h;rfl⟩
        ·rw[if_neg he];exact⟨by rw[beq_eq_false_iff_ne.mpr he];rfl,λps h=>by cases h⟩
       rw[hk0];generalize Pm.unT x.data.toList=vv at *
       have OW:=hid ow5;clear ow5 HPO h0 h2;go_wp2_with fail
       go_quiet (fail)
       go_wp2
       go_ret2
       refine⟨⟨_,by rw[<-HE.out.1];rfl,λps h=>?_⟩,?_⟩
       ·rw[HE.out.2 ps h];exact Be OW.out (below_drewN (Ad _ _) _)
       ·exact below_drewN hB5 _
      ·have hk0:(K==0)=false:=by rw[Ar];exact h0
       rw[if_neg h0]at HPO;have HNM2:=hid (HNM.out h0);rw[hk0];rw[<-HNM2.out]at HPO;generalize Pm.unT x.data.toList=vv at *
       clear HNM HNM2 h0 h2;have HE:Hid ((!x.toList.isEmpty)=PO.isSome/\∀ps,PO=some ps->ps=(nm,vv)::more):=by
        unfold Hid;rw[<-HPO.out,A1z]
        cases hx:x.data.toList with
        |nil=>exact⟨rfl,λps h=>by cases h⟩
        |cons a r=>exact⟨rfl,λps h=>by cases h;rfl⟩
       have hA6:=hB5.alloc hB5.size (.cells #[.string nm,.string vv] 129);have ow6:(w5.alloc (.cells #[.string nm,.string vv] 129)).ownsRow w.heap.size 129 2 (.slice (some ⟨w5.heap.size,0,none⟩) 1 1) 1 [.string nm,.string vv]:=World.ownsRow_lit _ #[.string nm,.string vv] 1 hB5.size (by decide) rfl;have hcx6:=Aa hA6 HCX.out;clear HPO
       cases more with
       |nil=>
        obtain⟨ma,mc,rfl⟩:∃a c,mv=.slice a 0 c:=a5W ow5;have OW:=hid ow6;clear ow6 ow5;go_wp2_with (at_builtin;refine Mz _ rfl _ _ 92 rfl 129 i0 underlying92 hi (some ⟨w5.heap.size,0,none⟩) 1 1 (Ac _) rfl ma mc rfl ?_);go_wp2_with fail
        go_quiet (fail)
        go_wp2
        go_ret2
        refine⟨⟨_,by rw[<-HE.out.1];rfl,λps h=>?_⟩,?_⟩
        ·rw[HE.out.2 ps h];exact Be OW.out (below_drewN (Ad _ _) _)
        ·exact below_drewN hA6 _
       |cons mp mr=>
        have hne:mp::mr≠[]:=by simp
        have hml2:(mp::mr).length<=1000000:=by omega
        have hmp:0<(mp::mr).length:=by simp
        generalize mp::mr=more at *
        obtain⟨gm,cm,rfl,hgm,hcells⟩:=a5V ow5 hne;go_wp2_with (at_builtin;refine wpList_append_lies _ rfl _ _ 92 rfl w.heap.size 129 i0 _ 2 32 underlying92 hi hz0 hz1 hz2 rfl (by omega) (.slice (some ⟨w5.heap.size,0,none⟩) 1 1) 1 [.string nm,.string vv] rfl ow6 ⟨gm,0,none⟩ more.length cm (Bg more) rfl (a1J more) ?c1 (a1I more) hmp ?c3 ?c4 ?c5 _ rfl ?_)
        case c1=>intro j u hj;exact Aa (bA w5 _) (hcells j u hj)
        case c3=>unfold maxLen;omega
        case c4=>omega
        case c5=>simp;have:=hB5.size;omega
        intro gg cap w7 hown hgrow hat hltn;have hB7:=hA6.grown hgrow (by have:=hB5.size;simp;omega) (Bx ow6);have hcx7:=Aa hB7 HCX.out;have hg27:g2<w7.heap.size:=Af HG2.out hB7.size;have OW:Hid (w7.ownsRow w.heap.size 129 2 (.slice (some ⟨gg,0,none⟩) (1+more.length) cap) ((nm,vv)::more).length (Bg ((nm,vv)::more))):=
         (congrArg (λn=>w7.ownsRow w.heap.size 129 2 (.slice (some ⟨gg,0,none⟩) (1+more.length) cap) n (Bg ((nm,vv)::more))) (by simp[Nat.add_comm]:1+more.length=((nm,vv)::more).length)).mp hown
        clear hgrow hcells ow5 ow6 hcx6 hown hA6 hB5 hat hgm hcx5 hct5;go_wp2_with fail
        go_quiet (fail)
        go_wp2
        go_ret2
        refine⟨⟨_,by rw[<-HE.out.1];rfl,λps h=>?_⟩,?_⟩
        ·rw[HE.out.2 ps h];exact Be OW.out (below_drewN (Ad _ _) _)
        ·exact below_drewN hB7 _
theorem a1K:∀(l:List (List UInt8)),(∀i (hi:i<l.length),Pm.a4e l[i]=2->i+1=l.length)->Lc l:=by
 intro l
 induction l with
 |nil=>intro _;trivial
 |cons a l ih=>
  intro h;refine⟨λh2=>?_,ih (λi hi hk=>?_)⟩
  ·have:=h 0 (by simp) h2;have:l.length=0:=by simpa using this.symm
   exact Ay this
  ·have:=h (i+1) (by simpa using hi) (by simpa using hk);simpa using this
theorem Qm{s:L8}{ts:List By}(ht:ts.map (·.data.toList)=pcs s)(h:∀i (h:i<ts.length),okP ts ts[i] i=true):Gt (pcs s):=by
 rw[<-ht];constructor
 ·apply a1K;intro i hi hk;rw[List.getElem_map]at hk;rw[A8z]at hi ⊢;exact b1D h i hi hk
 ·intro t htm hk;obtain⟨b,hb,rfl⟩:=List.mem_map.mp htm;obtain⟨i,hi,rfl⟩:=List.getElem_of_mem hb;exact b5G h i hi hk
theorem b5K{s:L8}(h:Lib.hasPrefix s [47]=true):pcs s≠[]:=by
 have hne:s≠[]:=by rintro rfl;simp[Lib.hasPrefix]at h
 rw[Nt hne];simp
theorem b5L(s:L8):(Dy (pcs s)).length<=s.length:=by
 unfold pcs
 split
 ·simp[Dy]
 ·rw[My _ _ (Ac _),A6z];omega
theorem Ti(s t:By)(w:World)(hs:s.size<=1000000)(ht:t.size<=4398046511104):
  Calls prog 108 #[.string s,.string t] w λr w'=>a5K (Dm (pcs s.data.toList) (pcs t.data.toList)) w.heap.size r w'/\Bw w w':=by
 have HP1:=hid (λW=>Gz s W (by omega));have HP2:=hid (λW=>Gz t W ht);have hsl:s.data.toList.length=s.size:=by simp
 have htl:t.data.toList.length=t.size:=by simp
 have l1:=Mx _ s.data.toList (Ac _);have l2:=Mx _ t.data.toList (Ac _);have j2:=b5L t.data.toList;rw[hsl]at l1;rw[htl]at l2 j2;generalize hPO:Dm (pcs s.data.toList) (pcs t.data.toList)=PO;have HPO:=hid hPO;clear hPO;go_enter func108,ntmps108;go_wp2_with fail;refine(HP1.out _).mono ?_;rintro e w1 ⟨⟨v1,ts,rfl,ow1,h1⟩,hb1⟩;obtain⟨a,ca,rfl,hca,st1⟩:=StO.of_owns ow1;rw[<-h1]at l1 HPO;clear HP1 ow1;go_wp2_with fail;refine(HP2.out _).mono ?_;rintro e w2 ⟨⟨v2,xs,rfl,ow2,h2⟩,hb2⟩;obtain⟨b,cb,rfl,hcb,st2⟩:=StO.of_owns ow2;have hB2:=Bc hb1 hb2;rw[<-h2]at l2 j2 HPO;rw[A8z]at l1 l2;have HH:=hid (b5J ts xs a b ca cb w2 (st1.below hb2) st2 hca hcb (by omega) (by omega) (by omega) (λx hx=>by
  have:=l1.2 x.data.toList (List.mem_map.mpr ⟨x,hx,rfl⟩);have e:x.data.toList.length=x.size:=by simp
  omega))
 rw[HPO.out]at HH;clear HPO HP2 ow2 st1 st2 hb1 hb2 l1 l2 j2 h1 h2 hsl htl;go_wp2_with fail;refine HH.out.mono ?_;rintro e w3 ⟨⟨v,rfl,hv⟩,hb3⟩;have hB3:=Bc hB2 hb3;clear HH
 cases PO with
 |none=>
  clear hv;go_wp2
  go_ret2
  exact⟨rfl,hB3⟩
 |some ps=>
  have OW:=hid (Bt (hv ps rfl) hB2.size);clear hv;go_wp2
  go_ret2
  exact⟨⟨_,rfl,OW.out⟩,hB3⟩
theorem c1Q(p s:By):tkR p s=tkL p.data.toList s.data.toList:=by
 unfold tkR tkL;rw[A1z,A1z]
def Cq(x y:By)(k:Nat):By:=if k=0 then x else if k=1 then y else⟨#[120]⟩
def Iu(x y t:By):Bool:=(tkR x t&&tkR y t)&&(Pm.a4e t.data.toList==0)
theorem a8X(x y t:By):Iu x y t=Nu x.data.toList y.data.toList t.data.toList:=by
 unfold Iu Nu;rw[c1Q,c1Q]
theorem b5M{x y:By}{k:Nat}(hk:k<3)(h1:∀j,j<k->Iu x y (Cq x y j)=false)(h2:Iu x y (Cq x y k)=true):fnd x.data.toList y.data.toList=some (Cq x y k).data.toList:=by
 have e:∀j,Iu x y (Cq x y j)=Nu x.data.toList y.data.toList (Cq x y j).data.toList:=λj=>a8X _ _ _;unfold fnd
 match k,hk with
 |0,_=>
  have:=e 0;rw[h2]at this;have t:Cq x y 0=x:=rfl;rw[t]at this ⊢;rw[if_pos this.symm]
 |1,_=>
  have a0:=e 0;rw[h1 0 (by omega)]at a0;have a1:=e 1;rw[h2]at a1;have t0:Cq x y 0=x:=rfl;have t1:Cq x y 1=y:=rfl;rw[t0]at a0;rw[t1]at a1 ⊢;rw[<-a0,<-a1];rfl
 |2,_=>
  have a0:=e 0;rw[h1 0 (by omega)]at a0;have a1:=e 1;rw[h1 1 (by omega)]at a1;have a2:=e 2;rw[h2]at a2;have t0:Cq x y 0=x:=rfl;have t1:Cq x y 1=y:=rfl;have t2:(Cq x y 2).data.toList=[120]:=rfl;rw[t0]at a0;rw[t1]at a1;rw[t2]at a2 ⊢;rw[<-a0,<-a1,<-a2];rfl
theorem b5N{x y:By}(h1:∀j,j<3->Iu x y (Cq x y j)=false):fnd x.data.toList y.data.toList=none:=by
 have e:∀j,Iu x y (Cq x y j)=Nu x.data.toList y.data.toList (Cq x y j).data.toList:=λj=>a8X _ _ _;unfold fnd;have a0:=e 0;rw[h1 0 (by omega)]at a0;have a1:=e 1;rw[h1 1 (by omega)]at a1;have a2:=e 2;rw[h1 2 (by omega)]at a2;have t0:Cq x y 0=x:=rfl;have t1:Cq x y 1=y:=rfl;have t2:(Cq x y 2).data.toList=[120]:=rfl;rw[t0]at a0;rw[t1]at a1;rw[t2]at a2;rw[<-a0,<-a1,<-a2];rfl
def xB(ts:List By)(i:Nat):By:=if i<ts.length then ts.getD i ⟨#[]⟩else ts.getD (ts.length-1) ⟨#[]⟩
theorem a8Y(ts:List By)(i:Nat):(xB ts i).data.toList=xAt (ts.map (·.data.toList)) i:=by
 have key:∀j,(ts.getD j ⟨#[]⟩).data.toList=(ts.map (·.data.toList)).getD j []:=λj=>by
  rw[D2z,D2z,E3z]
  cases ts[j]?<;>rfl
 unfold xB xAt;rw[A8z]
 split
 ·exact key i
 ·exact key _
theorem Tj(cs:List (List UInt8))(c:L8):Fe (cs++[c])=Fe cs++47::c:=by simp[Fe,List.flatMap_append]
theorem Qn(cs:List (List UInt8))(h:cs≠[]):(Fe cs).isEmpty=false:=by
 cases cs with
 |nil=>exact absurd rfl h
 |cons c r=>rfl
theorem a1L{A B:List (List UInt8)}{k:Nat}{cs:List (List UInt8)}{c:L8}(h:cmn A B k=some cs)(h2:fnd (xAt A k) (xAt B k)=some c):cmn A B (k+1)=some (cs++[c]):=by
 rw[cmn,h];simp only;rw[h2]
theorem Tk{A B:List (List UInt8)}{k:Nat}(h2:fnd (xAt A k) (xAt B k)=none):∀n,k<n->cmn A B n=none
 |0,h=>absurd h (by omega)
 |n+1,h=>by
  rcases B8z k n with h3|h3
  ·rw[cmn,Tk h2 n h3]
  ·obtain rfl:k=n:=by omega
   rw[cmn]
   cases cmn A B k with
   |none=>rfl
   |some l=>simp only;rw[h2]
theorem Xs{A B:List (List UInt8)}:∀(k:Nat) (cs:List (List UInt8)),cmn A B k=some cs->cs.length=k
 |0,cs,h=>by rw[cmn]at h;cases h;rfl
 |k+1,cs,h=>by
  rw[cmn]at h
  cases hc:cmn A B k with
  |none=>rw[hc]at h;cases h
  |some l=>
   rw[hc]at h;simp only at h
   cases hf:fnd (xAt A k) (xAt B k)with
   |none=>rw[hf]at h;cases h
   |some c=>
    rw[hf]at h;simp only at h;cases h;rw[A0z,Xs k l hc];rfl
end Go.Proofs.YtbiggccolpchcaaGreatDoor
