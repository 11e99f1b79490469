/- Joined. -/
import Derived.Test.YtbiggccolpchcaaGreatDoorJoin41
import Derived.Test.YtbiggccolpchcaaGreatDoorRyM
set_option maxRecDepth 100000
set_option maxHeartbeats 2000000
namespace Go.Proofs.YtbiggccolpchcaaGreatDoor
open Go.RowKit _root_.Go.Proofs.Tryz
theorem b7X(V:Sv)(c:Nat)(vo:Value)(held:By)(out:L8)(rq:Nat)(cl:Bool)(w:World)(J:CnI V c vo held out rq cl w):
  Calls prog 124 #[.pointer (some ⟨c,0,none⟩)] w λx w'=>x=.returned (.tuple #[])/\CnI V c (.slice none 0 0) ⟨#[]⟩ [] rq true w'/\Kx [c] w w':=by
 obtain⟨⟨J1,k1⟩,-⟩:=J.outs (v1:=.slice none 0 0) (out2:=[]) (Ex.nil V.w1.heap.size 5 w) (λr hr=>by simp[Value.ownBlock]at hr);have HC:=hid (Pt V c _ held [] rq cl _ J1);obtain⟨c0,c1,c2,c3,c4⟩:=J.cells;have lc:=J.lt;have z2:=Ai J.blk 2;clear J J1;go_enter func124,ntmps124;go_wp2_with fail;refine HC.out.mono ?_;rintro x w' ⟨rfl,hj,hk⟩;go_wp2_with fail;refine bodyPost_end (v:=.tuple #[]) (by simp[results,results124,go_sem]) rfl ?_;exact⟨rfl,hj,k1.trans hk (λ_ h=>.inl h)⟩
theorem b7Y(pc c:Nat)(Q:World->Prop)(w:World)(hp:Lo pc c w)(H:Calls prog 124 #[.pointer (some ⟨c,0,none⟩)] w λx w'=>x=.returned (.tuple #[])/\Q w'):Calls prog 61 #[.pointer (some ⟨pc,0,none⟩)] w λx w'=>x=.returned (.tuple #[])/\Q w':=by
 have c0:w.cell? ⟨pc,0,none⟩=some (.pointer (some ⟨c,0,none⟩)):=by rw[Ab hp];rfl
 have lp:=heap_lt hp;have HH:=hid H;clear hp H;go_enter func61,ntmps61;go_wp2_with (go_at_call 124;refine HH.out.mono ?_;rintro x w' ⟨rfl,hq⟩);refine bodyPost_end (v:=.tuple #[]) (by simp[results,results61,go_sem]) rfl ?_;exact⟨rfl,hq⟩
theorem Wl(C:Cf):∀(k:Nat) (S:Cs),(S.cl=true->S.held=[])->(Ch C k S).cl=true->(Ch C k S).held=[]
 |0,S,h=>h
 |k+1,S,h=>by
  rw[Ch]
  split
  ·exact h
  split
  ·exact h
  split
  ·refine Wl C k _ ?_;unfold Dd Ga
   split
   ·exact λ_=>rfl
   ·rename_i hc _ _ _
    exact λq=>absurd q hc
  ·unfold noS Ga;rw[if_pos rfl];exact λ_=>rfl
section
variable{V:Sv}{pc c:Nat}{vo:Value}{held out:L8}{rq:Nat}{cl:Bool}{w:World}
end
def Ei(a b:List Int):List Int:=List.zipWith (·+·) a b
def Cs.plus(d:List Int)(S:Cs):Cs:=⟨S.held,S.out,S.rq,S.cl,Ei S.hs d⟩
theorem Uj{a b:List Int}(h:a.length=b.length):(Ei a b).length=a.length:=by simp[Ei,h]
theorem a3J(st:Int)(ro:Nat)(hs d:List Int)(h:hs.length=d.length):Fo st ro (Ei hs d)=Ei (Fo st ro hs) d:=by
 unfold Fo
 split
 ·apply F8z
  ·simp[Ei]
  ·intro i h1 h2;have hi:i<hs.length:=by simp[Ei]at h1;omega
   have hd:i<d.length:=by omega
   by_cases e:ro=i
   ·subst e;simp only[Ei,List.getElem_set_self,List.getElem_zipWith,Av hi,Option.getD_some,List.getElem?_zipWith,Av hd];omega
   ·simp only[Ei,List.getElem_set_ne e,List.getElem_zipWith]
 ·rfl
theorem a3K(d:List Int)(S:Cs)(t:L8)(cl:Bool):Ga (S.plus d) t cl=(Ga S t cl).plus d:=by
 unfold Ga Cs.plus
 cases cl<;>simp
theorem b7Z(C:Cf)(F:Ed)(d:List Int)(S:Cs)(h:S.hs.length=d.length):Dd C F (S.plus d)=(Dd C F S).plus d:=by
 unfold Dd;have e:Fo (Eg C F).st (Eg C F).ro (S.plus d).hs=Ei (Fo (Eg C F).st (Eg C F).ro S.hs) d:=a3J _ _ _ _ h;rw[e];exact a3K d ⟨S.held.drop F.2.2.2.2.2,S.out,S.rq+1,S.cl,Fo (Eg C F).st (Eg C F).ro S.hs⟩ (Hd C F) (Ef C F).cl
theorem b8A(C:Cf)(F:Ed)(S:Cs):(Dd C F S).hs=Fo (Eg C F).st (Eg C F).ro S.hs:=by
 unfold Dd Ga
 split<;>rfl
theorem a9N(C:Cf)(F:Ed)(S:Cs):(Dd C F S).hs.length=S.hs.length:=by rw[b8A,Xg]
theorem Wm(C:Cf)(d:List Int):∀(k:Nat) (S:Cs),S.hs.length=d.length->Ch C k (S.plus d)=(Ch C k S).plus d
 |0,S,_=>rfl
 |k+1,S,h=>by
  rw[Ch,Ch];have e1:(S.plus d).cl=S.cl:=rfl;have e2:(S.plus d).held=S.held:=rfl;rw[e1,e2]
  split
  ·rfl
  ·split
   ·rfl
   ·split
    ·rw[b7Z C _ d S h];exact Wm C d k _ (by rw[a9N];exact h)
    ·unfold noS;exact a3K d S _ true
theorem a3L(C:Cf):∀(k:Nat) (S:Cs),(Ch C k S).hs.length=S.hs.length
 |0,S=>rfl
 |k+1,S=>by
  rw[Ch]
  split
  ·rfl
  ·split
   ·rfl
   ·split
    ·rw[a3L C k,a9N]
    ·unfold noS Ga;rfl
def Ig(C:Cf):List Int:=C.rs.map λ_=>0
def Bk(C:Cf)(B:L8):Cs:=Ch C (B.length+1) ⟨B,[],0,false,Ig C⟩
theorem Gk(C:Cf)(B:L8):(Bk C B).hs.length=C.rs.length:=by
 unfold Bk;rw[a3L];simp[Ig]
theorem b2V(C:Cf)(B:L8)(h:(Bk C B).cl=true):(Bk C B).held=[]:=Wl C _ _ (λq=>by cases q) h
theorem b2W(C:Cf)(B t:L8)(τ:Nat)(hc:(Bk C B).cl=false)(hτ:τ<=(Bk C B).out.length)(d:List Int)(hd:d.length=C.rs.length):
  Ie C ⟨(Bk C B).held,(Bk C B).out.drop τ,(Bk C B).rq,false,Ei (Bk C B).hs d⟩ t=⟨(Bk C (B++t)).held,(Bk C (B++t)).out.drop τ,(Bk C (B++t)).rq,(Bk C (B++t)).cl,Ei (Bk C (B++t)).hs d⟩/\τ<=(Bk C (B++t)).out.length:=by
 have A:Oi C (Ig C) B ((Bk C B).out.take τ) ⟨(Bk C B).held,(Bk C B).out.drop τ,(Bk C B).rq,false,(Bk C B).hs⟩:=by
  unfold Oi Cs.behind;show Bk C B=_;simp only[E4z];rw[<-hc]
 have G:=a7J A rfl t;unfold Oi at G;have G2:Bk C (B++t)=(Ie C ⟨(Bk C B).held,(Bk C B).out.drop τ,(Bk C B).rq,false,(Bk C B).hs⟩ t).behind ((Bk C B).out.take τ):=G;have P:Ie C ⟨(Bk C B).held,(Bk C B).out.drop τ,(Bk C B).rq,false,Ei (Bk C B).hs d⟩ t=(Ie C ⟨(Bk C B).held,(Bk C B).out.drop τ,(Bk C B).rq,false,(Bk C B).hs⟩ t).plus d:=
  Wm C d _ ⟨(Bk C B).held++t,(Bk C B).out.drop τ,(Bk C B).rq,false,(Bk C B).hs⟩ (by rw[Gk,hd])
 have hl:((Bk C B).out.take τ).length=τ:=by rw[B0z];omega
 rw[P,G2];generalize Ie C ⟨(Bk C B).held,(Bk C B).out.drop τ,(Bk C B).rq,false,(Bk C B).hs⟩ t=R at *
 unfold Cs.behind Cs.plus;simp only;refine⟨?_,by rw[A0z,hl];omega⟩;rw[List.drop_append,hl,Nat.sub_self,D6z,Az (by rw[hl];exact Ac _),F4z]
theorem c0Y{st:Int}{ro:Nat}{hs:List Int}{M:Int}(h:∀x∈hs,0<=x/\x+1<=M):∀x∈Fo st ro hs,0<=x/\x<=M:=by
 intro x hx;unfold Fo at hx
 split at hx
 ·rcases List.mem_or_eq_of_mem_set hx with q|q
  ·have:=h x q;omega
  ·by_cases hr:ro<hs.length
   ·have:=h _ (As hr);rw[Av hr]at q;simp only[Option.getD_some]at q;omega
   ·rw[List.set_eq_of_length_le (by omega)]at hx;have:=h x hx;omega
 ·have:=h x hx;omega
theorem a9O(C:Cf)(M:Int):∀(k:Nat) (S:Cs),(∀x∈S.hs,0<=x/\x+S.held.length<=M)->∀x∈(Ch C k S).hs,0<=x/\x<=M
 |0,S,h=>λx hx=>by have:=h x hx;omega
 |k+1,S,h=>by
  rw[Ch]
  split
  ·exact λx hx=>by have:=h x hx;omega
  ·split
   ·exact λx hx=>by have:=h x hx;omega
   ·split
    ·rename_i h0
     have hs:=Dh S.held C.hd C.bd h0;have hu:=hs.u;have hv:=hs.v;refine a9O C M k _ (λx hx=>?_);rw[b8A]at hx;have hl:(Dd C (Bi S.held C.hd C.bd) S).held.length+1<=S.held.length:=by
      unfold Dd Ga
      split
      ·simp only[C0z];omega
      ·simp only[A6z];omega
     have:=c0Y (M:=M-((S.held.length:Int)-1)) (λx hx=>by have:=h x hx;omega) x hx;omega
    ·unfold noS Ga;exact λx hx=>by have:=h x hx;omega
theorem a9P(C:Cf)(B:L8):∀x∈(Bk C B).hs,0<=x/\x<=B.length:=
 a9O C _ _ _ (λx hx=>by
  simp only[Ig,E5z]at hx;obtain⟨_,_,rfl⟩:=hx;simp only;omega)
def Ev(n:Nat):List (List Int)->List Int
 |[]=>List.replicate n 0
 |x::r=>Ei x (Ev n r)
theorem Ol(n:Nat):∀(L:List (List Int)),(∀x∈L,x.length=n)->(Ev n L).length=n
 |[],_=>by simp[Ev]
 |x::r,h=>by
  have h1:=h x (by simp);have h2:=Ol n r (λy hy=>h y (by simp[hy]));rw[Ev,Uj (by omega)];exact h1
theorem Ng(a b c:List Int):Ei a (Ei b c)=Ei b (Ei a c):=by
 apply F8z
 ·simp[Ei];omega
 ·intro i h1 h2;simp only[Ei,List.getElem_zipWith];omega
theorem a9Q(n:Nat):∀(L:List (List Int)) (k:Nat) (h:k<L.length),(∀x∈L,x.length=n)->∃d,d.length=n/\Ev n L=Ei L[k] d/\∀x,Ev n (L.set k x)=Ei x d
 |[],k,h,_=>absurd h (by simp)
 |y::r,0,_,hl=>⟨Ev n r,Ol n r (λx hx=>hl x (by simp[hx])),rfl,λx=>rfl⟩
 |y::r,k+1,h,hl=>by
  obtain⟨d,h1,h2,h3⟩:=a9Q n r k (by simpa using h) (λx hx=>hl x (by simp[hx]));have hy:=hl y (by simp);refine⟨Ei y d,by rw[Uj (by omega)];exact hy,?_,λx=>?_⟩
  ·rw[Ev,h2,Ng];rfl
  ·rw[A5z,Ev,h3,Ng]
theorem Wn(n:Nat)(a:List Int)(h:a.length=n):Ei (List.replicate n 0) a=a:=by
 apply F8z
 ·simp[Ei,h]
 ·intro i h1 h2;simp[Ei]
theorem Wo(n:Nat):∀(L:List (List Int)),(∀x∈L,x.length=n)->Ev n (L++[List.replicate n 0])=Ev n L
 |[],_=>by simp[Ev,Wn]
 |x::r,h=>by
  rw[B3z,Ev,Ev,Wo n r (λy hy=>h y (by simp[hy]))]
theorem Za(n:Nat):∀(L:List (List UInt8×List Int)) (M:Nat),(∀x∈L,x.2.length=n/\∀y∈x.2,0<=y/\y<=x.1.length)->(L.map λx=>x.1.length).sum<=M->∀y∈Ev n (L.map (·.2)),0<=y/\y<=M
 |[],M,_,_=>by
  intro y hy;simp only[E0z,Ev,List.mem_replicate]at hy;omega
 |x::r,M,h,hM=>by
  intro y hy;simp only[B1z,List.sum_cons]at hM;rw[B1z,Ev]at hy;obtain⟨i,hi,rfl⟩:=List.getElem_of_mem hy;simp only[Ei,List.getElem_zipWith];have h1:=(h x (by simp)).2 _ (As (show i<x.2.length by simp[Ei]at hi;omega));have h2:=Za n r (M-x.1.length) (λz hz=>h z (by simp[hz])) (by omega) _ (As (show i<(Ev n (r.map (·.2))).length by simp[Ei]at hi;omega));omega
structure CfOk(C:Cf):Prop where
 E:(Et C.hd C.bd C.rs C.ws).2=0
 rs:∀r∈C.rs,RtSm r
 ws:∀x∈C.ws,x.n.size<=1048576/\x.v.size<=1048576
theorem a7T{rs:List Rt}(hr:(Ge rs [] 0).2=0):∀e∈rs.map Cd,e.m.size<=1000:=λe he=>by
 obtain⟨r,hr1,rfl⟩:=List.mem_map.1 he;exact Gs (Nw rs [] 0 hr r hr1)
theorem c0Z{C:Cf}(ok:CfOk C)(qm qt qb:By)(fs:List Prm)(ht:qt.size<=2000000)(hq:qb.size<=2000000)(hl:fs.length<=500)(hz:∀p∈fs,p.1.size+p.2.size<=500):
  AnsB (Yb (pdG C.hd C.bd C.rs C.ws qm.data.toList qt.data.toList) C.rs C.ws fs qb):=by
 have hpd:pdG C.hd C.bd C.rs C.ws qm.data.toList qt.data.toList=Eu qm.data.toList qt.data.toList (C.rs.map Cd):=by
  unfold pdG;rw[if_pos ok.E]
 obtain⟨c1,c2,c3,-⟩:=Iv ok.E;have hjn:=a1O (Pm.ahead 63 qt.data.toList) (C.rs.map Cd) (a7T c3) (by rw[A8z];exact c1);have hqtl:qt.data.toList.length=qt.size:=by simp
 have hps:=Mc 4000000 qm.data.toList qt.data.toList (C.rs.map Cd) (by omega);have hdl:=Yg qm.data.toList qt.data.toList (C.rs.map Cd);have hst:=b7E qm.data.toList qt.data.toList (C.rs.map Cd);have hok:=Wd C.hd C.bd C.rs C.ws qm.data.toList qt.data.toList;rw[hpd]at hok ⊢;generalize Eu qm.data.toList qt.data.toList (C.rs.map Cd)=D at *
 unfold Yb;by_cases he:D.e=0
 ·rw[if_pos he]
  cases hT:toG D C.rs C.ws fs qb with
  |none=>exact⟨by simp[Gp],by simp[Gp],by simp[Gp],(by show(0:Nat)+0<=33000000;omega)⟩
  |some a=>
   have h1:=Tt (K:=4000000) (by omega) (λp hp=>by have:=hz p hp;omega) (by omega) hps (λx hx=>by have:=ok.ws x hx;omega) (λr hr=>by have:=(ok.rs r hr).t;omega) (by omega) (by omega) c2 (by omega) hT;have h2:(Cm a.fs).length<=20000000/\StB a.st:=by
    unfold toG at hT
    split at hT
    ·rename_i hs2
     have hro:=(hok he).ro hs2;have hr:∃r∈C.rs,Fk C.rs D.ro=r.h:=by
      unfold Fk;rw[Av hro];exact⟨_,As hro,rfl⟩
     obtain⟨r,hr1,hr2⟩:=hr;have hst2:=Yr C.rs [] 0 c3 r hr1;have h3:=Yq (qf:=fs) (qb:=qb) (h:=Fk C.rs D.ro) (ps:=D.ps) hl hz (by rw[hr2];exact(ok.rs r hr1).t) hps C.ws a ok.ws hT;have h4:=a7E (qf:=fs) (qb:=qb) (h:=Fk C.rs D.ro) (ps:=D.ps) (by rw[hr2];exact⟨by omega,by omega⟩) C.ws a hT;exact⟨by omega,h4⟩
    ·cases hT
     unfold El
     split
     ·refine⟨?_,hst⟩;have e1:Lg.size<=8:=by decide
      rw[Gv];show Lg.size+D.lo.toArray.size+4<=_;simp;omega
     split
     ·refine⟨?_,hst⟩;have e1:Fz.size<=8:=by decide
      rw[Gv];show Fz.size+D.al.toArray.size+4<=_;simp;omega
     ·exact⟨by simp[Cm],hst⟩
   have h3:=h1.1.1;unfold StB at h2;unfold Gp;simp only
   split
   ·exact⟨by simp,by simp,(by show(0:Nat)<=50000000;omega),(by show(0:Nat)+0<=33000000;omega)⟩
   ·exact⟨h2.2.1,h2.2.2,h1.2,by simp only;omega⟩
 ·rw[if_neg he];exact⟨by simp,by simp,(by show(0:Nat)<=50000000;omega),(by show(0:Nat)+0<=33000000;omega)⟩
theorem Uk{C:Cf}(ok:CfOk C)(l:L8)(hl:l.length<=2000000)(h:(Bi l C.hd C.bd).1=0):AnsB (Ef C (Bi l C.hd C.bd))/\(Hd C (Bi l C.hd C.bd)).length<=33000600:=by
 have hs:=Dh l C.hd C.bd h;obtain⟨f1,f2⟩:=Kb hs;have ht:=hs.t;have hb:=hs.b;generalize Bi l C.hd C.bd=F at *
 have hA:=c0Z ok ⟨F.2.1.toArray⟩ ⟨F.2.2.1.toArray⟩ ⟨F.2.2.2.2.1.toArray⟩ (Bq F.2.2.2.1) (by show F.2.2.1.toArray.size<=_;simp;omega) (by show F.2.2.2.2.1.toArray.size<=_;simp;omega) f1 f2;have hA':AnsB (Ef C F):=hA;refine⟨hA',?_⟩;have hz:=hA'.z;have hbl:(Ef C F).b.data.toList.length=(Ef C F).b.size:=by simp
 have:=Uf F.2.1 (Ef C F).st (Ef C F).fs (Ef C F).b.data.toList (Ef C F).cl hA'.s0 hA'.s1 (by omega);unfold Hd;omega
theorem Wp{C:Cf}(ok:CfOk C):∀(k:Nat) (S:Cs),S.held.length<=2000000->phi (Ch C k S)<=phi S
 |0,S,_=>Ac _
 |k+1,S,hz=>by
  rw[Ch]
  split
  ·exact Ac _
  split
  ·exact Ac _
  rename_i hc h2
  have hne:1<=S.held.length:=by
   rcases Nat.eq_zero_or_pos S.held.length with q|q
   ·exfalso;have e:S.held=[]:=Ay q;have h:=Kc (Mi ok.E);rw[<-e]at h;exact h2 h
   ·exact q
  split
  ·rename_i h0
   have hs:=Dh S.held C.hd C.bd h0;have hu:=hs.u;have hv:=hs.v;have ha:=(Uk ok S.held hz h0).2;have h1:(Dd C (Bi S.held C.hd C.bd) S).held.length+1<=S.held.length/\(Dd C (Bi S.held C.hd C.bd) S).out.length<=S.out.length+33000600:=by
    unfold Dd Ga
    split
    ·simp only[C0z,A0z];omega
    ·simp only[A6z,A0z];omega
   have:=Wp ok k (Dd C (Bi S.held C.hd C.bd) S) (by omega);unfold phi at this ⊢;omega
  ·have hn:=Ys (Bi S.held C.hd C.bd).1;unfold phi noS Ga;simp only[if_true,C0z,A0z];omega
theorem b8B{R:DsR}{n:Nat}(hok:DsOk R n){ua ul:By}(hua:ua.data.toList=R.al)(hul:ul.data.toList=R.lo)(sh:Bool):
  (R.st=301\/R.st=308->Gp sh (some (El R.st ua ul))=⟨R.st,[(Lg,ul)],⟨#[]⟩,sh,0⟩/\ul.toList.isEmpty=false/\ua.toList.isEmpty=true)/\(R.st=405->Gp sh (some (El R.st ua ul))=⟨R.st,[(Fz,ua)],⟨#[]⟩,sh,0⟩/\ul.toList.isEmpty=true/\ua.toList.isEmpty=false)/\(¬(R.st=301\/R.st=308)->R.st≠405->Gp sh (some (El R.st ua ul))=⟨R.st,[],⟨#[]⟩,sh,0⟩/\ul.toList.isEmpty=true/\ua.toList.isEmpty=true):=by
 have ie:∀u:By,u.toList.isEmpty=u.data.toList.isEmpty:=λu=>by rw[Lib.toList_data]
 refine⟨λh=>?_,λh=>?_,λh1 h2=>?_⟩
 ·obtain⟨a,b,c⟩:=hok.lo h;refine⟨?_,?_,?_⟩
  ·have e:El R.st ua ul=⟨R.st,[(Lg,ul)],⟨#[]⟩⟩:=if_pos h;rw[e];have hn:[(Lg,ul)].any (λp=>Hk p.2)=false:=by
    simp only[List.any_cons,List.any_nil,Bool.or_false];rw[b6A,hul];exact b
   exact Ts hn ⟨R.st,[(Lg,ul)],⟨#[]⟩⟩ rfl sh
  ·rw[ie,hul];cases hq:R.lo with
   |nil=>exact absurd hq a
   |cons _ _=>rfl
  ·rw[ie,hua,c];rfl
 ·obtain⟨a,b,c⟩:=hok.al h;refine⟨?_,?_,?_⟩
  ·have e:El R.st ua ul=⟨R.st,[(Fz,ua)],⟨#[]⟩⟩:=by
    unfold El;rw[if_neg (by omega),if_pos h]
   rw[e];have hn:[(Fz,ua)].any (λp=>Hk p.2)=false:=by
    simp only[List.any_cons,List.any_nil,Bool.or_false];rw[b6A,hua];exact b
   exact Ts hn ⟨R.st,[(Fz,ua)],⟨#[]⟩⟩ rfl sh
  ·rw[ie,hul,c];rfl
  ·rw[ie,hua];cases hq:R.al with
   |nil=>exact absurd hq a
   |cons _ _=>rfl
 ·obtain⟨a,b⟩:=hok.no h1 h2;refine⟨?_,by rw[ie,hul,a];rfl,by rw[ie,hua,b];rfl⟩;have e:El R.st ua ul=⟨R.st,[],⟨#[]⟩⟩:=by unfold El;rw[if_neg h1,if_neg h2]
  rw[e];exact Ts (l:=[]) rfl ⟨R.st,[],⟨#[]⟩⟩ rfl sh
theorem Wq{w w3:World}{ga rr gf:Nat}{st:Int}{sh:Bool}{ff:Array Value}(n v:By)(A:AnB ga st (.slice none 0 0) ⟨#[]⟩ sh w3)(R:AnB rr 0 (.slice none 0 0) ⟨#[]⟩ false w3)(F:Bl gf ff 158 w3)(h1:rr≠ga)(h2:gf≠ga)(hw:Bw w w3)(hg:w.heap.size<=ga):
  AnB ga st (.slice (some ⟨w3.heap.size,0,none⟩) 1 1) ⟨#[]⟩ sh ((w3.setCell ⟨ga,1,none⟩ (.slice (some ⟨w3.heap.size,0,none⟩) 1 1)).alloc (.cells #[.string n,.string v] 131))/\AnB rr 0 (.slice none 0 0) ⟨#[]⟩ false ((w3.setCell ⟨ga,1,none⟩ (.slice (some ⟨w3.heap.size,0,none⟩) 1 1)).alloc (.cells #[.string n,.string v] 131))/\Bl gf ff 158 ((w3.setCell ⟨ga,1,none⟩ (.slice (some ⟨w3.heap.size,0,none⟩) 1 1)).alloc (.cells #[.string n,.string v] 131))/\Bw w ((w3.setCell ⟨ga,1,none⟩ (.slice (some ⟨w3.heap.size,0,none⟩) 1 1)).alloc (.cells #[.string n,.string v] 131))/\((w3.setCell ⟨ga,1,none⟩ (.slice (some ⟨w3.heap.size,0,none⟩) 1 1)).alloc (.cells #[.string n,.string v] 131)).ownsRow w.heap.size 131 2 (.slice (some ⟨w3.heap.size,0,none⟩) 1 1) [(n,v)].length (Bg [(n,v)]):=by
 have zs:(w3.setCell ⟨ga,1,none⟩ (.slice (some ⟨w3.heap.size,0,none⟩) 1 1)).heap.size=w3.heap.size:=by simp[World.setCell]
 have A4:=A.setV (.slice (some ⟨w3.heap.size,0,none⟩) 1 1);have R4:=R.other h1 1 (.slice (some ⟨w3.heap.size,0,none⟩) 1 1);have F4:=F.other h2 1 (.slice (some ⟨w3.heap.size,0,none⟩) 1 1);have hB4:=hw.setCell (p:=⟨ga,1,none⟩) hg (.slice (some ⟨w3.heap.size,0,none⟩) 1 1);have b5:=(Ad w3.heap.size (w3.setCell ⟨ga,1,none⟩ (.slice (some ⟨w3.heap.size,0,none⟩) 1 1))).alloc (Nat.le_of_eq zs.symm) (.cells #[.string n,.string v] 131);have OW:=Hq n v w.heap.size (w3.setCell ⟨ga,1,none⟩ (.slice (some ⟨w3.heap.size,0,none⟩) 1 1)) (by rw[zs];exact hw.size);rw[zs]at OW;exact⟨A4.below (b5.mono (Nat.le_of_eq zs)),R4.below (b5.mono (Nat.le_of_eq zs)),F4.below (b5.mono (Nat.le_of_eq zs)),hB4.trans (b5.mono hw.size),OW⟩
theorem Zb(hd bd:Int)(rs:List Rt)(ws:List Wr)(ar:Oa)(cr:Nat)(aw:Oa)(cw:Nat)(qm qt qb:By)(fs:List Prm)(fa:Oa)(fc:Nat)(R:DsR)(pa:Oa)(pc:Nat)(ua ul:By)(w:World)
  (hua:ua.data.toList=R.al) (hul:ul.data.toList=R.lo) (hok:DsOk R rs.length)
  (hR:Da 6 Rt.cells rs ar w) (hW:Da 4 Wr.cells ws aw w) (hwl:ws.length<=6) (hcw:ws.length<=cw) (hf:Nc fs fa w) (hl:fs.length<=1000000) (hz:∀i (h:i<fs.length),fs[i].1.size<=maxLen) (hz2:∀p∈fs,p.2.size<=2000000) (hwn:∀x∈ws,x.n.size<=1048576/\x.v.size<=1048576) (hp:Df R.ps pa w) (hpl:R.ps.length<=1000000)
  (hsm:∀a,Ld fs qb (Fk rs R.ro) R.ps ws=some a->SmA 4000000 a) :
  Calls prog 149 #[.agg #[.int .i64 hd,.int .i64 bd,.slice ar rs.length cr,.slice aw ws.length cw],.agg #[.string qm,.string qt,.slice fa fs.length fc,.string qb],.agg #[.int .i64 R.st,.int .i64 R.ro,.slice pa R.ps.length pc,.string ua,.string ul]] w (Yy (Gp (Re fs) (toG R rs ws fs qb)) w):=by
 obtain⟨hA,C0,Q0,F0,R0⟩:=a9L #[.int .i64 hd,.int .i64 bd,.slice ar rs.length cr,.slice aw ws.length cw] #[.string qm,.string qt,.slice fa fs.length fc,.string qb] #[.int .i64 R.st,.int .i64 R.ro,.slice pa R.ps.length pc,.string ua,.string ul] w;have HCL:=hid (λW (hb:Bw w W)=>Ok qm qt qb fs fa fc W (hf.below hb) hl hz (λx hx=>by
  obtain⟨p,hp,rfl⟩:=Rr hx;have:=hz2 p hp;unfold maxLen;omega))
 have HRO:=hid (λ(h2:R.st=200) W (hb:Bw w W)=>a3G hd bd rs ws ar cr aw cw qm qt qb fs fa fc R.st R.ro R.ps pa pc ua ul W (hR.below hb) (hW.below hb) hwl hcw (hok.ro h2) (hf.below hb) hl hz hz2 hwn (hp.below hb) hpl hsm);have hT1:R.st=200->toG R rs ws fs qb=Ld fs qb (Fk rs R.ro) R.ps ws:=λh=>if_pos h;have hT2:R.st≠200->toG R rs ws fs qb=some (El R.st ua ul):=λh=>by unfold toG;rw[if_neg h,a9D hua,a9D hul]
 obtain⟨hf1,hf2,hf3⟩:=b8B hok hua hul (Re fs);have HF1:=hid hf1;have HF2:=hid hf2;have HF3:=hid hf3;have HT1:=hid hT1;have HT2:=hid hT2;generalize Ld fs qb (Fk rs R.ro) R.ps ws=TH at *
 generalize toG R rs ws fs qb=TG at *
 generalize Re fs=sh at *
 clear hR hW hf hz hz2 hwn hp hpl hsm hok hT1 hT2 hf1 hf2 hf3 hua hul;obtain⟨st,ro,ps,al,lo,er⟩:=R;simp only at *
 go_enter func149,ntmps149;go_upto_region 1 with fail;generalize (((w.alloc (.cells #[.int .i64 hd,.int .i64 bd,.slice ar rs.length cr,.slice aw ws.length cw] 44)).alloc (.cells #[.string qm,.string qt,.slice fa fs.length fc,.string qb] 47)).alloc (.cells #[.int .i64 st,.int .i64 ro,.slice pa ps.length pc,.string ua,.string ul] 158)).alloc (.cells #[.int .i64 0,.slice none 0 0,.string ⟨#[]⟩,.bool false] 49)=w1 at *
 have c0:w1.cell? ⟨w.heap.size,0,none⟩=some (.int .i64 hd):=(C0.cell 0).trans rfl;have c1:w1.cell? ⟨w.heap.size,1,none⟩=some (.int .i64 bd):=(C0.cell 1).trans rfl;have c2:w1.cell? ⟨w.heap.size,2,none⟩=some (.slice ar rs.length cr):=(C0.cell 2).trans rfl;have c3:w1.cell? ⟨w.heap.size,3,none⟩=some (.slice aw ws.length cw):=(C0.cell 3).trans rfl;have q0:w1.cell? ⟨w.heap.size+1,0,none⟩=some (.string qm):=(Q0.cell 0).trans rfl;have q1:w1.cell? ⟨w.heap.size+1,1,none⟩=some (.string qt):=(Q0.cell 1).trans rfl;have q2:w1.cell? ⟨w.heap.size+1,2,none⟩=some (.slice fa fs.length fc):=(Q0.cell 2).trans rfl;have q3:w1.cell? ⟨w.heap.size+1,3,none⟩=some (.string qb):=(Q0.cell 3).trans rfl;have g0:w1.cell? ⟨w.heap.size+1+1,0,none⟩=some (.int .i64 st):=(F0.cell 0).trans rfl;have g1:w1.cell? ⟨w.heap.size+1+1,1,none⟩=some (.int .i64 ro):=(F0.cell 1).trans rfl;have g2:w1.cell? ⟨w.heap.size+1+1,2,none⟩=some (.slice pa ps.length pc):=(F0.cell 2).trans rfl;have g3:w1.cell? ⟨w.heap.size+1+1,3,none⟩=some (.string ua):=(F0.cell 3).trans rfl;have g4:w1.cell? ⟨w.heap.size+1+1,4,none⟩=some (.string ul):=(F0.cell 4).trans rfl;have lc:=C0.lt;have lq:=Q0.lt;have lf:=F0.lt;have lr:=R0.lt;by_cases h2:st=200
 ·have hT:=HT1.out h2;subst hT;have HR2:=hid (HRO.out h2 _ hA);subst h2;clear HCL HF1 HF2 HF3 HT1 HT2 HRO C0 Q0 F0;generalize Gp sh TG=FIN at *
  go_wp2_with fail;refine HR2.out.mono ?_;rintro x w2 ⟨⟨vv,rfl,ow⟩,hb2⟩;have hB2:=Bc hA hb2;have R2:=R0.below hb2;have hno:vv.ownBlock≠some (w.heap.size+1+1+1):=λe=>by have:=Bx ow _ e;omega
  obtain⟨ax,cx,rfl⟩:=Ce ow;obtain⟨y0,y1,y2,y3⟩:=R2.cells;have f0:=R2.free 0;have f1:=R2.free 1;have f2:=R2.free 2;have f3:=R2.free 3;have lr2:=R2.lt;obtain⟨d0,d1,d2,d3⟩:=(R2.set FIN.st (.slice ax FIN.fs.length cx) FIN.b FIN.cl).cells;have HB:=hid (Bm (g:=w.heap.size+1+1+1) (st:=FIN.st) (vv:=.slice ax FIN.fs.length cx) (b:=FIN.b) (cl:=FIN.cl) hB2 (by omega));have HO:=hid (Cg (g:=w.heap.size+1+1+1) (st:=FIN.st) (vv:=.slice ax FIN.fs.length cx) (b:=FIN.b) (cl:=FIN.cl) (Bt ow hA.size) hno);unfold setA at d0 d1 d2 d3 HB HO;clear HR2 ow R0 R2 c0 c1 c2 c3 q0 q1 q2 q3 g0 g1 g2 g3 g4;go_wp2_with fail;refine Ae (v:=.agg #[.int .i64 FIN.st,.slice ax FIN.fs.length cx,.string FIN.b,.bool FIN.cl]) (by simp[results,results149,go_sem,d0,d1,d2,d3]) rfl ?_;exact⟨⟨_,rfl,HO.out⟩,HB.out⟩
 ·have m2:(st==200)=false:=by simpa using h2
  have hT:=HT2.out h2;subst hT;have HC2:=hid (HCL.out _ hA);clear HCL HT1 HT2 HRO h2;go_wp2_with fail;refine HC2.out.mono ?_;rintro x w2 ⟨rfl,hb2⟩;have hB2:=Bc hA hb2;have R2:=R0.below hb2;have F2:=F0.below hb2;have lr2:=R2.lt;have k0:=Aa hb2 g0;have lf2:=F2.lt;have b3:=bA w2 (.cells #[.int .i64 st,.slice none 0 0,.string ⟨#[]⟩,.bool sh] 49);have A3:AnB w2.heap.size st (.slice none 0 0) ⟨#[]⟩ sh (w2.alloc (.cells #[.int .i64 st,.slice none 0 0,.string ⟨#[]⟩,.bool sh] 49)):=Ag w2 _;have R3:=R2.below b3;have F3:=F2.below b3;have hB3:=Bc hB2 b3;clear HC2 C0 Q0 F0 R0 c0 c1 c2 c3 q0 q1 q2 q3 g0 g1 g2 g3 g4;go_upto_region 5 with fail;generalize w2.alloc (.cells #[.int .i64 st,.slice none 0 0,.string ⟨#[]⟩,.bool sh] 49)=w3 at *
  have g3:w3.cell? ⟨w.heap.size+1+1,3,none⟩=some (.string ua):=(F3.cell 3).trans rfl;have g4:w3.cell? ⟨w.heap.size+1+1,4,none⟩=some (.string ul):=(F3.cell 4).trans rfl;have lf3:=F3.lt;have lr3:=R3.lt;clear k0;by_cases h3:st=301\/st=308
  ·obtain⟨hfin,u1,u2⟩:=HF1.out h3;have HFN:=hid hfin;obtain⟨A5,R5,F5,hB5,OW⟩:=Wq Lg ul A3 R3 F3 (show w.heap.size+1+1+1≠w2.heap.size by omega) (show w.heap.size+1+1≠w2.heap.size by omega) hB3 hB2.size;unfold Lg at A5 R5 F5 hB5 OW;obtain⟨x0,x1,x2,x3⟩:=A3.cells;have t1:=A3.free 1;have la3:=A3.lt;have k3:World.cell? _ ⟨w.heap.size+1+1,3,none⟩=some (.string ua):=(F5.cell 3).trans rfl;have lf5:=F5.lt;have neR:(Value.slice (some ⟨w3.heap.size,0,none⟩) 1 1).ownBlock≠some (w.heap.size+1+1+1):=by simp[Value.ownBlock];omega
   have HB:=hid (Bm (g:=w.heap.size+1+1+1) (st:=st) (vv:=.slice (some ⟨w3.heap.size,0,none⟩) 1 1) (b:=⟨#[]⟩) (cl:=sh) hB5 (by omega));have HO:=hid (Cg (g:=w.heap.size+1+1+1) (st:=st) (vv:=.slice (some ⟨w3.heap.size,0,none⟩) 1 1) (b:=⟨#[]⟩) (cl:=sh) OW neR);have HA5:=hid A5;have HR5:=hid R5;clear HF1 HF2 HF3 A3 R3 F3 A5 R5 F5 hB5 OW hfin h3;go_upto_region 7 with fail;generalize (w3.setCell ⟨w2.heap.size,1,none⟩ (.slice (some ⟨w3.heap.size,0,none⟩) 1 1)).alloc (.cells #[.string ⟨#[76,111,99,97,116,105,111,110]⟩,.string ul] 131)=w5 at *
   obtain⟨z0,z1,z2,z3⟩:=HA5.out.cells;obtain⟨y0,y1,y2,y3⟩:=HR5.out.cells;have f0:=HR5.out.free 0;have f1:=HR5.out.free 1;have f2:=HR5.out.free 2;have f3:=HR5.out.free 3;have lr5:=HR5.out.lt;have la5:=HA5.out.lt;obtain⟨d0,d1,d2,d3⟩:=(HR5.out.set st (.slice (some ⟨w3.heap.size,0,none⟩) 1 1) ⟨#[]⟩ sh).cells;unfold setA at d0 d1 d2 d3 HB HO;clear HA5 HR5 x0 x1 x2 x3 t1;go_wp2_with fail;refine Ae (v:=.agg #[.int .i64 st,.slice (some ⟨w3.heap.size,0,none⟩) 1 1,.string ⟨#[]⟩,.bool sh]) (by simp[results,results149,go_sem,d0,d1,d2,d3]) rfl ?_;rw[HFN.out];exact⟨⟨_,rfl,HO.out⟩,HB.out⟩
  by_cases h4:st=405
  ·obtain⟨hfin,u1,u2⟩:=HF2.out h4;have HFN:=hid hfin;obtain⟨A5,R5,F5,hB5,OW⟩:=Wq Fz ua A3 R3 F3 (show w.heap.size+1+1+1≠w2.heap.size by omega) (show w.heap.size+1+1≠w2.heap.size by omega) hB3 hB2.size;unfold Fz at A5 R5 F5 hB5 OW;obtain⟨x0,x1,x2,x3⟩:=A3.cells;have t1:=A3.free 1;have la3:=A3.lt;have k3:World.cell? _ ⟨w.heap.size+1+1,3,none⟩=some (.string ua):=(F5.cell 3).trans rfl;have lf5:=F5.lt;have neR:(Value.slice (some ⟨w3.heap.size,0,none⟩) 1 1).ownBlock≠some (w.heap.size+1+1+1):=by simp[Value.ownBlock];omega
   have HB:=hid (Bm (g:=w.heap.size+1+1+1) (st:=st) (vv:=.slice (some ⟨w3.heap.size,0,none⟩) 1 1) (b:=⟨#[]⟩) (cl:=sh) hB5 (by omega));have HO:=hid (Cg (g:=w.heap.size+1+1+1) (st:=st) (vv:=.slice (some ⟨w3.heap.size,0,none⟩) 1 1) (b:=⟨#[]⟩) (cl:=sh) OW neR);have HA5:=hid A5;have HR5:=hid R5;clear HF1 HF2 HF3 A3 R3 F3 A5 R5 F5 hB5 OW hfin h3 h4;go_upto_region 9 with fail;generalize (w3.setCell ⟨w2.heap.size,1,none⟩ (.slice (some ⟨w3.heap.size,0,none⟩) 1 1)).alloc (.cells #[.string ⟨#[65,108,108,111,119]⟩,.string ua] 131)=w5 at *
   obtain⟨z0,z1,z2,z3⟩:=HA5.out.cells;obtain⟨y0,y1,y2,y3⟩:=HR5.out.cells;have f0:=HR5.out.free 0;have f1:=HR5.out.free 1;have f2:=HR5.out.free 2;have f3:=HR5.out.free 3;have lr5:=HR5.out.lt;have la5:=HA5.out.lt;obtain⟨d0,d1,d2,d3⟩:=(HR5.out.set st (.slice (some ⟨w3.heap.size,0,none⟩) 1 1) ⟨#[]⟩ sh).cells;unfold setA at d0 d1 d2 d3 HB HO;clear HA5 HR5 x0 x1 x2 x3 t1;go_wp2_with fail;refine Ae (v:=.agg #[.int .i64 st,.slice (some ⟨w3.heap.size,0,none⟩) 1 1,.string ⟨#[]⟩,.bool sh]) (by simp[results,results149,go_sem,d0,d1,d2,d3]) rfl ?_;rw[HFN.out];exact⟨⟨_,rfl,HO.out⟩,HB.out⟩
  ·obtain⟨hfin,u1,u2⟩:=HF3.out h3 h4;have HFN:=hid hfin;obtain⟨z0,z1,z2,z3⟩:=A3.cells;obtain⟨y0,y1,y2,y3⟩:=R3.cells;have f0:=R3.free 0;have f1:=R3.free 1;have f2:=R3.free 2;have f3:=R3.free 3;have la3:=A3.lt;obtain⟨d0,d1,d2,d3⟩:=(R3.set st (.slice none 0 0) ⟨#[]⟩ sh).cells;have HB:=hid (Bm (g:=w.heap.size+1+1+1) (st:=st) (vv:=.slice none 0 0) (b:=⟨#[]⟩) (cl:=sh) hB3 (by omega));unfold setA at d0 d1 d2 d3 HB;clear HF1 HF2 HF3 A3 R3 F3 hfin h3 h4;go_wp2_with fail;refine Ae (v:=.agg #[.int .i64 st,.slice none 0 0,.string ⟨#[]⟩,.bool sh]) (by simp[results,results149,go_sem,d0,d1,d2,d3]) rfl ?_;rw[HFN.out];exact⟨⟨_,rfl,Am _ _ _ _⟩,HB.out⟩
def Fm(n:Nat)(rts:List Nat):List Int:=(List.range n).map λi=>(rts.count i:Int)
theorem Om(n:Nat)(rts:List Nat):(Fm n rts).length=n:=by simp[Fm]
theorem b8C(C:Cf):Fm C.rs.length []=Ig C:=by
 apply F8z
 ·simp[Fm,Ig]
 ·intro i h1 h2;simp[Fm,Ig]
theorem a9R(n:Nat)(rts:List Nat)(ro:Nat)(h:ro<n):Fo 200 ro (Fm n rts)=Fm n (rts++[ro]):=by
 unfold Fo;rw[if_pos rfl];apply F8z
 ·simp[Fm]
 ·intro i h1 h2;have hi:i<n:=by simp[Fm]at h2;exact h2
  by_cases e:ro=i
  ·subst e;rw[List.getElem_set_self];simp[Fm,h,List.count_append]
  ·rw[List.getElem_set_ne e];simp[Fm,List.count_append,List.count_singleton,e]
structure RsI(C:Cf)(sr gt:Nat)(ar:Oa)(cr:Nat)(aw:Oa)(cw:Nat)(vc:Value)(es:List Prm)(v:Value)(w:World):Prop where
 blk:w.heap[sr]?=some (.cells #[.int .i64 C.hd,.int .i64 C.bd,.slice ar C.rs.length cr,.slice aw C.ws.length cw,.pointer (some ⟨gt,0,none⟩),vc] 194 (0,0))
 tr:TrAt gt gt es v w
 sp:Sp es
 eb:es.map Bz=C.rs.map Cd
 ez:∀e∈es,e.1.size<=1000
 rr:Da 6 Rt.cells C.rs ar w
 ww:Da 4 Wr.cells C.ws aw w
 kw:C.ws.length<=cw
 ok:CfOk C
section
variable{C:Cf}{sr gt:Nat}{ar:Oa}{cr:Nat}{aw:Oa}{cw:Nat}{vc:Value}{es:List Prm}{v:Value}{w w':World}
theorem RsI.below(h:RsI C sr gt ar cr aw cw vc es v w)(hb:Bw w w'):RsI C sr gt ar cr aw cw vc es v w':=
 ⟨by rw[hb.block sr (heap_lt h.blk)];exact h.blk,h.tr.below hb,h.sp,h.eb,h.ez,h.rr.below hb,h.ww.below hb,h.kw,h.ok⟩
theorem RsI.cells(h:RsI C sr gt ar cr aw cw vc es v w):w.cell? ⟨sr,0,none⟩=some (.int .i64 C.hd)/\w.cell? ⟨sr,1,none⟩=some (.int .i64 C.bd)/\w.cell? ⟨sr,2,none⟩=some (.slice ar C.rs.length cr)/\w.cell? ⟨sr,3,none⟩=some (.slice aw C.ws.length cw)/\w.cell? ⟨sr,4,none⟩=some (.pointer (some ⟨gt,0,none⟩))/\w.cell? ⟨sr,5,none⟩=some vc:=by
 refine⟨?_,?_,?_,?_,?_,?_⟩<;>(rw[Ab h.blk];rfl)
theorem RsI.lt(h:RsI C sr gt ar cr aw cw vc es v w):sr<w.heap.size:=heap_lt h.blk
end
theorem a3M(hd bd:Int)(l:L8)(w:World)(hl:l.length<=2000000):
  Calls prog 80 #[.agg #[.int .i64 hd,.int .i64 bd],.string ⟨l.toArray⟩] w λr w'=>(∃a cap,r=.returned (.tuple #[.agg (rqF (Bi l hd bd) a cap),.int .i64 (Bi l hd bd).2.2.2.2.2,.int .i64 (Bi l hd bd).1])/\Df (Bq (Bi l hd bd).2.2.2.1) a w'/\∀g o,a=some ⟨g,o,none⟩->w.heap.size<=g/\g<w'.heap.size)/\Bw w w':=by
 refine(a2K hd bd ⟨l.toArray⟩ w (by show l.toArray.size<=_;simp;omega)).mono ?_;rintro r w' ⟨⟨v,rfl,ow⟩,hb⟩;have ow':w'.ownsRow w.heap.size 131 2 v (Bi l hd bd).2.2.2.1.length (Ih (Bi l hd bd).2.2.2.1):=ow;obtain⟨a,cap,rfl,hf⟩:=Rl ow';exact⟨⟨a,cap,rfl,hf,λg o e=>Fl ow' (by rw[e];rfl)⟩,hb⟩
theorem c1U{fs:List Pr2}{a:Oa}{w:World}(h:Df fs a w):Nc fs a w:=λi hi=>by
 obtain⟨g,h1,h2,h3,h4⟩:=h i hi;exact⟨g,0,h1,h2,by simpa using h3,by simpa using h4⟩
section
variable{C:Cf}{sr gt:Nat}{ar:Oa}{cr:Nat}{aw:Oa}{cw:Nat}{vc:Value}{es:List Prm}{v:Value}{w:World}
theorem a7U(h:RsI C sr gt ar cr aw cw vc es v w)(F:Ed):Eg C F=Eu F.2.1 F.2.2.1 (es.map Bz):=by
 unfold Eg pdG;rw[if_pos h.ok.E,h.eb]
theorem c1V(h:RsI C sr gt ar cr aw cw vc es v w)(l:L8)(h0:(Bi l C.hd C.bd).1=0):(Eg C (Bi l C.hd C.bd)).e=0:=by
 obtain⟨m1,m2⟩:=Qy l C.hd C.bd h0;rw[a7U h];unfold Eu;rw[if_neg (by rw[m1,m2];simp)]
 split
 ·rfl
 ·split
  ·rfl
  ·split<;>rfl
theorem c3O(h:RsI C sr gt ar cr aw cw vc es v w)(l:L8)(h0:(Bi l C.hd C.bd).1=0)(hst:(Eg C (Bi l C.hd C.bd)).st=200):(Eg C (Bi l C.hd C.bd)).ro<C.rs.length:=
 (Wd C.hd C.bd C.rs C.ws (Bi l C.hd C.bd).2.1 (Bi l C.hd C.bd).2.2.1 (c1V h l h0)).ro hst
theorem a7V(h:RsI C sr gt ar cr aw cw vc es v w)(l:L8)(hl:l.length<=2000000)(h0:(Bi l C.hd C.bd).1=0):
  Calls prog 147 #[.pointer (some ⟨gt,0,none⟩),.string ⟨(Bi l C.hd C.bd).2.1.toArray⟩,.string ⟨(Bi l C.hd C.bd).2.2.1.toArray⟩] w (b6T (Eg C (Bi l C.hd C.bd)) w):=by
 have hr:=Qy l C.hd C.bd h0;have ht:=(Dh l C.hd C.bd h0).t;rw[a7U h];generalize Bi l C.hd C.bd=F at *
 exact Rh gt gt es v ⟨F.2.1.toArray⟩ ⟨F.2.2.1.toArray⟩ w h.tr h.sp h.ez hr.1 hr.2 (by show F.2.2.1.toArray.size<=_;simp;omega)
theorem a7W(h:RsI C sr gt ar cr aw cw vc es v w)(l:L8)(hl:l.length<=2000000)(h0:(Bi l C.hd C.bd).1=0)(fa:Oa)(fc:Nat)(pa:Oa)(pc:Nat)(ua ul:By)(hua:ua.data.toList=(Eg C (Bi l C.hd C.bd)).al)(hul:ul.data.toList=(Eg C (Bi l C.hd C.bd)).lo)(hf:Df (Bq (Bi l C.hd C.bd).2.2.2.1) fa w)(hp:Df (Eg C (Bi l C.hd C.bd)).ps pa w):
  Calls prog 149 #[.agg #[.int .i64 C.hd,.int .i64 C.bd,.slice ar C.rs.length cr,.slice aw C.ws.length cw],.agg (rqF (Bi l C.hd C.bd) fa fc),.agg #[.int .i64 (Eg C (Bi l C.hd C.bd)).st,.int .i64 (Eg C (Bi l C.hd C.bd)).ro,.slice pa (Eg C (Bi l C.hd C.bd)).ps.length pc,.string ua,.string ul]] w (Yy (Ef C (Bi l C.hd C.bd)) w):=by
 have hs:=Dh l C.hd C.bd h0;obtain⟨f1,f2⟩:=Kb hs;have ht:=hs.t;have hb:=hs.b;have he:=c1V h l h0;have hok:=Wd C.hd C.bd C.rs C.ws (Bi l C.hd C.bd).2.1 (Bi l C.hd C.bd).2.2.1 he;have hlen:=(b6X C.hd C.bd C.rs C.ws (Bi l C.hd C.bd).2.1 (Bi l C.hd C.bd).2.2.1).1;have hps:∀p∈(Eg C (Bi l C.hd C.bd)).ps,p.2.size<=4000000:=by
  rw[a7U h];exact Mc 4000000 _ _ _ (by omega)
 have ha:Ef C (Bi l C.hd C.bd)=Gp (Re (Bq (Bi l C.hd C.bd).2.2.2.1)) (toG (Eg C (Bi l C.hd C.bd)) C.rs C.ws (Bq (Bi l C.hd C.bd).2.2.2.1) ⟨(Bi l C.hd C.bd).2.2.2.2.1.toArray⟩):=by
  unfold Ef Yb;rw[if_pos he]
 rw[ha];generalize Bi l C.hd C.bd=F at *
 exact Zb C.hd C.bd C.rs C.ws ar cr aw cw ⟨F.2.1.toArray⟩ ⟨F.2.2.1.toArray⟩ ⟨F.2.2.2.2.1.toArray⟩ (Bq F.2.2.2.1) fa fc (Eg C F) pa pc ua ul w hua hul hok h.rr h.ww (Iv h.ok.E).2.1 h.kw (c1U hf) (by omega) (λi hi=>by have:=f2 _ (As hi);unfold maxLen;omega) (λp hp=>by have:=f2 p hp;omega) h.ok.ws hp (by show(Eg C F).ps.length<=_;have:(Eg C F).ps.length<=1000:=hlen;omega) (λa ha=>Pk (K:=4000000) (by omega) (λp hp=>by have:=f2 p hp;omega) (by
   unfold Fk
   cases q:C.rs[(Eg C F).ro]? with
   |none=>exact Ah _
   |some r=>have:=(h.ok.rs r (List.mem_of_getElem? q)).t;simp only;omega) (by show F.2.2.2.2.1.toArray.size<=_;simp;omega) hps C.ws a (λx hx=>by have:=h.ok.ws x hx;omega) ha)
end
theorem Oo(m:By)(R:Rp)(hR:AnsB R)(pa:Oa)(pc:Nat)(w:World)(hf:Df R.fs pa w):
  Calls prog 101 #[.string m,.agg (anA R.st (.slice pa R.fs.length pc) R.b R.cl)] w λe w'=>e=.returned (.string ⟨(Fr m.data.toList R.st R.fs R.b.data.toList R.cl).toArray⟩)/\Bw w w':=
 a3D m R.st R.fs pa pc R.b R.cl w (by have:=hR.s0;omega) (by have:=hR.s1;omega) (c1U hf) (by have:=hR.n;omega) (by have:=hR.z;omega)
theorem Vj(e:Int)(he:okE e)(h0:e≠0)(h2:e≠2)(w:World):Calls prog 171 #[.int .i64 e] w λx w'=>x=.returned (.int .i64 (Ec e))/\w'=w:=by
 rcases he with rfl|rfl|rfl|rfl|rfl|rfl|rfl
 ·exact absurd rfl h0
 ·exact absurd rfl h2
 all_goals
  go_enter func171,ntmps171;go_wp2;go_ret;exact⟨rfl,rfl⟩
abbrev plA(out:L8)(rq lf:Nat)(cl:Bool)(vr:Value):Array Value:=#[.string ⟨out.toArray⟩,.int .i64 rq,.int .i64 lf,.bool cl,vr]
abbrev plZ:Array Value:=#[.string ⟨#[]⟩,.int .i64 0,.int .i64 0,.bool false,.slice none 0 0]
def Zc(rts:List Nat):List Value:=rts.map λ(r:Nat)=>.int .i64 (r:Int)
structure PlI(w0:World)(out:L8)(rq lf:Nat)(cl:Bool)(rts:List Nat)(vr:Value)(w:World):Prop where
 bel:Bw w0 w
 rb:w.heap[w0.heap.size]?=some (.cells plZ 198 (0,0))
 xb:w.heap[w0.heap.size+1]?=some (.cells (plA out rq lf cl vr) 198 (0,0))
 own:w.ownsRow (w0.heap.size+2) 3 1 vr rts.length (Zc rts)
section
variable{w0:World}{out:L8}{rq lf:Nat}{cl:Bool}{rts:List Nat}{vr:Value}{w:World}
theorem c3P(w:World):PlI w [] 0 0 false [] (.slice none 0 0) ((w.alloc (.cells plZ 198)).alloc (.cells plZ 198)):=by
 have hA1:=bA w (.cells plZ 198);have hA2:=hA1.alloc hA1.size (.cells plZ 198);have b1:=Ag w (.cells plZ 198);have b2:=Ag (w.alloc (.cells plZ 198)) (.cells plZ 198);have z1:(w.alloc (.cells plZ 198)).heap.size=w.heap.size+1:=by simp
 rw[z1]at b2;refine⟨hA2,?_,b2,Am _ _ _ _⟩;rw[Ba _ _ _ (by rw[z1];omega)];exact b1
theorem PlI.lt(h:PlI w0 out rq lf cl rts vr w):w0.heap.size+1<w.heap.size:=heap_lt h.xb
theorem PlI.below(h:PlI w0 out rq lf cl rts vr w){w':World}(hb:Bw w w'):PlI w0 out rq lf cl rts vr w':=
 ⟨Bc h.bel hb,by rw[hb.block _ (heap_lt h.rb)];exact h.rb,by rw[hb.block _ (heap_lt h.xb)];exact h.xb,Be h.own hb⟩
theorem PlI.xcells(h:PlI w0 out rq lf cl rts vr w):w.cell? ⟨w0.heap.size+1,0,none⟩=some (.string ⟨out.toArray⟩)/\w.cell? ⟨w0.heap.size+1,1,none⟩=some (.int .i64 rq)/\w.cell? ⟨w0.heap.size+1,2,none⟩=some (.int .i64 lf)/\w.cell? ⟨w0.heap.size+1,3,none⟩=some (.bool cl)/\w.cell? ⟨w0.heap.size+1,4,none⟩=some vr:=by
 refine⟨?_,?_,?_,?_,?_⟩<;>(rw[Ab h.xb];rfl)
theorem PlI.rcells(h:PlI w0 out rq lf cl rts vr w):w.cell? ⟨w0.heap.size,0,none⟩=some (.string ⟨#[]⟩)/\w.cell? ⟨w0.heap.size,1,none⟩=some (.int .i64 0)/\w.cell? ⟨w0.heap.size,2,none⟩=some (.int .i64 0)/\w.cell? ⟨w0.heap.size,3,none⟩=some (.bool false)/\w.cell? ⟨w0.heap.size,4,none⟩=some (.slice none 0 0):=by
 refine⟨?_,?_,?_,?_,?_⟩<;>(rw[Ab h.rb];rfl)
theorem PlI.xset(h:PlI w0 out rq lf cl rts vr w)(i:Nat)(v:Value):Bw w0 (w.setCell ⟨w0.heap.size+1,i,none⟩ v)/\(w.setCell ⟨w0.heap.size+1,i,none⟩ v).heap[w0.heap.size]?=some (.cells plZ 198 (0,0))/\(w.setCell ⟨w0.heap.size+1,i,none⟩ v).ownsRow (w0.heap.size+2) 3 1 vr rts.length (Zc rts):=
 ⟨h.bel.trans ((Kx.set (L:=[w0.heap.size+1]) ⟨w0.heap.size+1,i,none⟩ v (by simp)).below (λb hb=>by simp at hb;omega) h.bel.size),by rw[Aw _ _ _ _ (by simp)];exact h.rb,Es h.own λr hr=>Aw _ _ _ _ (λe=>by have:=Bx h.own r hr;simp at e;omega)⟩
theorem PlI.say(h:PlI w0 out rq lf cl rts vr w)(t:L8):PlI w0 (out++t) rq lf cl rts vr (w.setCell ⟨w0.heap.size+1,0,none⟩ (.string ⟨(out++t).toArray⟩)):=by
 obtain⟨h1,h2,h4⟩:=h.xset 0 (.string ⟨(out++t).toArray⟩);exact⟨h1,h2,Bj h.xb 0 _,h4⟩
theorem PlI.one(h:PlI w0 out rq lf cl rts vr w):PlI w0 out (rq+1) lf cl rts vr (w.setCell ⟨w0.heap.size+1,1,none⟩ (.int .i64 ((rq:Int)+1))):=by
 obtain⟨h1,h2,h4⟩:=h.xset 1 (.int .i64 ((rq:Int)+1));exact⟨h1,h2,Bj h.xb 1 _,h4⟩
theorem PlI.left(h:PlI w0 out rq lf cl rts vr w)(k:Nat):PlI w0 out rq k cl rts vr (w.setCell ⟨w0.heap.size+1,2,none⟩ (.int .i64 (k:Int))):=by
 obtain⟨h1,h2,h4⟩:=h.xset 2 (.int .i64 (k:Int));exact⟨h1,h2,Bj h.xb 2 _,h4⟩
theorem PlI.shut(h:PlI w0 out rq lf cl rts vr w):PlI w0 out rq lf true rts vr (w.setCell ⟨w0.heap.size+1,3,none⟩ (.bool true)):=by
 obtain⟨h1,h2,h4⟩:=h.xset 3 (.bool true);exact⟨h1,h2,Bj h.xb 3 _,h4⟩
theorem PlI.more(h:PlI w0 out rq lf cl rts vr w){r:Nat}{o:Obj}{v':Value}{w3:World}(ho:w3.ownsRow (w0.heap.size+2) 3 1 v' (rts.length+1) (Zc rts++[.int .i64 (r:Int)]))(hg:(w.alloc o).grownBy w3 vr.ownBlock):PlI w0 out rq lf cl (rts++[r]) v' (w3.setCell ⟨w0.heap.size+1,4,none⟩ v'):=by
 have hl:=h.lt;have hA:=bA w o;have hz:(w.alloc o).heap.size=w.heap.size+1:=by simp
 have keep:∀k,k<w0.heap.size+2->w3.heap[k]?=w.heap[k]?:=λk hk=>by
  rw[hg.block k (by omega) (λe=>by have:=Bx h.own k e.symm;omega),hA.block k (by omega)]
 have hB:Bw w0 w3:=(Bc h.bel hA).grown hg (by have:=h.bel.size;omega) (λk hk=>by have:=Bx h.own k hk;omega);refine⟨hB.trans ((Kx.set (L:=[w0.heap.size+1]) ⟨w0.heap.size+1,4,none⟩ v' (by simp)).below (λb hb=>by simp at hb;omega) hB.size),?_,?_,?_⟩
 ·rw[Aw _ _ _ _ (by simp),keep _ (by omega)];exact h.rb
 ·have hx:w3.heap[w0.heap.size+1]?=some (.cells (plA out rq lf cl vr) 198 (0,0)):=by rw[keep _ (by omega)];exact h.xb
  exact Bj hx 4 v'
 ·rw[A0z];have e:Zc (rts++[r])=Zc rts++[.int .i64 (r:Int)]:=by simp[Zc]
  rw[e];exact Es ho λr hr=>Aw _ _ _ _ (λe=>by have:=Bx ho r hr;simp at e;omega)
theorem PlI.kept{o:Obj}{w3:World}(hg:(w.alloc o).grownBy w3 vr.ownBlock)(k:Nat)(hk:k<w.heap.size)(hne:vr.ownBlock≠some k):w3.heap[k]?=w.heap[k]?:=by
 have hA:=bA w o;rw[hg.block k (Af hk hA.size) (λe=>hne e.symm),hA.block k hk]
theorem PlI.moreK{g:Nat}{v:Value}{o:Obj}{w3:World}(hg:(w.alloc o).grownBy w3 vr.ownBlock):Kx (g::vr.ownBlock.toList) w (w3.setCell ⟨g,4,none⟩ v):=
 ((Kx.of (bA w o)).trans (Kx.grown hg (λk hk=>by rw[B5z];exact hk)) (λb hb=>.inl (List.mem_cons_of_mem _ hb))).trans (Kx.set _ _ (by simp)) (λb hb=>.inl hb)
abbrev plW(g:Nat)(out:L8)(rq lf:Nat)(cl:Bool)(vr:Value)(w:World):World:=((((w.setCell ⟨g,0,none⟩ (.string ⟨out.toArray⟩)).setCell ⟨g,1,none⟩ (.int .i64 rq)).setCell ⟨g,2,none⟩ (.int .i64 lf)).setCell ⟨g,3,none⟩ (.bool cl)).setCell ⟨g,4,none⟩ vr
theorem PlI.fin(h:PlI w0 out rq lf cl rts vr w):(plW w0.heap.size out rq lf cl vr w).heap[w0.heap.size]?=some (.cells (plA out rq lf cl vr) 198 (0,0))/\(plW w0.heap.size out rq lf cl vr w).ownsRow w0.heap.size 3 1 vr rts.length (Zc rts)/\Bw w0 (plW w0.heap.size out rq lf cl vr w):=by
 have hk:Kx [w0.heap.size] w (plW w0.heap.size out rq lf cl vr w):=
  ((((Kx.set _ _ (by simp)).trans (Kx.set _ _ (by simp)) (λ_ h=>.inl h)).trans (Kx.set _ _ (by simp)) (λ_ h=>.inl h)).trans (Kx.set _ _ (by simp)) (λ_ h=>.inl h)).trans (Kx.set _ _ (by simp)) (λ_ h=>.inl h)
 refine⟨Bj (Bj (Bj (Bj (Bj h.rb 0 _) 1 _) 2 _) 3 _) 4 _,Gu (Es h.own λr hr=>?_) (by omega),h.bel.trans (hk.below (λb hb=>by simp at hb;omega) h.bel.size)⟩;have h1:=Fl h.own hr;exact hk.2 r h1.2 (by simp;omega)
end
end Go.Proofs.YtbiggccolpchcaaGreatDoor
