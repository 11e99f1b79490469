/- Joined. -/
import Derived.Test.YtbiggccolpchcaaGreatDoorJoin24
set_option maxRecDepth 100000
set_option maxHeartbeats 4000000
namespace Go.Proofs.YtbiggccolpchcaaGreatDoor
open Go.RowKit _root_.Go.Proofs.Tryz
def Hk(v:By):Bool:=v.data.toList.any λx=>x==13||x==10||x==0
theorem b9T(n v:By)(w:World)(HCA:∀W,Bw w W->Calls prog 258 #[.string v,.string ⟨#[13,10,0]⟩] W λe w'=>e=.returned (.bool (Hk v))/\Bw W w'):
  Calls prog 214 #[.agg #[.string n,.string v]] w λe w'=>e=.returned (.bool (Hk v))/\Bw w w':=by
 have hA:=bA w (.cells #[.string n,.string v] 131);have HC:=hid (HCA _ hA);generalize Hk v=E at *
 clear HCA;go_enter func214,ntmps214;go_wp2_with (go_at_call 258;refine HC.out.mono ?_;rintro e w1 ⟨rfl,hb1⟩);go_ret;exact⟨rfl,Bc hA hb1⟩
def Jz(x:Wr)(qf:List Prm)(qb:By):Int:=
 if x.k=1/\x.v.data.toList∉(Bf qf x.n.data.toList).map (λb=>b.data.toList)then 403 else if x.k=2/\x.lim<(qb.size:Int)then 413 else 0
def Dz(qf:List Prm)(qb:By):List Wr->Nat×Int
 |[]=>(0,0)
 |x::r=>if Jz x qf qb=0 then((Dz qf qb r).1+1,(Dz qf qb r).2)else(0,Jz x qf qb)
def Ip(x:Wr)(qf:List Prm)(G:Option An):Option An:=
 if x.k=0 then G.map λa=>⟨a.st,a.fs++[(x.n,x.v)],a.b⟩
 else if x.k=3 then(match G with
  |none=>some ⟨500,[],Id⟩
  |some a=>some a)
 else if x.k=4 then G.map λa=>⟨a.st,a.fs++(Bf qf x.n.data.toList).map (λv=>(x.n,v)),a.b⟩
 else G
def Ha(qf:List Prm)(G:Option An):List Wr->Option An
 |[]=>G
 |x::r=>Ip x qf (Ha qf G r)
theorem a6J(x:Wr)(qf:List Prm)(qb:By)(G:Option An):Eh x qf qb G=if Jz x qf qb=0 then Ip x qf G else some ⟨Jz x qf qb,[],⟨#[]⟩⟩:=by
 by_cases h1:x.k=1
 ·by_cases hm:x.v.data.toList∈(Bf qf x.n.data.toList).map (λb=>b.data.toList)
  ·have hb:Jz x qf qb=0:=by
    unfold Jz;rw[if_neg (λh=>h.2 hm),if_neg (λh=>by omega)]
   rw[hb,if_pos rfl];unfold Eh Ip;rw[if_neg (by omega),if_pos h1,if_pos hm,if_neg (by omega),if_neg (by omega),if_neg (by omega)]
  ·have hb:Jz x qf qb=403:=by unfold Jz;rw[if_pos ⟨h1,hm⟩]
   rw[hb,if_neg (by decide)];unfold Eh;rw[if_neg (by omega),if_pos h1,if_neg hm]
 by_cases h2:x.k=2
 ·by_cases hl:x.lim<(qb.size:Int)
  ·have hb:Jz x qf qb=413:=by unfold Jz;rw[if_neg (λh=>h1 h.1),if_pos ⟨h2,hl⟩]
   rw[hb,if_neg (by decide)];unfold Eh;rw[if_neg (by omega),if_neg h1,if_pos h2,if_pos hl]
  ·have hb:Jz x qf qb=0:=by unfold Jz;rw[if_neg (λh=>h1 h.1),if_neg (λh=>hl h.2)]
   rw[hb,if_pos rfl];unfold Eh Ip;rw[if_neg (by omega),if_neg h1,if_pos h2,if_neg hl,if_neg (by omega),if_neg (by omega),if_neg (by omega)]
 have hb:Jz x qf qb=0:=by unfold Jz;rw[if_neg (λh=>h1 h.1),if_neg (λh=>h2 h.1)]
 rw[hb,if_pos rfl];unfold Eh Ip;rw[if_neg h1,if_neg h2]
 cases G<;>rfl
theorem a1W(qf:List Prm)(qb:By)(h:Hn)(ps:List Prm):∀ws:List Wr,Ld qf qb h ps ws=Ha qf (if(Dz qf qb ws).2=0 then Ew h qb ps else some ⟨(Dz qf qb ws).2,[],⟨#[]⟩⟩) (ws.take (Dz qf qb ws).1)
 |[]=>by simp[Ld,Ha,Dz]
 |x::r=>by
  rw[Ld,a6J,Dz];by_cases hb:Jz x qf qb=0
  ·rw[if_pos hb,if_pos hb];simp only[List.take_succ_cons,Ha];rw[<-a1W qf qb h ps r]
  ·rw[if_neg hb,if_neg hb];simp[Ha,hb]
theorem a9B(qf:List Prm)(qb:By):∀ws:List Wr,(Dz qf qb ws).1<=ws.length
 |[]=>by simp[Dz]
 |x::r=>by
  have:=a9B qf qb r;rw[Dz]
  split
  ·simp;omega
  ·simp
structure Rp where
 st:Int
 fs:List Prm
 b:By
 cl:Bool
 e:Int
def Gp(sh:Bool):Option An->Rp
 |none=>⟨500,[],⟨#[]⟩,true,0⟩
 |some a=>if a.fs.any (λp=>Hk p.2)=true then⟨500,[],⟨#[]⟩,sh,0⟩else⟨a.st,a.fs,a.b,sh,0⟩
def Fk(rs:List Rt)(k:Nat):Hn:=match rs[k]? with
 |some r=>r.h
 |none=>⟨0,0,⟨#[]⟩,⟨#[]⟩⟩
def toG(R:DsR)(rs:List Rt)(ws:List Wr)(qf:List Prm)(qb:By):Option An:=
 if R.st=200 then Ld qf qb (Fk rs R.ro) R.ps ws else some (El R.st ⟨R.al.toArray⟩ ⟨R.lo.toArray⟩)
def Yb(R:DsR)(rs:List Rt)(ws:List Wr)(qf:List Prm)(qb:By):Rp:=
 if R.e=0 then Gp (Re qf) (toG R rs ws qf qb)else⟨0,[],⟨#[]⟩,false,R.e⟩
def b5Z(R:Rp)(w:World)(x:Ending)(w':World):Prop:=
 (∃vv,x=.returned (.tuple #[.agg #[.int .i64 R.st,vv,.string R.b,.bool R.cl],.int .i64 R.e])/\w'.ownsRow w.heap.size 131 2 vv R.fs.length (Bg R.fs))/\Bw w w'
def enL(l:L8):Bool:=l.any λx=>x==13||x==10||x==0
theorem b9U(a b:L8):enL (a++b)=(enL a||enL b):=by simp[enL]
theorem a6K{l:L8}(h:∀x∈l,32<=x.toNat):enL l=false:=by
 unfold enL;rw[List.any_eq_false];intro x hx he;have h1:=h x hx;simp only[Bool.or_eq_true,beq_iff_eq]at he;rcases he with(rfl|rfl)|rfl<;>simp at h1
theorem b6A(v:By):Hk v=enL v.data.toList:=rfl
theorem Ny(m l:L8):∀(es:List Ent) (k:Nat),(Cp m l es k).2.2=0->(Cp m l es k).1<k+es.length
 |[],k,h=>by simp[Cp]at h
 |e::r,k,h=>by
  rw[Cp]at h ⊢;by_cases he:e.m.data.toList=m
  ·rw[if_pos he]at h ⊢
   cases hm:Cj e.ps (l.drop 1) true []with
   |some fs=>simp
   |none=>
    rw[hm]at h;have:=Ny m l r (k+1) h;simp only[A9z];omega
  ·rw[if_neg he]at h ⊢;have:=Ny m l r (k+1) h;simp only[A9z];omega
theorem b6B{m l:L8}{es:List Ent}(h:(Cv m l es).2.2=0):(Cv m l es).1<es.length:=by
 unfold Cv at h ⊢;by_cases hc:(Cp m l es 0).2.2≠0/\m=hdL
 ·rw[if_pos hc]at h ⊢;have:=Ny gtL l es 0 h;omega
 ·rw[if_neg hc]at h ⊢;have:=Ny m l es 0 h;omega
theorem b9V(c:UInt8)(h:Pm.a4r c=true):32<=c.toNat:=by
 have:=Pm.a0g (p:=λc=>!Pm.a4r c||decide (32<=c.toNat)) (by decide +kernel) c;rw[h]at this;simpa using this
theorem b6C{m:L8}(h:Pm.a1x m=true):m≠[]/\∀x∈m,32<=x.toNat:=by
 unfold Pm.a1x Pm.a2c at h;simp only[A3z]at h;refine⟨λe=>by rw[e]at h;simp at h,λx hx=>b9V x ?_⟩;exact List.all_eq_true.1 h.2.2 x hx
theorem a1X(sep:L8)(hs:∀x∈sep,32<=x.toNat):∀l:List (List UInt8),(∀m∈l,∀x∈m,32<=x.toNat)->∀x∈Lib.join l sep,32<=x.toNat
 |[],_,x,hx=>by simp[Lib.join,List.intercalate]at hx
 |[y],h,x,hx=>h y (by simp) x (by simpa[Lib.join,List.intercalate]using hx)
 |y::z::r,h,x,hx=>by
  have e:Lib.join (y::z::r) sep=y++(sep++Lib.join (z::r) sep):=by simp[Lib.join,List.intercalate,List.intersperse]
  rw[e]at hx;rcases List.mem_append.1 hx with hx|hx
  ·exact h y (by simp) x hx
  ·rcases List.mem_append.1 hx with hx|hx
   ·exact hs x hx
   ·exact a1X sep hs (z::r) (λm hm=>h m (by simp[hm])) x hx
theorem b9W(sep:L8):∀l:List (List UInt8),l≠[]->(∀m∈l,m≠[])->Lib.join l sep≠[]
 |[],h,_=>absurd rfl h
 |y::r,_,h=>by
  rw[Lib.join_cons];intro e;exact h y (by simp) (List.append_eq_nil_iff.1 e).1
theorem b1O{l:L8}(h:∀x∈l,32<=x.toNat):∀x∈Ck l,32<=x.toNat:=by
 intro x hx;unfold Ck at hx
 split at hx
 ·exact h x (List.mem_of_mem_take hx)
 ·rcases List.mem_append.1 hx with hx|hx
  ·exact h x hx
  ·simp at hx;subst hx;decide
structure DsOk(R:DsR)(n:Nat):Prop where
 ro:R.st=200->R.ro<n
 lo:R.st=301\/R.st=308->R.lo≠[]/\enL R.lo=false/\R.al=[]
 al:R.st=405->R.al≠[]/\enL R.al=false/\R.lo=[]
 no:¬(R.st=301\/R.st=308)->R.st≠405->R.lo=[]/\R.al=[]
theorem c2L(m t:L8)(es:List Ent)(hm:∀e∈es,Pm.a1x e.m.data.toList=true)(h:(Eu m t es).e=0):DsOk (Eu m t es) es.length:=by
 unfold Eu at h ⊢;by_cases hb:Pm.a1x m=false\/Pm.a2a t=false
 ·rw[if_pos hb]at h;simp at h
 rw[if_neg hb];have ht:Pm.a2a t=true:=by cases q:Pm.a2a t;exact absurd (.inr q) hb;rfl
 rw[Pm.a2b,A3z]at ht;have hv:∀x∈t,32<=x.toNat:=λx hx=>by
  have:=List.all_eq_true.1 ht.2 x hx;unfold Pm.a4q at this;simp only[A3z,decide_eq_true_eq]at this;omega
 have hva:∀x∈Pm.ahead 63 t,32<=x.toNat:=λx hx=>hv x (List.takeWhile_subset _ hx);have hvb:∀x∈Pm.behind 63 t,32<=x.toNat:=λx hx=>hv x ((List.dropWhile_sublist _).subset hx);by_cases h1:(Cv m (Pm.ahead 63 t) es).2.2=0
 ·rw[if_pos h1];exact⟨λ_=>b6B h1,λq=>by simp at q,λq=>by simp at q,λ_ _=>⟨rfl,rfl⟩⟩
 rw[if_neg h1];by_cases h2:(otG m (Pm.ahead 63 t) es).2=true
 ·rw[if_pos h2];have hne:Pm.ahead 63 t≠[47]:=λe=>by unfold otG at h2;rw[if_pos e]at h2;simp at h2
  have hp:=Ju ht.1 hne;have e1:(otG m (Pm.ahead 63 t) es).1=Ck (Pm.ahead 63 t):=by unfold otG;rw[if_neg hne]
  have hmv:Jv m=301\/Jv m=308:=by unfold Jv;split<;>simp
  refine⟨λq=>?_,λ_=>⟨?_,?_,rfl⟩,λq=>?_,λq _=>absurd hmv q⟩
  ·have q':Jv m=200:=q;rcases hmv with h|h<;>rw[h]at q'<;>simp at q'
  ·intro e;have e2:=(List.append_eq_nil_iff.1 e).1;rw[e1]at e2;have:=hp.2.1;rw[e2]at this;simp at this
  ·show enL (_++_)=false;rw[e1,b9U,a6K (b1O hva),a6K hvb];rfl
  ·have q':Jv m=405:=q;rcases hmv with h|h<;>rw[h]at q'<;>simp at q'
 rw[if_neg h2];by_cases h3:Fd (Pm.ahead 63 t) es≠[]
 ·rw[if_pos h3];have hmm:∀x∈Fd (Pm.ahead 63 t) es,x≠[]/\∀y∈x,32<=y.toNat:=λx hx=>by
   rcases a8Z hx with rfl|⟨e,he,rfl⟩
   ·exact⟨by decide,by decide⟩
   ·exact b6C (hm e he)
  refine⟨λq=>by simp at q,λq=>by simp at q,λ_=>⟨b9W _ _ h3 (λx hx=>(hmm x hx).1),?_,rfl⟩,λ_ q=>absurd rfl q⟩;exact a6K (a1X _ (by decide) _ (λx hx=>(hmm x hx).2))
 ·rw[if_neg h3];exact⟨λq=>by simp at q,λq=>by simp at q,λq=>by simp at q,λ_ _=>⟨rfl,rfl⟩⟩
theorem Wd(hd bd:Int)(rs:List Rt)(ws:List Wr)(m t:L8)(h:(pdG hd bd rs ws m t).e=0):DsOk (pdG hd bd rs ws m t) rs.length:=by
 unfold pdG at h ⊢;by_cases hc:(Et hd bd rs ws).2=0
 ·rw[if_pos hc]at h ⊢;have:=c2L m t (rs.map Cd) (λe he=>by
   obtain⟨r,hr,rfl⟩:=List.mem_map.1 he;exact Nw rs [] 0 (Iv hc).2.2.1 r hr) h
  simpa using this
 ·rw[if_neg hc]at h;exact absurd h hc
def SmA(K:Nat)(a:An):Prop:=a.b.size<=K/\∀p∈a.fs,p.1.size<=K/\p.2.size<=K
theorem Tn{K:Nat}(n:L8):∀ps:List Prm,(∀p∈ps,p.2.size<=K)->(stG n ps).size<=K
 |[],_=>Ah K
 |p::r,h=>by
  rw[stG]
  split
  ·exact h p (by simp)
  ·exact Tn n r (λq hq=>h q (by simp[hq]))
theorem a6L{K:Nat}{h:Hn}{qb:By}{ps:List Prm}{a:An}(ht:h.t.size<=K)(hq:qb.size<=K)(hp:∀p∈ps,p.2.size<=K)(e:Ew h qb ps=some a):SmA K a:=by
 have hs:=Tn h.n.data.toList ps hp;unfold Ew at e
 split at e
 ·cases e;exact⟨ht,by simp⟩
 split at e
 ·cases e;exact⟨hq,by simp⟩
 split at e
 ·cases e;exact⟨hs,by simp⟩
 split at e
 ·cases e
  refine⟨Ah _,λp hp=>?_⟩;simp only[C4z]at hp;subst hp;exact⟨ht,hs⟩
 ·cases e
theorem Na(K:Nat)(st:Int):SmA K ⟨st,[],⟨#[]⟩⟩:=⟨Ah _,by simp⟩
theorem Rr{qf:List Prm}{n:L8}{v:By}(h:v∈Bf qf n):∃p∈qf,p.2=v:=by
 unfold Bf at h;obtain⟨p,hp,rfl⟩:=List.mem_map.1 h;exact⟨p,(List.mem_filter.1 hp).1,rfl⟩
theorem a6M{K:Nat}{x:Wr}{qf:List Prm}{qb:By}{G:Option An}(h5:5<=K)(hx:x.n.size<=K/\x.v.size<=K)(hf:∀p∈qf,p.2.size<=K)(h:∀a,G=some a->SmA K a){a:An}(e:Eh x qf qb G=some a):SmA K a:=by
 unfold Eh at e
 split at e
 ·obtain⟨b,hb,rfl⟩:=Option.map_eq_some_iff.1 e;refine⟨(h b hb).1,λp hp=>?_⟩;rcases List.mem_append.1 hp with hp|hp
  ·exact(h b hb).2 p hp
  ·simp only[C4z]at hp;subst hp;exact hx
 split at e
 ·split at e
  ·exact h a e
  ·cases e;exact Na K _
 split at e
 ·split at e
  ·cases e;exact Na K _
  ·exact h a e
 split at e
 ·cases G with
  |none=>cases e;exact⟨h5,by simp⟩
  |some b=>exact h a e
 split at e
 ·obtain⟨b,hb,rfl⟩:=Option.map_eq_some_iff.1 e;refine⟨(h b hb).1,λp hp=>?_⟩;rcases List.mem_append.1 hp with hp|hp
  ·exact(h b hb).2 p hp
  ·obtain⟨v,hv,rfl⟩:=List.mem_map.1 hp;obtain⟨q,hq,rfl⟩:=Rr hv;exact⟨hx.1,hf q hq⟩
 ·exact h a e
theorem Pk{K:Nat}{qf:List Prm}{qb:By}{h:Hn}{ps:List Prm}(h5:5<=K)(hf:∀p∈qf,p.2.size<=K)(ht:h.t.size<=K)(hq:qb.size<=K)(hp:∀p∈ps,p.2.size<=K):∀(ws:List Wr) (a:An),(∀x∈ws,x.n.size<=K/\x.v.size<=K)->Ld qf qb h ps ws=some a->SmA K a
 |[],a,_,e=>a6L ht hq hp e
 |x::r,a,hw,e=>a6M h5 (hw x (by simp)) hf (λb hb=>Pk h5 hf ht hq hp r b (λy hy=>hw y (by simp[hy])) hb) e
theorem To:∀(n:Nat) (l o:L8),l.length<=n->Pm.unesc l=some o->o.length<=l.length
 |0,l,o,hl,h=>by
  have:l=[]:=Ay (by omega);subst this;simp[Pm.unesc]at h;simp[<-h]
 |n+1,[],o,_,h=>by simp[Pm.unesc]at h;simp[<-h]
 |n+1,c::r,o,hl,h=>by
  by_cases hc:c=37
  ·subst hc
   match r,hl,h with
   |[],_,h=>rw[Pm.a5c [] (by simp)]at h;simp at h
   |[a],_,h=>rw[Pm.a5c [a] (by simp)]at h;simp at h
   |a::b::r,hl,h=>
    rw[Pm.unesc,if_pos rfl]at h
    split at h
    ·obtain⟨y,hy,rfl⟩:=Option.map_eq_some_iff.1 h;have:=To n r y (by simp at hl;omega) hy;simp;omega
    ·simp at h
  ·rw[Pm.unesc_plain c r hc]at h;obtain⟨y,hy,rfl⟩:=Option.map_eq_some_iff.1 h;have:=To n r y (by simp at hl;omega) hy;simp;omega
theorem c2M(l:L8):(Pm.unT l).size<=l.length:=by
 unfold Pm.unT
 cases h:Pm.unesc l with
 |none=>exact Ah _
 |some o=>
  have:=To l.length l o (Ac _) h;show o.toArray.size<=l.length;simpa using this
theorem Qr(K:Nat):∀(ps:List (Int×By)) (l:L8) (mr:Bool) (acc fs:List Prm),l.length<=K->(∀p∈acc,p.2.size<=K)->Cj ps l mr acc=some fs->∀p∈fs,p.2.size<=K
 |[],l,mr,acc,fs,_,ha,h=>by
  rw[Cj]at h
  split at h
  ·simp at h
  ·cases h;exact ha
 |q::r,l,mr,acc,fs,hl,ha,h=>by
  rw[Cj]at h
  split at h
  ·simp at h
  split at h
  ·have hraw:(Qj q.1 l).length<=l.length:=by
    unfold Qj;split
    ·exact Ac _
    ·exact(Gy 47 l).1
   have hleft:(Pd q.1 l).length<=l.length:=by
    unfold Pd;split
    ·exact Ac _
    ·exact(Gy 47 l).2
   refine Qr K r _ _ _ fs (by omega) (λp hp=>?_) h
   split at hp
   ·exact ha p hp
   ·rcases List.mem_append.1 hp with hp|hp
    ·exact ha p hp
    ·simp only[C4z]at hp;subst hp;have:=c2M (Qj q.1 l);simp only;omega
  ·simp at h
theorem Ka(K:Nat)(m l:L8)(hl:l.length<=K):∀(es:List Ent) (k:Nat),∀p∈(Cp m l es k).2.1,p.2.size<=K
 |[],_=>by simp[Cp]
 |e::r,k=>by
  rw[Cp]
  split
  ·split
   ·rename_i fs hfs
    exact Qr K _ _ _ _ fs (by simp;omega) (by simp) hfs
   ·exact Ka K m l hl r (k+1)
  ·exact Ka K m l hl r (k+1)
theorem Mc(K:Nat)(m t:L8)(es:List Ent)(ht:t.length<=K):∀p∈(Eu m t es).ps,p.2.size<=K:=by
 have hh:=(Gy 63 t).1;have hz:∀p∈(Cv m (Pm.ahead 63 t) es).2.1,p.2.size<=K:=by
  unfold Cv
  split
  ·exact Ka K _ _ (by omega) _ _
  ·exact Ka K _ _ (by omega) _ _
 unfold Eu
 split
 ·simp
 split
 ·exact hz
 split
 ·simp
 ·split<;>simp
theorem b6D(qf:List Prm)(G:Option An)(N:Nat)(h:∀a,G=some a->a.fs.length<=N):∀(ws:List Wr) (a:An),Ha qf G ws=some a->a.fs.length<=N+ws.length*(qf.length+1)
 |[],a,e=>by have:=h a e;simpa using this
 |x::r,a,e=>by
  have ih:=b6D qf G N h r;rw[Ha]at e;rw[A9z,Nat.add_mul];generalize Ha qf G r=H at *
  have hv:=Co qf x.n.data.toList;unfold Ip at e
  split at e
  ·obtain⟨b,hb,rfl⟩:=Option.map_eq_some_iff.1 e;have:=ih b hb;simp;omega
  split at e
  ·cases H with
   |none=>cases e;simp
   |some b=>have:=ih a e;omega
  split at e
  ·obtain⟨b,hb,rfl⟩:=Option.map_eq_some_iff.1 e;have:=ih b hb;simp;omega
  ·have:=ih a e;omega
theorem a6N{s chars:L8}{i k:Nat}(h:Lib.NoAny s chars i)(hk:∀j (x:UInt8),i<=j->j<i+k->s[j]?=some x->chars.contains x=false):Lib.NoAny s chars (i+k):=λj b hj hb=>by
 by_cases e:j<i
 ·exact h j b e hb
 ·exact hk j b (by omega) hj hb
theorem b6E(x:UInt8)(h:128<=x.toNat):Ca.data.toList.contains x=false:=by
 have h1:x≠13:=λe=>by subst e;simp at h
 have h2:x≠10:=λe=>by subst e;simp at h
 have h3:x≠0:=λe=>by subst e;simp at h
 show List.contains [13,10,0] x=false;simp[h1,h2,h3]
theorem b6F(s:By)(i:Nat)(hi:i<s.size)(ha:128<=(s[i]'hi).toNat)(h:Lib.NoAny s.data.toList Ca.data.toList i):Lib.NoAny s.data.toList Ca.data.toList (i+(Utf8.decode s i).2):=by
 obtain⟨d1,d2⟩:=Pz s i hi ha;refine a6N h λj x h1 h2 hx=>b6E x ?_;have hj:=d2 (j-i) (by omega);have e:i+(j-i)=j:=by omega
 rw[e]at hj;have hjs:j<s.size:=by omega
 have e2:s.get! j=s[j]'hjs:=get_at s j hjs;have e3:=Lib.data_getElem? s j hjs;rw[e3,Option.some.injEq]at hx;rw[<-hx,<-e2];exact hj
theorem a1Y:∀l:L8,decide (0<=Lib.indexAny l Ca.data.toList)=l.any λx=>x==13||x==10||x==0
 |[]=>rfl
 |b::l=>by
  have ih:=a1Y l;have hge:=Lib.indexAny_ge Ca.data.toList l;rw[List.any_cons,<-ih,Lib.indexAny];have hc:Ca.data.toList.contains b=(b==13||b==10||b==0):=by
   show List.contains [13,10,0] b=_;rw[B9z];simp[or_assoc]
  rw[hc]
  cases hb:(b==13||b==10||b==0)
  ·simp only[C6z,if_false,D8z];by_cases hm:Lib.indexAny l Ca.data.toList=-1
   ·rw[hm];rfl
   ·have h0:(Lib.indexAny l Ca.data.toList==-1)=false:=by simpa using hm
    rw[h0];simp only[C6z,if_false];rw[B9z,decide_eq_true_iff,decide_eq_true_iff];omega
  ·simp
theorem Tp(r:Nat)(w:World)(h1:128<=r)(h2:r<=2147483647)(hv:Utf8.valid (r:Int)=true):
  Calls prog 353 #[.string Ca,.int .i32 r] w λe w'=>e=.returned (.int .i64 (-1))/\Bw w w':=by
 by_cases h3:r=65533
 ·subst h3;exact Ur w
 ·exact Rx r w h1 h2 h3 hv
theorem Ve(x:UInt8)(w:World)(h:x.toNat<128):
  Calls prog 353 #[.string Ca,.int .i32 x.toNat] w λe w'=>e=.returned (.int .i64 (Lib.indexByte Ca.data.toList x))/\w'=w:=by
 have e:((x.toNat:Int)).toNat.toUInt8=x:=by simp
 have:=Tryz.strings_IndexRune_ascii Ca (x.toNat:Int) w (by omega) (by omega);rw[e]at this;exact this
def Tq(b:Nat)(s:By)(i:Nat)(w:World):World:={w with heap:=w.heap.setIfInBounds b (.stringIter s i)}
structure ItI(b:Nat)(s:By)(i:Nat)(w wx:World):Prop where
 blk:wx.heap[b]?=some (.stringIter s i)
 bl:Below b w wx
 lt:b<wx.heap.size
theorem b9X{P:Program}{w:World}{b:Nat}{s:By}{i:Nat}(h:w.heap[b]?=some (.stringIter s i))(ty:TypeId)(hi:i<s.size):
  (Instr.next (.pointer (some ⟨b,0,none⟩)) true ty).run P w=.ok (.tuple #[.bool true,.int .i64 i,.int .i32 (Utf8.decode s i).1]) (Tq b s (i+(Utf8.decode s i).2) w):=by
 simp only[Instr.next,getObj,setObj,Sem.run_bind,Sem.run,h,Result.andThen,hi,if_true,Tq];simp[goInt]
theorem b6G{P:Program}{w:World}{b:Nat}{s:By}{i:Nat}(h:w.heap[b]?=some (.stringIter s i))(ty:TypeId)(hi:¬i<s.size):
  (Instr.next (.pointer (some ⟨b,0,none⟩)) true ty).run P w=.ok (.tuple #[.bool false]) w:=by
 simp[Instr.next,getObj,Sem.run,h,hi]
theorem ItI.next{b:Nat}{s:By}{i:Nat}{w wx:World}(h:ItI b s i w wx)(j:Nat):ItI b s j w (Tq b s j wx):=by
 have hl:=h.lt;refine⟨by simp[Tq,hl],h.bl.trans ⟨rfl,rfl,rfl,by simp[Tq],λk hk=>?_⟩,by simpa[Tq]using hl⟩;simp only[Tq];rw[Array.getElem?_setIfInBounds_ne (by omega)]
theorem ItI.below{b:Nat}{s:By}{i:Nat}{w wx w3:World}(h:ItI b s i w wx)(hb:Bw wx w3):ItI b s i w w3:=by
 have hl:=h.lt;exact⟨by rw[hb.block b hl];exact h.blk,h.bl.trans (hb.mono (by omega)),Af hl hb.size⟩
theorem b9Y(s:By)(w:World):ItI w.heap.size s 0 w (w.iter s 0):=⟨World.iter_heap w s 0,bA w _,by simp[World.iter]⟩
theorem Yc(s:By)(w:World)(h8:s.size<=8):
  Calls prog 311 #[.string s,.string Ca] w λe w'=>e=.returned (.int .i64 (Lib.indexAny s.data.toList Ca.data.toList))/\Bw w w':=by
 have hsz:Ca.size=3:=rfl;have hemp:Ca.toList.isEmpty=false:=by rw[Lib.toList_data];rfl
 have h8z:decide ((8:Int)<(s.size:Int))=false:=Ao (by omega);have I0:=hid (b9Y s w);have N0:=hid (Lib.NoAny.zero s.data.toList Ca.data.toList);go_enter func311,ntmps311;go_wp2_with (go_at_call 354;refine(Tryz.strings_shouldUseASCIISet _ _).mono ?_;rintro e w' ⟨rfl,hw⟩;rw[hw,h8z])
 go_loopg [9,10] s.size (λg _ _ wx=>∃i:Nat,i+g=s.size/\ItI w.heap.size s i w wx/\Hid (Lib.NoAny s.data.toList Ca.data.toList i))
 case atStart=>exact⟨0,by omega,I0.out,N0⟩
 case round=>
  obtain⟨i,hig,II,HN⟩:=hrel;clear I0 N0;by_cases hi:i<s.size
  ·have hnx:=λty=>b9X (P:=prog) II.blk ty hi;by_cases hx:(s[i]'hi).toNat<128
   ·have hd:=decode_ascii s i hi hx;rw[hd]at hnx;have I2:=II.next (i+1);have hxl:s.data.toList[i]?=some (s[i]'hi):=Lib.data_getElem? s i hi;generalize s[i]'hi=x at *
    have Hx:=hid hxl;have HR:=hid (λW=>Ve x W hx);have hcon:=Lib.contains_iff_indexByte Ca.data.toList x;generalize Lib.indexByte Ca.data.toList x=K at *
    have lt2:=I2.lt;simp only at hnx;clear hxl hd
    cases hin:Ca.data.toList.contains x
    ·have HS:=hid (HN.out.succ Hx.out hin);rw[hin]at hcon;have hlt:¬((0:Int)<=K):=of_decide_eq_false hcon.symm;clear hcon;go_wp2_with (go_at_call 353;refine(HR.out _).mono ?_;rintro e w' ⟨rfl,rfl⟩)
     go_roundg (gk-1)
     case measure=>omega
     case rel=>exact⟨i+1,by omega,I2,HS⟩
    ·have HS:=hid (Lib.indexAny_hit HN.out Hx.out hin);rw[hin]at hcon;have hge:(0:Int)<=K:=of_decide_eq_true hcon.symm;clear hcon;go_wp2_with (go_at_call 353;refine(HR.out _).mono ?_;rintro e w' ⟨rfl,rfl⟩);go_ret;exact⟨Gf HS.out.symm,I2.bl⟩
   ·have hx2:128<=(s[i]'hi).toNat:=by omega
    obtain⟨d1,d2⟩:=decode_high s i hi hx2;have d3:=decode_le s i;have d4:=Xa s i hi hx2;have d5:=(Pz s i hi hx2).1;have HS:=hid (b6F s i hi hx2 HN.out);generalize (Utf8.decode s i).1=rr at *
    generalize (Utf8.decode s i).2=dd at *
    have I2:=II.next (i+dd);have HR:=hid (λW=>Tp rr W d1 d3 d4);have lt2:=I2.lt;clear d4 hx hx2;go_wp2_with (go_at_call 353;refine(HR.out _).mono ?_;rintro e w3 ⟨rfl,hb3⟩)
    go_roundg (gk-dd)
    case measure=>omega
    case rel=>exact⟨i+dd,by omega,I2.below hb3,HS⟩
  ·have hnx:=λty=>b6G (P:=prog) II.blk ty hi;have hie:i=s.data.toList.length:=by have:=Lib.size_eq s;omega
   have HS:=hid (Lib.indexAny_none (hie ▸ HN.out));clear hie;go_wp2_with fail;go_ret;exact⟨Gf HS.out.symm,II.bl⟩
theorem Yd(s:By)(w:World)(hs:s.size<4294967281):
  Calls prog 311 #[.string s,.string Ca] w λe w'=>e=.returned (.int .i64 (Lib.indexAny s.data.toList Ca.data.toList))/\Bw w w':=by
 by_cases h8:s.size<=8
 ·exact Yc s w h8
 ·have h116:(prog.info? (Tryz.lays153_ren.t 116)).map (λi=>(i.zero,i.size))=some (some (.agg (Array.replicate 256 (.bool false))),256):=by kernel_rfl
  refine(Any.strings_IndexAny_long Tryz.lays153 (zero_of_info h116).1 (zero_of_info h116).2 s Ca w (by decide) (by omega) hs (by decide) ?_).mono λe w' ⟨h1,h2⟩=>⟨h1,?_⟩
  ·intro j b hb;have hm:b∈Ca.data.toList:=List.mem_of_getElem? hb;have hall:∀x∈Ca.data.toList,x.toNat<128:=by decide
   exact hall b hm
  ·rw[h2];exact(bA _ _).alloc (by simp) _
theorem Rg(s:By)(w:World)(hs:s.size<4294967281):
  Calls prog 258 #[.string s,.string Ca] w λe w'=>e=.returned (.bool (s.data.toList.any λx=>x==13||x==10||x==0))/\Bw w w':=by
 have HI:=hid (Yd s w hs);rw[<-a1Y];generalize Lib.indexAny s.data.toList Ca.data.toList=K at *
 go_enter func258,ntmps258;go_wp2_with (go_at_call 311;refine HI.out.mono ?_;rintro e w1 ⟨rfl,hb1⟩);go_ret;exact⟨rfl,hb1⟩
theorem Pl(g h:Nat)(st er:Int)(vv:Value)(b:By)(cl:Bool)(u:TypeId)(pv:Value)(older:List PanicEntry)(w:World)(hg:AnB g st vv b cl w)(he:w.heap[h]?=some (.cells #[.int .i64 er] 86 (0,0)))(hn:h≠g):
  CallsD prog 211 #[.pointer (some ⟨g,0,none⟩),.pointer (some ⟨h,0,none⟩)] (.panicking ({v:=.iface u pv,recovered:=false}::older)) w λe u' w'=>
   e=.returned (.tuple #[])/\u'=.panicking ({v:=.iface u pv,recovered:=true}::older)/\w'=(setA g 500 (.slice none 0 0) ⟨#[]⟩ true w).setCell ⟨h,0,none⟩ (.int .i64 0):=by
 obtain⟨c0,c1,c2,c3⟩:=hg.cells;have f0:=hg.free 0;have f1:=hg.free 1;have f2:=hg.free 2;have f3:=hg.free 3;have e0:w.cell? ⟨h,0,none⟩=some (.int .i64 er):=(Ab he 0).trans rfl;have e1:=(Bh (st:=500) (vv:=.slice none 0 0) (bb:=⟨#[]⟩) (cl:=true) hn).trans e0;have lg:=hg.lt;have lh:=Ap e0;have hk:(setA g 500 (.slice none 0 0) ⟨#[]⟩ true w).heap[h]?=w.heap[h]?:=by
  unfold setA;rw[heap_setCell_other _ ⟨g,3,none⟩ h _ hn,heap_setCell_other _ ⟨g,2,none⟩ h _ hn,heap_setCell_other _ ⟨g,1,none⟩ h _ hn,heap_setCell_other _ ⟨g,0,none⟩ h _ hn]
 have e2:=Ai (hk.trans he) 0;have hs:setA g 500 (.slice none 0 0) ⟨#[]⟩ true w=(((w.setCell ⟨g,0,none⟩ (.int .i64 500)).setCell ⟨g,1,none⟩ (.slice none 0 0)).setCell ⟨g,2,none⟩ (.string ⟨#[]⟩)).setCell ⟨g,3,none⟩ (.bool true):=rfl;rw[hs]at e1 e2 ⊢;refine callsD_of_wpS func211 rfl λc₀ cs hu=>?_;apply wpS_seq;apply wpS_region;simp[wpOpsS,go_sem,recoverD,hu,ntmps211,Exit.thenS];refine wpS_cond (t:=true) (by simp[Act.eval,Array.replicate]) ?_;simp only[if_true];refine wpS_of_wp ?_;simp[Array.replicate];clear hs hk he hg;go_wp2;simp[bodyPostS,results,results211]
theorem Lh(p q:Addr)(w:World):
  CallsD prog 211 #[.pointer (some p),.pointer (some q)] .returning w λe u' w'=>e=.returned (.tuple #[])/\u'=.returning/\w'=w:=by
 refine callsD_of_wpS func211 rfl λc₀ cs hu=>?_;apply wpS_seq;apply wpS_region;simp[wpOpsS,go_sem,recoverD,hu,ntmps211,Exit.thenS];refine wpS_cond (t:=false) (by simp[Act.eval,Array.replicate]) ?_;simp only[C6z,if_false];refine wpS_of_wp (wp_skip ?_)
 cases c₀
 simp_all [bodyPostS,results,results211]
theorem b1P(l:List Prm)(a:Oa)(c:Nat)(p:Prm->Bool)(w:World)(h:Df l a w)(hl:l.length<=50000000)(HP:∀W i (hi:i<l.length),Bw w W->Calls prog 214 #[.agg #[.string l[i].1,.string l[i].2]] W λe w'=>e=.returned (.bool (p l[i]))/\Bw W w'):
  Calls prog 257 #[.slice a l.length c,.func (.func 214) #[] #[]] w λe w'=>(∃k:Int,e=.returned (.int .i64 k)/\decide (0<=k)=l.any p/\-1<=k/\k<=50000000)/\Bw w w':=by
 have HS:=hid h;have HPP:=hid HP;have HD:=hid (show(l.drop 0).any p=l.any p by rw[D6z]);clear h HP;go_enter func257,ntmps257;go_wp2_with fail
 go_loopw [8] (λi wr=>∃k:Nat,k<=l.length/\i=.int .i64 k/\Hid ((l.drop k).any p=l.any p)/\Bw w wr) (λi _=>l.length-(intOf i).toNat)
 case atStart=>exact⟨0,Ah _,rfl,HD,Ad _ _⟩
 case round=>
  obtain⟨k,hk,rfl,HK,hbw⟩:=hrel;by_cases hlt:k<l.length
  ·obtain⟨g,rfl,hg,hc1,hc2⟩:=(HS.out.below hbw) k hlt;have HC:=hid (HPP.out wr k hlt hbw);have hs:=HK.out;rw[<-Ax hlt,List.any_cons]at hs;have HN:=hid hs;generalize l[k]=x at *
   obtain⟨xn,xv⟩:=x;simp only at hc1 hc2 HC HN;clear hs HK
   cases hp:p (xn,xv)
   ·have e:=HN.out;rw[hp,D8z]at e;have HE:=hid e;rw[hp]at HC;clear e HN;go_wp2_with (go_at_call 214;refine HC.out.mono ?_;rintro e w1 ⟨rfl,hb1⟩);exact⟨⟨k+1,by omega,by go_num,HE,Bc hbw hb1⟩,by simp[intOf];omega⟩
   ·have e:=HN.out;rw[hp,D5z]at e;have HE:=hid e;rw[hp]at HC;clear e HN;go_wp2_with (go_at_call 214;refine HC.out.mono ?_;rintro e w1 ⟨rfl,hb1⟩);go_ret;exact⟨⟨k,rfl,by rw[<-HE.out];simp,by omega,by omega⟩,Bc hbw hb1⟩
  ·have e:=HK.out;rw[List.drop_of_length_le (by omega),List.any_nil]at e;have HE:=hid e;clear e HK;have hne:¬(k:Int)<(l.length:Int):=by omega
   go_wp2_with fail;go_ret;exact⟨⟨-1,rfl,by rw[<-HE.out];simp,by omega,by omega⟩,hbw⟩
theorem Ye(l:List Prm)(a:Oa)(c:Nat)(p:Prm->Bool)(w:World)(h:Df l a w)(hl:l.length<=50000000)(HP:∀W i (hi:i<l.length),Bw w W->Calls prog 214 #[.agg #[.string l[i].1,.string l[i].2]] W λe w'=>e=.returned (.bool (p l[i]))/\Bw W w'):
  Calls prog 213 #[.slice a l.length c,.func (.func 214) #[] #[]] w λe w'=>e=.returned (.bool (l.any p))/\Bw w w':=by
 have HI:=hid (b1P l a c p w h hl HP);generalize l.any p=B at *
 clear h HP;go_enter func213,ntmps213;go_wp2_with (go_at_call 257;refine HI.out.mono ?_;rintro e w1 ⟨⟨k,rfl,hk,h1,h2⟩,hb1⟩);go_ret;refine⟨?_,hb1⟩
 first
  |(subst hk;rfl)
  |(subst hk;congr 2;simp)
structure RyI(B:Nat)(q:Array Value)(st:Int)(vv:Value)(b:By)(cl:Bool)(er:Int)(wr:World):Prop where
 q:wr.heap[B]?=some (.cells q 47 (0,0))
 a:AnB (B+1) st vv b cl wr
 e:wr.heap[B+1+1]?=some (.cells #[.int .i64 er] 86 (0,0))
theorem RyI.lt{B:Nat}{q:Array Value}{st:Int}{vv:Value}{b:By}{cl:Bool}{er:Int}{w:World}(h:RyI B q st vv b cl er w):B+1+1<w.heap.size:=by
 have:=h.e;rcases B8z (B+1+1) w.heap.size with h'|h'
 ·exact h'
 ·simp[Array.getElem?_eq_none h']at this
theorem RyI.below{B:Nat}{q:Array Value}{st:Int}{vv:Value}{b:By}{cl:Bool}{er:Int}{w w':World}(h:RyI B q st vv b cl er w)(hb:Bw w w'):RyI B q st vv b cl er w':=by
 have hl:=h.lt;exact⟨by rw[hb.block B (by omega)];exact h.q,h.a.below hb,by rw[hb.block _ hl];exact h.e⟩
theorem Em{g b:Nat}{st:Int}{vv:Value}{bb:By}{cl:Bool}{w:World}(h:b≠g):(setA g st vv bb cl w).heap[b]?=w.heap[b]?:=by
 unfold setA;rw[heap_setCell_other _ ⟨g,3,none⟩ b _ h,heap_setCell_other _ ⟨g,2,none⟩ b _ h,heap_setCell_other _ ⟨g,1,none⟩ b _ h,heap_setCell_other _ ⟨g,0,none⟩ b _ h]
theorem RyI.setA{B:Nat}{q:Array Value}{st:Int}{vv:Value}{b:By}{cl:Bool}{er:Int}{w:World}(h:RyI B q st vv b cl er w)(st':Int)(vv':Value)(b':By)(cl':Bool):RyI B q st' vv' b' cl' er (setA (B+1) st' vv' b' cl' w):=
 ⟨by rw[Em (by omega)];exact h.q,h.a.set _ _ _ _,by rw[Em (by omega)];exact h.e⟩
theorem RyI.setE{B:Nat}{q:Array Value}{st:Int}{vv:Value}{b:By}{cl:Bool}{er:Int}{w:World}(h:RyI B q st vv b cl er w)(er':Int):RyI B q st vv b cl er' (w.setCell ⟨B+1+1,0,none⟩ (.int .i64 er')):=by
 refine⟨by rw[heap_setCell_other _ _ _ _ (show B≠B+1+1 by omega)];exact h.q,?_,?_⟩
 ·unfold AnB;rw[heap_setCell_other _ _ _ _ (show B+1≠B+1+1 by omega)];exact h.a
 ·rw[heap_setCell_same _ (B+1+1) 0 _ _ _ h.e];rfl
theorem RyI.ecell{B:Nat}{q:Array Value}{st:Int}{vv:Value}{b:By}{cl:Bool}{er:Int}{w:World}(h:RyI B q st vv b cl er w):w.cell? ⟨B+1+1,0,none⟩=some (.int .i64 er)/\w.frozen? ⟨B+1+1,0,none⟩=false:=⟨(Ab h.e 0).trans rfl,Ai h.e 0⟩
theorem RyI.qcells{B:Nat}{a0 a1 a2 a3:Value}{st:Int}{vv:Value}{b:By}{cl:Bool}{er:Int}{w:World}(h:RyI B #[a0,a1,a2,a3] st vv b cl er w):w.cell? ⟨B,0,none⟩=some a0/\w.cell? ⟨B,1,none⟩=some a1/\w.cell? ⟨B,2,none⟩=some a2/\w.cell? ⟨B,3,none⟩=some a3:=by
 refine⟨?_,?_,?_,?_⟩<;>(rw[Ab h.q];rfl)
theorem b9Z(a0 a1 a2 a3:Value)(w:World):RyI w.heap.size #[a0,a1,a2,a3] 0 (.slice none 0 0) ⟨#[]⟩ false 0 (((w.alloc (.cells #[a0,a1,a2,a3] 47)).alloc (.cells #[.int .i64 0,.slice none 0 0,.string ⟨#[]⟩,.bool false] 49)).alloc (.cells #[.int .i64 0] 86))/\Bw w (((w.alloc (.cells #[a0,a1,a2,a3] 47)).alloc (.cells #[.int .i64 0,.slice none 0 0,.string ⟨#[]⟩,.bool false] 49)).alloc (.cells #[.int .i64 0] 86)):=by
 have h1:=bA w (.cells #[a0,a1,a2,a3] 47);have q0:=Ag w (.cells #[a0,a1,a2,a3] 47);have z1:(w.alloc (.cells #[a0,a1,a2,a3] 47)).heap.size=w.heap.size+1:=by simp
 generalize w.alloc (.cells #[a0,a1,a2,a3] 47)=W1 at *
 have h2:=h1.alloc h1.size (.cells #[.int .i64 0,.slice none 0 0,.string ⟨#[]⟩,.bool false] 49);have k2:=bA W1 (.cells #[.int .i64 0,.slice none 0 0,.string ⟨#[]⟩,.bool false] 49);have q1:=Ag W1 (.cells #[.int .i64 0,.slice none 0 0,.string ⟨#[]⟩,.bool false] 49);have z2:(W1.alloc (.cells #[.int .i64 0,.slice none 0 0,.string ⟨#[]⟩,.bool false] 49)).heap.size=W1.heap.size+1:=by simp
 have q0b:=(k2.block w.heap.size (by omega)).trans q0;generalize W1.alloc (.cells #[.int .i64 0,.slice none 0 0,.string ⟨#[]⟩,.bool false] 49)=W2 at *
 have h3:=h2.alloc h2.size (.cells #[.int .i64 0] 86);have k3:=bA W2 (.cells #[.int .i64 0] 86);have q2:=Ag W2 (.cells #[.int .i64 0] 86);rw[z1]at q1 z2;rw[z2]at q2;refine⟨⟨(k3.block w.heap.size (by omega)).trans q0b,(k3.block (w.heap.size+1) (by omega)).trans q1,q2⟩,h3⟩
theorem RyI.setC{B:Nat}{q:Array Value}{st:Int}{vv:Value}{b:By}{cl:Bool}{er:Int}{w:World}(h:RyI B q st vv b cl er w)(cl':Bool):RyI B q st vv b cl' er (w.setCell ⟨B+1,3,none⟩ (.bool cl')):=by
 refine⟨by rw[heap_setCell_other _ _ _ _ (show B≠B+1 by omega)];exact h.q,?_,by rw[heap_setCell_other _ _ _ _ (show B+1+1≠B+1 by omega)];exact h.e⟩;have:=h.a;unfold AnB at *
 rw[heap_setCell_same _ (B+1) 3 _ _ _ this];rfl
theorem RyI.low{B C:Nat}{q:Array Value}{st:Int}{vv:Value}{b:By}{cl:Bool}{er:Int}{w w':World}(h:RyI B q st vv b cl er w)(hb:Below C w w')(hC:B+1+1<C):RyI B q st vv b cl er w':=by
 refine⟨by rw[hb.block B (by omega)];exact h.q,?_,by rw[hb.block _ hC];exact h.e⟩;unfold AnB;rw[hb.block _ (by omega)];exact h.a
theorem Nb{w:World}{B:Nat}{T:TypeId}{a:Oa}{c:Nat}{l:List Prm}(h:w.ownsRow B T 2 (.slice a l.length c) l.length (Bg l)):Df l a w:=λi hi=>by
 have hne:l≠[]:=λe=>by rw[e]at hi;simp at hi
 obtain⟨g,cap,cs,e,hB,hlt,hg,hc⟩:=Xu h hne;simp only[Value.slice.injEq]at e;obtain⟨p1,p2⟩:=Rq l i hi;refine⟨g,e.1,hlt,?_,?_⟩
 ·rw[Ab hg];exact hc _ _ p1
 ·rw[Ab hg];exact hc _ _ p2
theorem a9C{l:List Prm}(h:l.any (λp=>Hk p.2)=true)(a:An)(hl:a.fs=l)(sh:Bool):Gp sh (some a)=⟨500,[],⟨#[]⟩,sh,0⟩:=by
 subst hl;exact if_pos h
theorem Ts{l:List Prm}(h:l.any (λp=>Hk p.2)=false)(a:An)(hl:a.fs=l)(sh:Bool):Gp sh (some a)=⟨a.st,a.fs,a.b,sh,0⟩:=by
 subst hl;exact if_neg (by rw[h];simp)
theorem Yf(gs:Nat)(qm qt qb:By)(fa:Oa)(fn fc:Nat)(R:DsR)(G:Option An)(sh:Bool)(w:World)
  (hG:∀a,G=some a->a.fs.length<=50000000/\a.b.size<=281474976710656/\∀i (h:i<a.fs.length),a.fs[i].1.size<=281474976710656/\a.fs[i].2.size<=4000000000)
  (HD:∀W,Bw w W->Calls prog 145 #[.pointer (some ⟨gs,0,none⟩),.string qm,.string qt] W (Xn R W))
  (HA:∀W pa pc ua ul,Bw w W->ua.data.toList=R.al->ul.data.toList=R.lo->W.ownsRow w.heap.size 129 2 (.slice pa R.ps.length pc) R.ps.length (Bg R.ps)->R.e=0->Calls prog 212 #[.pointer (some ⟨gs,0,none⟩),.agg #[.string qm,.string qt,.slice fa fn fc,.string qb],.agg #[.int .i64 R.st,.int .i64 R.ro,.slice pa R.ps.length pc,.string ua,.string ul]] W (Cz G W))
  (HE:∀(n v:By) W,v.size<=4000000000->Calls prog 214 #[.agg #[.string n,.string v]] W λe w'=>e=.returned (.bool (Hk v))/\Bw W w')
  (HS:∀W,Bw w W->Calls prog 215 #[.agg #[.string qm,.string qt,.slice fa fn fc,.string qb]] W λe w'=>e=.returned (.bool sh)/\Bw W w') :
  Calls prog 148 #[.pointer (some ⟨gs,0,none⟩),.agg #[.string qm,.string qt,.slice fa fn fc,.string qb]] w (b5Z (if R.e=0 then Gp sh G else⟨0,[],⟨#[]⟩,false,R.e⟩) w):=by
 have hmf:∀(fn:Fn) (first cap:Array Value) (w:World),(Instr.makeFunc fn first cap).run prog w=.ok (.func fn first cap) w:=λ_ _ _ _=>rfl;obtain⟨I0,hA⟩:=b9Z (.string qm) (.string qt) (.slice fa fn fc) (.string qb) w;have HDD:=hid HD;have HAA:=hid HA;have HEE:=hid HE;have HSS:=hid HS;have HGG:=hid hG;generalize hRES:(if R.e=0 then Gp sh G else⟨0,[],⟨#[]⟩,false,R.e⟩)=RES;have HRES:=hid hRES;clear HD HA HE HS hG hRES;obtain⟨q0,q1,q2,q3⟩:=I0.qcells;have l0:=I0.lt
 go_enter_defers func148,ntmps148
 go_wp2_with fail;generalize ((w.alloc (.cells #[.string qm,.string qt,.slice fa fn fc,.string qb] 47)).alloc (.cells #[.int .i64 0,.slice none 0 0,.string ⟨#[]⟩,.bool false] 49)).alloc (.cells #[.int .i64 0] 86)=w1 at *
 clear q0 q1 q2 q3;refine(HDD.out _ hA).mono ?_;rintro x w2 ⟨⟨vv,ua,ul,rfl,hua,hul,ow⟩,hb2⟩;have I2:=I0.below hb2;have hB2:=Bc hA hb2;have l2:=I2.lt;have HO2:=hid (Bt ow hA.size);obtain⟨pa,pc,rfl⟩:=Ce ow;have zs:(w2.setCell ⟨w.heap.size+1+1,0,none⟩ (.int .i64 R.e)).heap.size=w2.heap.size:=by simp[World.setCell]
 have hb3:=(Ad w2.heap.size (w2.setCell ⟨w.heap.size+1+1,0,none⟩ (.int .i64 R.e))).alloc (Nat.le_of_eq zs.symm) (.cells #[.int .i64 R.st,.int .i64 R.ro,.slice pa R.ps.length pc,.string ua,.string ul] 158);have F3:=Ag (w2.setCell ⟨w.heap.size+1+1,0,none⟩ (.int .i64 R.e)) (.cells #[.int .i64 R.st,.int .i64 R.ro,.slice pa R.ps.length pc,.string ua,.string ul] 158);rw[zs]at F3;have I3:=(I2.setE R.e).below (hb3.mono (Nat.le_of_eq zs));obtain⟨e0,e1⟩:=I2.ecell;have HI5:=hid I3;have HF5:Hid (FnB w2.heap.size R.st R.ro (.slice pa R.ps.length pc) ua ul _):=F3;have HB5:=hid ((hB2.setCell (p:=⟨w.heap.size+1+1,0,none⟩) (show w.heap.size<=w.heap.size+1+1 by omega) (.int .i64 R.e)).trans (hb3.mono hB2.size));obtain⟨e5,e6⟩:=I3.ecell;have HO3:=hid (Be (Bv HO2.out (λe=>by have:=Bx ow _ e;omega) 0 (.int .i64 R.e)) (hb3.mono (Nat.le_of_eq zs)));clear I0 I2 I3 F3 ow HDD HO2 zs hb3;go_upto_region 3 with fail;generalize (w2.setCell ⟨w.heap.size+1+1,0,none⟩ (.int .i64 R.e)).alloc (.cells #[.int .i64 R.st,.int .i64 R.ro,.slice pa R.ps.length pc,.string ua,.string ul] 158)=w3 at *
 have I3:=HI5.out;have F3:=HF5.out;have hB3:=HB5.out;clear HI5 HF5 HB5 e0 e1;by_cases q:R.e=0
 ·have hq:(R.e != 0)=false:=by rw[q];rfl
  have HR:=HRES.out;rw[if_pos q]at HR;subst HR;have HAN:=hid (HAA.out w3 pa pc ua ul hB3 hua hul HO3.out q);obtain⟨q0,q1,q2,q3⟩:=I3.qcells;obtain⟨g0,g1,g2,g3,g4⟩:=F3.cells;have lf:=F3.lt;have le:=I3.lt;have HI3:=hid I3;clear HRES HAA HO3 I3 F3;go_wp2_with fail;refine HAN.out.mono ?_
  cases G with
  |none=>
   rintro x w4 ⟨rfl,hb4⟩;have I4:=HI3.out.below hb4;have hB4:=Bc hB3 hb4;have J:=(I4.setA 500 (.slice none 0 0) ⟨#[]⟩ true).setE 0;obtain⟨d0,d1,d2,d3⟩:=J.a.cells;obtain⟨d4,-⟩:=J.ecell;refine leaves_cons (f:=211) (args:=#[.pointer (some ⟨w.heap.size+1,0,none⟩),.pointer (some ⟨w.heap.size+1+1,0,none⟩)]) (by simp) (by simp[go_sem]) ?_;refine(Pl (w.heap.size+1) (w.heap.size+1+1) _ _ _ _ _ _ _ [] w4 I4.a I4.e (by omega)).mono ?_;rintro e u' w'' ⟨rfl,rfl,rfl⟩;simp[Leaves,settle,results,results148,go_sem,d0,d1,d2,d3,d4];exact⟨⟨_,rfl,Am _ _ _ _⟩,(Bm hB4 (Al _)).setCell (show w.heap.size<=w.heap.size+1+1 by omega) _⟩
  |some a=>
   rintro x w4 ⟨⟨vv,rfl,ow⟩,hb4⟩;have I4:=HI3.out.below hb4;have hB4:=Bc hB3 hb4;have l4:=HI3.out.lt;have hno:vv.ownBlock≠some (w.heap.size+1):=λe=>by have:=Bx ow _ e;omega
   have hno2:vv.ownBlock≠some (w.heap.size+1+1):=λe=>by have:=Bx ow _ e;omega
   have HO4:=hid (Cg (st:=a.st) (vv:=vv) (b:=a.b) (cl:=false) (Bt ow (show w.heap.size+1+1+1<=w3.heap.size from l4)) hno);have I5:=I4.setA a.st vv a.b false;have hB5:=Bm (st:=a.st) (vv:=vv) (b:=a.b) (cl:=false) hB4 (show w.heap.size<=w.heap.size+1 by omega);obtain⟨ax,cx,rfl⟩:=Ce ow;obtain⟨c0,c1,c2,c3⟩:=I4.a.cells;have f0:=I4.a.free 0;have f1:=I4.a.free 1;have f2:=I4.a.free 2;have f3:=I4.a.free 3;have la:=I4.a.lt;obtain⟨gl,gb,gz⟩:=HGG.out a rfl;have HZZ:=hid gz;have HCF:=hid (Ye a.fs ax cx (λp=>Hk p.2) _ (Nb HO4.out) gl (λW i hi _=>HEE.out _ _ W (gz i hi).2));have hFIN1:a.fs.any (λp=>Hk p.2)=true->Gp sh (some a)=⟨500,[],⟨#[]⟩,sh,0⟩:=λh=>a9C h a rfl sh;have hFIN2:a.fs.any (λp=>Hk p.2)=false->Gp sh (some a)=⟨a.st,a.fs,a.b,sh,0⟩:=λh=>Ts h a rfl sh;have HF1:=hid hFIN1;have HF2:=hid hFIN2;generalize Gp sh (some a)=FIN at *
   generalize a.fs.any (λp=>Hk p.2)=EB at *
   obtain⟨x0,x1,x2,x3⟩:=I5.a.cells;have HI5:=hid I5;have HB5:=hid hB5;unfold setA at x0 x1 x2 x3 HCF HI5 HB5 HO4;clear I5 hB5 I4 HI3 HAN ow gz hFIN1 hFIN2 HGG HEE;go_wp2_with fail;generalize (((w4.setCell ⟨w.heap.size+1,0,none⟩ (.int .i64 a.st)).setCell ⟨w.heap.size+1,1,none⟩ (.slice ax a.fs.length cx)).setCell ⟨w.heap.size+1,2,none⟩ (.string a.b)).setCell ⟨w.heap.size+1,3,none⟩ (.bool false)=w5 at *
   clear x0 x1 x2 x3 c0 c1 c2 c3 f0 f1 f2 f3 la;refine HCF.out.mono ?_;rintro x w6 ⟨rfl,hb6⟩;have I6:=HI5.out.below hb6;have hB6:=Bc HB5.out hb6;have HO6:=hid (Be HO4.out hb6);have l6:=I6.lt;clear HCF HI5 HB5 HO4
   cases EB with
   |true=>
    have HE0:=HF1.out rfl;subst HE0;have I7:=I6.setA 500 (.slice none 0 0) ⟨#[]⟩ false;have hB7:=Bm (st:=500) (vv:=.slice none 0 0) (b:=⟨#[]⟩) (cl:=false) hB6 (show w.heap.size<=w.heap.size+1 by omega);obtain⟨c0,c1,c2,c3⟩:=I6.a.cells;have f0:=I6.a.free 0;have f1:=I6.a.free 1;have f2:=I6.a.free 2;have f3:=I6.a.free 3;have la:=I6.a.lt;obtain⟨q0,q1,q2,q3⟩:=I7.qcells;have HI7:=hid I7;have HB7:=hid hB7;have HS7:=hid (HSS.out _ hB7);unfold setA at q0 q1 q2 q3 HI7 HB7 HS7;clear I7 hB7 HSS HF1 HF2 I6;have HO7:Hid (World.ownsRow _ (w.heap.size+1+1+1) 131 2 (.slice none 0 0) 0 (Bg [])):=hid (Am ((((w6.setCell ⟨w.heap.size+1,0,none⟩ (.int .i64 500)).setCell ⟨w.heap.size+1,1,none⟩ (.slice none 0 0)).setCell ⟨w.heap.size+1,2,none⟩ (.string ⟨#[]⟩)).setCell ⟨w.heap.size+1,3,none⟩ (.bool false)) _ _ _);go_wp2_with fail;generalize (((w6.setCell ⟨w.heap.size+1,0,none⟩ (.int .i64 500)).setCell ⟨w.heap.size+1,1,none⟩ (.slice none 0 0)).setCell ⟨w.heap.size+1,2,none⟩ (.string ⟨#[]⟩)).setCell ⟨w.heap.size+1,3,none⟩ (.bool false)=w7 at *
    refine HS7.out.mono ?_;rintro x w8 ⟨rfl,hb8⟩;have I8:=HI7.out.below hb8;have hB8:=Bc HB7.out hb8;have HO8:=Bv (Be HO7.out hb8) (show(Value.slice none 0 0).ownBlock≠some (w.heap.size+1)from(by simp[Value.ownBlock])) 3 (.bool sh);obtain⟨v0,v1,v2,v3⟩:=I8.a.cells;have t3:=I8.a.free 3;have l8:=I8.a.lt;have I9:=I8.setC sh;have hB9:=hB8.setCell (p:=⟨w.heap.size+1,3,none⟩) (Al _) (.bool sh);have l9:=I9.lt;have HOW:=hid (a1S 500 [] (Value.slice none 0 0) ⟨#[]⟩ sh (w.heap.size+1+1+1) _ HO8 l9 (by simp) (λi h=>absurd h (by simp)) (by decide));obtain⟨y0,y1,y2,y3⟩:=I9.a.cells;have HI9:=hid I9;have HB9:=hid hB9;clear HI7 HB7 HS7 HO7 HO8 I8 I9 hB8 hB9 q0 q1 q2 q3;go_wp2_with fail;generalize w8.setCell ⟨w.heap.size+1,3,none⟩ (.bool sh)=w9 at *
    refine HOW.out.mono ?_;rintro x w10 ⟨rfl,ho10,hb10⟩;have IA:=HI9.out.low hb10 (E1z _);have hBA:=HB9.out.trans (hb10.mono (show w.heap.size<=w.heap.size+1+1+1 by omega));have IZ:=(IA.setA 500 (Value.slice none 0 0) ⟨#[]⟩ sh).setE 0;have HOZ:=hid (Bv (g:=w.heap.size+1+1) (Cg (g:=w.heap.size+1) (st:=500) (vv:=(Value.slice none 0 0)) (b:=⟨#[]⟩) (cl:=sh) ho10 (by simp[Value.ownBlock])) (by simp[Value.ownBlock]) 0 (.int .i64 0));have HBZ:=hid ((Bm (st:=500) (vv:=(Value.slice none 0 0)) (b:=⟨#[]⟩) (cl:=sh) hBA (Al _)).setCell (p:=⟨w.heap.size+1+1,0,none⟩) (show w.heap.size<=w.heap.size+1+1 by omega) (.int .i64 0));obtain⟨m0,m1,m2,m3⟩:=IA.a.cells;have n0:=IA.a.free 0;have n1:=IA.a.free 1;have n2:=IA.a.free 2;have n3:=IA.a.free 3;have lA:=IA.a.lt;obtain⟨o0,o1⟩:=(IA.setA 500 (Value.slice none 0 0) ⟨#[]⟩ sh).ecell;have lE:=IA.lt;obtain⟨d0,d1,d2,d3⟩:=IZ.a.cells;obtain⟨d4,-⟩:=IZ.ecell;unfold setA at d0 d1 d2 d3 d4 o0 o1 HOZ HBZ;clear HI9 HB9 HOW IZ IA y0 y1 y2 y3 ho10;go_wp2_with fail;refine leaves_cons (f:=211) (args:=#[.pointer (some ⟨w.heap.size+1,0,none⟩),.pointer (some ⟨w.heap.size+1+1,0,none⟩)]) (by simp) (by simp[go_sem]) ?_;refine(Lh ⟨w.heap.size+1,0,none⟩ ⟨w.heap.size+1+1,0,none⟩ _).mono ?_;rintro e u' w'' ⟨rfl,rfl,rfl⟩;simp[Leaves,settle,results,results148,go_sem,d0,d1,d2,d3,d4];exact⟨⟨_,rfl,Bt HOZ.out (show w.heap.size<=w.heap.size+1+1+1 by omega)⟩,HBZ.out⟩
   |false=>
    have HE0:=HF2.out rfl;subst HE0;obtain⟨q0,q1,q2,q3⟩:=I6.qcells;have HI7:=hid I6;have HB7:=hid hB6;have HO7:=HO6;have HS7:=hid (HSS.out _ hB6);clear HSS HF1 HF2 I6 HO6;go_wp2_with fail;refine HS7.out.mono ?_;rintro x w8 ⟨rfl,hb8⟩;have I8:=HI7.out.below hb8;have hB8:=Bc HB7.out hb8;have HO8:=Bv (Be HO7.out hb8) (show(Value.slice ax a.fs.length cx).ownBlock≠some (w.heap.size+1)from hno) 3 (.bool sh);obtain⟨v0,v1,v2,v3⟩:=I8.a.cells;have t3:=I8.a.free 3;have l8:=I8.a.lt;have I9:=I8.setC sh;have hB9:=hB8.setCell (p:=⟨w.heap.size+1,3,none⟩) (Al _) (.bool sh);have l9:=I9.lt;have HOW:=hid (a1S a.st a.fs (Value.slice ax a.fs.length cx) a.b sh (w.heap.size+1+1+1) _ HO8 l9 (by omega) (λi h=>⟨(HZZ.out i h).1,by have:=(HZZ.out i h).2;omega⟩) gb);obtain⟨y0,y1,y2,y3⟩:=I9.a.cells;have HI9:=hid I9;have HB9:=hid hB9;clear HI7 HB7 HS7 HO7 HO8 I8 I9 hB8 hB9 q0 q1 q2 q3;go_wp2_with fail;generalize w8.setCell ⟨w.heap.size+1,3,none⟩ (.bool sh)=w9 at *
    refine HOW.out.mono ?_;rintro x w10 ⟨rfl,ho10,hb10⟩;have IA:=HI9.out.low hb10 (E1z _);have hBA:=HB9.out.trans (hb10.mono (show w.heap.size<=w.heap.size+1+1+1 by omega));have IZ:=(IA.setA a.st (Value.slice ax a.fs.length cx) a.b sh).setE 0;have HOZ:=hid (Bv (g:=w.heap.size+1+1) (Cg (g:=w.heap.size+1) (st:=a.st) (vv:=(Value.slice ax a.fs.length cx)) (b:=a.b) (cl:=sh) ho10 hno) hno2 0 (.int .i64 0));have HBZ:=hid ((Bm (st:=a.st) (vv:=(Value.slice ax a.fs.length cx)) (b:=a.b) (cl:=sh) hBA (Al _)).setCell (p:=⟨w.heap.size+1+1,0,none⟩) (show w.heap.size<=w.heap.size+1+1 by omega) (.int .i64 0));obtain⟨m0,m1,m2,m3⟩:=IA.a.cells;have n0:=IA.a.free 0;have n1:=IA.a.free 1;have n2:=IA.a.free 2;have n3:=IA.a.free 3;have lA:=IA.a.lt;obtain⟨o0,o1⟩:=(IA.setA a.st (Value.slice ax a.fs.length cx) a.b sh).ecell;have lE:=IA.lt;obtain⟨d0,d1,d2,d3⟩:=IZ.a.cells;obtain⟨d4,-⟩:=IZ.ecell;unfold setA at d0 d1 d2 d3 d4 o0 o1 HOZ HBZ;clear HI9 HB9 HOW IZ IA y0 y1 y2 y3 ho10;go_wp2_with fail;refine leaves_cons (f:=211) (args:=#[.pointer (some ⟨w.heap.size+1,0,none⟩),.pointer (some ⟨w.heap.size+1+1,0,none⟩)]) (by simp) (by simp[go_sem]) ?_;refine(Lh ⟨w.heap.size+1,0,none⟩ ⟨w.heap.size+1+1,0,none⟩ _).mono ?_;rintro e u' w'' ⟨rfl,rfl,rfl⟩;simp[Leaves,settle,results,results148,go_sem,d0,d1,d2,d3,d4];exact⟨⟨_,rfl,Bt HOZ.out (show w.heap.size<=w.heap.size+1+1+1 by omega)⟩,HBZ.out⟩
 ·have hq:(R.e != 0)=true:=by simpa using q
  have HR:=HRES.out;rw[if_neg q]at HR;subst HR;obtain⟨c0,c1,c2,c3⟩:=I3.a.cells;have f0:=I3.a.free 0;have f1:=I3.a.free 1;have f2:=I3.a.free 2;have f3:=I3.a.free 3;have la:=I3.a.lt;have le:=I3.lt;have J:=I3.setA 0 (.slice none 0 0) ⟨#[]⟩ false;have eJ:=J.ecell;have HJ:=hid (J.setE R.e);have HBJ:=hid ((Bm (st:=0) (vv:=.slice none 0 0) (b:=⟨#[]⟩) (cl:=false) hB3 (show w.heap.size<=w.heap.size+1 by omega)).setCell (p:=⟨w.heap.size+1+1,0,none⟩) (show w.heap.size<=w.heap.size+1+1 by omega) (.int .i64 R.e));obtain⟨j0,j1⟩:=eJ;unfold setA at j0 j1;clear HRES HAA HEE HSS HGG J;go_wp2_with fail
  go_region
  have K:=HJ.out.below (Ad _ _).drew;have hBK:=HBJ.out.drew;obtain⟨d0,d1,d2,d3⟩:=K.a.cells;obtain⟨d4,-⟩:=K.ecell;unfold setA at d0 d1 d2 d3 d4 hBK;clear HJ HBJ K;go_wp2_with fail;refine leaves_cons (f:=211) (args:=#[.pointer (some ⟨w.heap.size+1,0,none⟩),.pointer (some ⟨w.heap.size+1+1,0,none⟩)]) (by simp) (by simp[go_sem]) ?_;refine(Lh ⟨w.heap.size+1,0,none⟩ ⟨w.heap.size+1+1,0,none⟩ _).mono ?_;rintro e u' w'' ⟨rfl,rfl,rfl⟩;simp[Leaves,settle,results,results148,go_sem,d0,d1,d2,d3,d4];exact⟨⟨_,rfl,Am _ _ _ _⟩,hBK⟩
theorem b6H{α:Type}{sz:Nat}{f:α->List Value}(hf:∀x,(f x).length=sz):∀(l:List α) (i:Nat) (h:i<l.length) (j:Nat) (v:Value),(f l[i])[j]?=some v->(l.flatMap f)[i*sz+j]?=some v
 |[],i,h,_,_,_=>absurd h (by simp)
 |x::r,0,_,j,v,hv=>by
  rw[F2z];simp only[Nat.zero_mul,C1z];simp only[B7z]at hv;obtain⟨hj,rfl⟩:=List.getElem?_eq_some_iff.1 hv;rw[F5z hj];simp
 |x::r,i+1,h,j,v,hv=>by
  have ih:=b6H hf r i (by simpa using h) j v (by simpa using hv);rw[F2z,F1z (by rw[hf x,F0z];omega),hf x];rw[show(i+1)*sz+j-sz=i*sz+j by rw[F0z];omega];exact ih
theorem We{α:Type}{sz:Nat}{f:α->List Value}(hf:∀x,(f x).length=sz){l:List α}{B:Nat}{e:TypeId}{v:Value}{w:World}(h:w.ownsRow B e sz v l.length (l.flatMap f)):(v=.slice none 0 0/\l=[])\/∃g cap,v=.slice (some ⟨g,0,none⟩) l.length cap/\g<w.heap.size/\l.length<=cap/\∀i (h:i<l.length) (j:Nat) (u:Value),(f l[i])[j]?=some u->w.cell? ⟨g,i*sz+j,none⟩=some u:=by
 rcases h.2 with⟨h1,h2⟩|⟨g,cap,cur,hv,hB,hg,hc,hm,hz,ht⟩
 ·exact .inl ⟨h1,Ay h2⟩
 ·refine .inr ⟨g,cap,hv,(Array.getElem?_eq_some_iff.1 hg).1,hc,λi hi j u hu=>?_⟩;have h3:=b6H hf l i hi j u hu;rw[<-ht,D0z]at h3
  split at h3
  ·rw[Ab hg];simpa using h3
  ·cases h3
theorem c2N{α:Type}{sz:Nat}{f:α->List Value}(hf:∀x,(f x).length=sz){l:List α}{B:Nat}{e:TypeId}{v:Value}{w:World}(h:w.ownsRow B e sz v l.length (l.flatMap f)):∃a c,v=.slice a l.length c/\Da sz f l a w/\l.length<=c:=by
 rcases We hf h with⟨h1,rfl⟩|⟨g,cap,hv,hg,hc,hcell⟩
 ·exact⟨none,0,h1,λi hi=>absurd hi (by simp),Ac _⟩
 ·exact⟨_,cap,hv,λi hi=>⟨g,0,rfl,hg,λj u hu=>by rw[C1z];exact hcell i hi j u hu⟩,hc⟩
theorem a9D{u:By}{l:L8}(h:u.data.toList=l):u=⟨l.toArray⟩:=by
 apply ByteArray.ext;simp[<-h]
theorem a1Z(gs:Nat)(es:List Ent)(rs:List Rt)(ws:List Wr)(v vh vw:Value)(qm qt qb:By)(fs:List Prm)(fa:Oa)(fc:Nat)(R:DsR)(W:World)(S:StI gs gs es (rs.map Rt.h) ws v vh vw W)(pa:Oa)(pc:Nat)(ua ul:By)(hua:ua.data.toList=R.al)(hul:ul.data.toList=R.lo)(hps:Df R.ps pa W)(hok:DsOk R rs.length)(hnp:R.ps.length<=1000000)(hf:Df fs fa W)(hl:fs.length<=1000000)(hz:∀i (h:i<fs.length),fs[i].1.size<=maxLen)(hwl:ws.length<=6):
  Calls prog 212 #[.pointer (some ⟨gs,0,none⟩),.agg #[.string qm,.string qt,.slice fa fs.length fc,.string qb],.agg #[.int .i64 R.st,.int .i64 R.ro,.slice pa R.ps.length pc,.string ua,.string ul]] W (Cz (toG R rs ws fs qb) W):=by
 by_cases h2:R.st=200
 ·have e:toG R rs ws fs qb=Ld fs qb (Fk rs R.ro) R.ps ws:=if_pos h2;have hro:=hok.ro h2;rw[e,h2];obtain⟨aw,cw,hvw,mw,hcw⟩:=c2N (f:=Wr.cells) (λ_=>rfl) S.wr;rcases We (f:=Hn.cells) (λ_=>rfl) S.hr with⟨-,h0⟩|⟨gh,ch,hvh,hgh,hch,hcell⟩
  ·rw[List.map_eq_nil_iff.1 h0]at hro;simp at hro
  have hlen:R.ro<(rs.map Rt.h).length:=by simpa using hro
  have hhd:Fk rs R.ro=(rs.map Rt.h)[R.ro]'hlen:=by
   unfold Fk;rw[Av hro];simp
  have hc:=hcell R.ro hlen;rw[<-hhd]at hc;have s1:W.cell? ⟨gs,1,none⟩=some vh:=by rw[Ab S.blk];rfl
  have s2:W.cell? ⟨gs,2,none⟩=some vw:=by rw[Ab S.blk];rfl
  rw[hvh]at s1;rw[hvw]at s2;have hb1:1+ws.length*(fs.length+1)<=50000000:=by
   have:ws.length*(fs.length+1)<=6*(fs.length+1):=D1z _ hwl;omega
  exact Ya gs gh (rs.map Rt.h).length ch aw ws.length cw ⟨qm,qt,qb,fs,fa,fc,R.ps,pa,pc,Fk rs R.ro⟩ R.ro ua ul _ W hlen s1 s2 (hc 0 _ rfl) (hc 1 _ rfl) (hc 2 _ rfl) (hc 3 _ rfl)
   (λW' hb=>Qq ⟨qm,qt,qb,fs,fa,fc,R.ps,pa,pc,Fk rs R.ro⟩ ws aw cw W' (mw.below hb) hcw (by omega) hb1 ⟨hf.below hb,hps.below hb,hl,hnp,hz⟩)
 ·have e:toG R rs ws fs qb=some (El R.st ua ul):=by
   unfold toG;rw[if_neg h2,a9D hua,a9D hul]
  rw[e];exact a1P _ qm qt qb fa fs.length fc R.st R.ro pa R.ps.length pc ua ul W h2
theorem b6I(l:L8):(Ck l).length<=l.length+1:=by
 unfold Ck
 split
 ·rw[B0z];omega
 ·simp
theorem Yg(m t:L8)(es:List Ent):(Eu m t es).lo.length<=t.length+1/\(Eu m t es).al.length<=(Lib.join (Fd (Pm.ahead 63 t) es) [44,32]).length:=by
 have hab:=congrArg List.length (Pm.a0c 63 t);rw[A0z]at hab;have ho:=b6I (Pm.ahead 63 t);unfold Eu
 split
 ·simp
 split
 ·simp
 split
 ·refine⟨?_,by simp⟩;simp only[A0z];unfold otG
  split
  ·simp;omega
  ·simp only;omega
 ·split
  ·simp
  ·simp
theorem a6O{K:Nat}{st:Int}{al lo:By}(h8:8<=K)(h1:al.size<=K)(h2:lo.size<=K):SmA K (El st al lo)/\(El st al lo).fs.length<=1:=by
 unfold El
 split
 ·refine⟨⟨Ah _,λp hp=>?_⟩,by simp⟩;simp only[C4z]at hp;subst hp;exact⟨h8,h2⟩
 split
 ·refine⟨⟨Ah _,λp hp=>?_⟩,by simp⟩;simp only[C4z]at hp;subst hp;exact⟨Aj (show Fz.size<=8 by decide) h8,h1⟩
 ·exact⟨Na K _,by simp⟩
theorem Tt{K:Nat}{R:DsR}{rs:List Rt}{ws:List Wr}{qf:List Prm}{qb:By}(h8:8<=K)(hf:∀p∈qf,p.2.size<=K)(hq:qb.size<=K)(hp:∀p∈R.ps,p.2.size<=K)(hw:∀x∈ws,x.n.size<=K/\x.v.size<=K)(hr:∀r∈rs,r.h.t.size<=K)(ha:R.al.length<=K)(hlo:R.lo.length<=K)(hwl:ws.length<=6)(hfl:qf.length<=1000000){a:An}(e:toG R rs ws qf qb=some a):SmA K a/\a.fs.length<=50000000:=by
 unfold toG at e
 split at e
 ·have ht:(Fk rs R.ro).t.size<=K:=by
   unfold Fk
   cases h:rs[R.ro]? with
   |none=>exact Ah _
   |some r=>exact hr r (List.mem_of_getElem? h)
  have h2:=Xz qf qb (Fk rs R.ro) R.ps ws a e;have:ws.length*(qf.length+1)<=6*(qf.length+1):=D1z _ hwl;exact⟨Pk (by omega) hf ht hq hp ws a hw e,by omega⟩
 ·cases e
  have:=a6O (K:=K) (st:=R.st) (al:=⟨R.al.toArray⟩) (lo:=⟨R.lo.toArray⟩) h8 (by show R.al.toArray.size<=K;simpa using ha) (by show R.lo.toArray.size<=K;simpa using hlo);exact⟨this.1,by omega⟩
theorem b6J(n v:By)(w:World)(hv:v.size<=4000000000):
  Calls prog 214 #[.agg #[.string n,.string v]] w λe w'=>e=.returned (.bool (Hk v))/\Bw w w':=
 b9T n v w (λW _=>Rg v W (by omega))
end Go.Proofs.YtbiggccolpchcaaGreatDoor
