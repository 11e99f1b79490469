/- Joined. -/
import Derived.Test.YtbiggccolpchcaaGreatDoorJoin35
import Derived.Deep.CutRange
set_option maxRecDepth 100000
set_option maxHeartbeats 8000000
namespace Go.Proofs.YtbiggccolpchcaaGreatDoor
open Go.RowKit _root_.Go.Proofs.Tryz
abbrev dS(C:Cf)(qm qt:By):DsR:=pdG C.hd C.bd C.rs C.ws qm.data.toList qt.data.toList
abbrev rS(C:Cf)(qm qt qb:By)(fs:List Prm):Rp:=Yb (dS C qm qt) C.rs C.ws fs qb
theorem a2V{fs:List Prm}{fa:Oa}{w W:World}{L:List Nat}(h:Df fs fa w)(hk:Kx L w W)(hn:∀g o,fa=some ⟨g,o,none⟩->g∉L):Df fs fa W:=λi hi=>by
 obtain⟨g,e,h1,h2,h3⟩:=h i hi;have hb:=hk.2 g h1 (hn g 0 e);exact⟨g,e,Af h1 hk.size,by rw[Au (w:=w) hb];exact h2,by rw[Au (w:=w) hb];exact h3⟩
theorem c4Z{V:Sv}{C:Cf}{es:List Ent}{v vh vw:Value}{mx:Int}(ok:SvOk V C es v vh vw mx)(qm qt:By)(h:(dS C qm qt).st=200):(dS C qm qt).ro<C.rs.length:=by
 have he:(dS C qm qt).e=0:=by
  have hpd:dS C qm qt=Eu qm.data.toList qt.data.toList es:=by
   unfold dS pdG;rw[if_pos ok.E,<-ok.es,Mb]
  rw[hpd]at h ⊢;unfold Eu at h ⊢
  split at h
  ·simp at h
  ·rename_i h0
   rw[if_neg h0]
   repeat' split
   all_goals rfl
 exact(Wd C.hd C.bd C.rs C.ws qm.data.toList qt.data.toList he).ro h
theorem a7F{V:Sv}{C:Cf}{es:List Ent}{v vh vw:Value}{mx:Int}(ok:SvOk V C es v vh vw mx)(hs:List Int)(hb:∀x∈hs,0<=x/\x<=4611686018427387904)(hl:hs.length=C.rs.length)(qm qt qb:By)(fs:List Prm)(fa:Oa)(fc:Nat)(w:World)(I:SvI V hs w)
  (hf:Df fs fa w) (hfl:fs.length<=500) (hz:∀p∈fs,p.1.size+p.2.size<=500) (hm:qm.size<=2000000) (ht:qt.size<=2000000) (hq:qb.size<=2000000) (hn:∀g o,fa=some ⟨g,o,none⟩->g≠V.s/\g≠V.h) :
  Calls prog 173 #[.pointer (some ⟨V.s,0,none⟩),.agg (rqA qm qt qb fa fs.length fc)] w λx w'=>(∃pa pc,x=.returned (.agg (anA (rS C qm qt qb fs).st (.slice pa (rS C qm qt qb fs).fs.length pc) (rS C qm qt qb fs).b (rS C qm qt qb fs).cl))/\w'.ownsRow w.heap.size 131 2 (.slice pa (rS C qm qt qb fs).fs.length pc) (rS C qm qt qb fs).fs.length (Bg (rS C qm qt qb fs).fs))/\SvI V (Fo (dS C qm qt).st (dS C qm qt).ro hs) w'/\Kx [V.s,V.h] w w':=by
 have hpd:dS C qm qt=Eu qm.data.toList qt.data.toList es:=by
  unfold dS pdG;rw[if_pos ok.E,<-ok.es,Mb]
 obtain⟨c1,c2,c3,c4⟩:=Iv ok.E;have hjn:=Pj (Pm.ahead 63 qt.data.toList) ok.S ok.es c3;have hmx:qm.size<=maxLen:=by unfold maxLen;omega
 refine b2F V hs _ qm qt qb fa fs.length fc (rS C qm qt qb fs).st (rS C qm qt qb fs).e (rS C qm qt qb fs).fs.length (Bg (rS C qm qt qb fs).fs) (rS C qm qt qb fs).b (rS C qm qt qb fs).cl w I ?_ ?_
 ·intro W hW;refine b4M V hs qm qt qb fa fs.length fc (dS C qm qt).st (dS C qm qt).e (dS C qm qt).ro W (I.below hW) (λh=>by rw[hl];exact c4Z ok qm qt h) hb ?_;intro W2 hW2;have S:=((I.below hW).below hW2).site ok;refine(Nx V.gs V.gs es v qm qt W2 S.tb hmx (by omega) (by omega)).mono ?_;rintro x w' ⟨⟨vv,ua,ul,rfl,h1,h2,ow⟩,hb'⟩;obtain⟨pa,pc,rfl⟩:=Ce ow;rw[hpd];exact⟨⟨pa,_,pc,ua,ul,rfl⟩,hb'⟩
 ·intro W hB hK;have hfW:=a2V hf hK (λg o e=>by have:=hn g o e;simp;omega);refine(Vi V.gs C.hd C.bd C.rs C.ws es v vh vw qm qt qb fs fa fc W (ok.S.below hB) ok.es ok.E ok.rs ok.ws hfW (by omega) (λi hi=>?_) (λp hp=>by have:=hz p hp;omega) hmx ht hq).mono ?_
  ·have:=hz _ (As hi);unfold maxLen;omega
  ·rintro x w' ⟨⟨vv,rfl,ow⟩,hb'⟩;obtain⟨pa,pc,rfl⟩:=Ce ow;exact⟨⟨pa,pc,rfl,ow⟩,hb'⟩
theorem a2W(V:Sv)(c:Nat)(vo:Value)(held:By)(out:L8)(rq:Nat)(cl:Bool)(m:By)(R:Rp)(hR:AnsB R)(pa:Oa)(pc:Nat)(w:World)(I:CnI V c vo held out rq cl w)(lw:V.s<w.heap.size)(lh:V.h<w.heap.size)(lv:V.w1.heap.size<=w.heap.size)(hf:Df R.fs pa w)(hlen:out.length+(Fr m.data.toList R.st R.fs R.b.data.toList R.cl).length<=140737488355328)
  (ht:Lib.TabBelow prog w.heap.size w "internal/strconv.uint64pow10" .u64 Lib.pow10Tab) :
  Calls prog 172 #[.pointer (some ⟨c,0,none⟩),.string m,.agg (anA R.st (.slice pa R.fs.length pc) R.b R.cl)] w λx w'=>x=.returned (.tuple #[])/\SnI V c vo (Qw R.cl held) (out++Fr m.data.toList R.st R.fs R.b.data.toList R.cl) rq (R.cl||cl) w w':=by
 have h:=c0L V c vo held out rq cl m R.st pa R.fs.length pc R.b R.cl ⟨(Fr m.data.toList R.st R.fs R.b.data.toList R.cl).toArray⟩ w I lw lh lv (by show out.length+(Fr m.data.toList R.st R.fs R.b.data.toList R.cl).toArray.size<=_;simpa using hlen) (λW hW=>by
  refine a2B m R.st R.fs pa pc R.b R.cl W (by have:=hR.s0;omega) (by have:=hR.s1;omega) (λi hi=>?_) (by have:=hR.n;omega) (by have:=hR.z;omega) (Lib.tabBelow_of_tabIs (ht W hW));obtain⟨g,e,h1,h2,h3⟩:=hf.below hW i hi;exact⟨g,0,e,h1,by rw[C1z];exact h2,by rw[C1z];exact h3⟩)
 exact h
theorem Uf(m:L8)(st:Int)(fs:List Pr2)(b:L8)(cl:Bool)(h0:0<=st)(h1:st<=999)(hb:b.length<=1000000000):(Fr m st fs b cl).length<=(Cm fs).length+b.length+600:=by
 have n1:=Im (b:=10) (n:=st) (by omega) (by omega) (by omega);have n2:=Im (b:=10) (n:=(b.length:Int)) (by omega) (by omega) (by omega);have hr:=Md st;have hr2:(Pm.a4h st).data.toList.length=(Pm.a4h st).size:=by simp
 have e1:(if cl=true then Gm a6P Nd else([]:L8)).length<=30:=by split<;>decide
 have e2:(if m=Tx then[]else b).length<=b.length:=by split<;>simp
 have e3:Tw.length=14:=rfl;unfold Fr Ji c0A;have e4:(Gm Tw (Fp 10 b.length)).length=14+(Fp 10 b.length).length+4:=by unfold Gm;simp[e3];omega
 simp only[A0z,e4,A9z,C0z];omega
theorem Kb{l:L8}{F:Ed}(h:FrSm l F):(Bq F.2.2.2.1).length<=500/\∀p∈Bq F.2.2.2.1,p.1.size+p.2.size<=500:=by
 refine⟨by unfold Bq;rw[A8z];exact h.n,λp hp=>?_⟩;unfold Bq at hp;obtain⟨x,hx,rfl⟩:=List.mem_map.1 hp;have:=h.f x hx;show x.1.toArray.size+x.2.toArray.size<=500;simpa using this
theorem a7G{V:Sv}{C:Cf}{es:List Ent}{v vh vw:Value}{mx:Int}(ok:SvOk V C es v vh vw mx)(l:L8)(hl:l.length<=2000000)(h:(Bi l C.hd C.bd).1=0):AnsB (Ef C (Bi l C.hd C.bd))/\(Hd C (Bi l C.hd C.bd)).length<=33000600:=by
 have hs:=Dh l C.hd C.bd h;obtain⟨f1,f2⟩:=Kb hs;have ht:=hs.t;have hb:=hs.b;generalize Bi l C.hd C.bd=F at *
 have hA:=b2H ok ⟨F.2.1.toArray⟩ ⟨F.2.2.1.toArray⟩ ⟨F.2.2.2.2.1.toArray⟩ (Bq F.2.2.2.1) (by show F.2.2.1.toArray.size<=_;simp;omega) (by show F.2.2.2.2.1.toArray.size<=_;simp;omega) f1 f2;have hA':AnsB (Ef C F):=hA;refine⟨hA',?_⟩;have hz:=hA'.z;have hbl:(Ef C F).b.data.toList.length=(Ef C F).b.size:=by simp
 have:=Uf F.2.1 (Ef C F).st (Ef C F).fs (Ef C F).b.data.toList (Ef C F).cl hA'.s0 hA'.s1 (by omega);unfold Hd;omega
theorem Ll(e:Int):0<=Ec e/\Ec e<=999:=by
 unfold Ec
 repeat' split
 all_goals omega
theorem Ys(e:Int):(Fr [] (Ec e) [] [] true).length<=33000600:=by
 have h:=Ll e;have:=Uf [] (Ec e) [] [] true h.1 h.2 (by simp);simp[Cm]at this;omega
theorem Mh(C:Cf):∀(j k:Nat) (S:Cs),S.held.length+1<=j->j<=k->Ch C k S=Ch C j S
 |0,k,S,h,_=>absurd h (by omega)
 |j+1,0,S,_,h2=>absurd h2 (by omega)
 |j+1,k+1,S,h,h2=>by
  rw[Ch,Ch]
  split
  ·rfl
  split
  ·rfl
  split
  ·rename_i h0
   have hs:=Dh S.held C.hd C.bd h0;have hu:=hs.u;have hv:=hs.v;have hd:(Dd C (Bi S.held C.hd C.bd) S).held.length+1<=j\/(Dd C (Bi S.held C.hd C.bd) S).held=[]:=by
    unfold Dd Ga
    split
    ·exact .inr rfl
    ·left;simp only[A6z];omega
   rcases hd with hd|hd
   ·exact Mh C j k _ hd (by omega)
   ·by_cases hj:1<=j
    ·exact Mh C j k _ (by rw[hd];simpa using hj) (by omega)
    ·exfalso;have:S.held.length=0:=by omega
     omega
  ·rfl
structure GvI(V:Sv)(C:Cf)(c:Nat)(vo0:Value)(w:World)(FIN:Cs)(g:Nat)(S:Cs)(vo:Value)(wr:World):Prop where
 eq:Ch C g S=FIN
 fu:S.cl=false->S.held.length+1<=g
 sv:SvI V S.hs wr
 cn:CnI V c vo ⟨S.held.toArray⟩ S.out S.rq S.cl wr
 kx:Kx (cnL V c vo0) w wr
 ob:∀r,vo.ownBlock=some r->vo0.ownBlock=some r\/w.heap.size<=r
 hl:S.hs.length=C.rs.length
 hb:∀x∈S.hs,0<=x/\x+S.held.length<=4611686018427387904
 ol:S.out.length+(S.held.length+1)*34000000<=140737488355328
 rb:S.rq+S.held.length<=4611686018427387904
 hz:S.held.length<=2000000
theorem GvI.below{V:Sv}{C:Cf}{c:Nat}{vo0 vo:Value}{w wr wc:World}{FIN S:Cs}{g:Nat}(I:GvI V C c vo0 w FIN g S vo wr)(hb:Bw wr wc):GvI V C c vo0 w FIN g S vo wc:=
 ⟨I.eq,I.fu,I.sv.below hb,I.cn.below hb,I.kx.next hb,I.ob,I.hl,I.hb,I.ol,I.rb,I.hz⟩
theorem b7F{st:Int}{ro:Nat}{hs:List Int}{K L:Int}(h:∀x∈hs,0<=x/\x+K<=4611686018427387904)(hK:L+1<=K):∀x∈Fo st ro hs,0<=x/\x+L<=4611686018427387904:=by
 unfold Fo;intro x hx
 split at hx
 ·rcases List.mem_or_eq_of_mem_set hx with q|q
  ·have:=h x q;omega
  ·subst q
   cases hg:hs[ro]? with
   |none=>
    have hlen:hs.length<=ro:=List.getElem?_eq_none_iff.1 hg;rw[List.set_eq_of_length_le hlen,hg]at hx;have:=h _ hx;omega
   |some y=>
    have:=h y (List.mem_of_getElem? hg);simp only[Option.getD_some];omega
 ·have:=h x hx;omega
theorem Mi{hd bd:Int}{rs:List Rt}{ws:List Wr}(h:(Et hd bd rs ws).2=0):32<=hd/\hd<=500/\0<=bd/\bd<=200:=by
 unfold Et at h;by_cases h1:decide (32<=hd/\hd<=500/\0<=bd/\bd<=200)=false
 ·rw[if_pos h1]at h;exact absurd h (by decide)
 ·exact of_decide_eq_true (by cases q:decide (32<=hd/\hd<=500/\0<=bd/\bd<=200);exact absurd q h1;rfl)
theorem a2X(hd bd:Int)(l:L8)(mx:Int)(w:World)(hr:32<=hd/\hd<=500/\0<=bd/\bd<=200)(hl:l.length<=2000000)(hm:w.cell? ⟨0,0,none⟩=some (.int .i64 mx)):
  Calls prog 135 #[.agg #[.int .i64 hd,.int .i64 bd],.string ⟨l.toArray⟩] w λr w'=>(∃a cap,r=.returned (.tuple #[.agg (rqA ⟨(Bi l hd bd).2.1.toArray⟩ ⟨(Bi l hd bd).2.2.1.toArray⟩ ⟨(Bi l hd bd).2.2.2.2.1.toArray⟩ a (Bq (Bi l hd bd).2.2.2.1).length cap),.int .i64 (Bi l hd bd).2.2.2.2.2,.int .i64 (Bi l hd bd).1])/\Df (Bq (Bi l hd bd).2.2.2.1) a w'/\∀g o,a=some ⟨g,o,none⟩->w.heap.size<=g/\g<w'.heap.size)/\Bw w w':=by
 obtain⟨n,rfl⟩:∃n:Nat,hd=n:=⟨hd.toNat,by omega⟩;have e:Bi l n bd=Cc l n bd:=by unfold Bi;rw[if_pos hr,Int.toNat_natCast]
 rw[e];refine(a5I n bd ⟨l.toArray⟩ mx w (by show l.toArray.size<=_;simp;omega) (by omega) (by omega) (by omega) (by omega) hm).mono ?_;rintro r w' ⟨⟨v,rfl,ow⟩,hb⟩;have ow':w'.ownsRow w.heap.size 131 2 v (Cc l n bd).2.2.2.1.length (Ih (Cc l n bd).2.2.2.1):=ow;obtain⟨a,cap,rfl,hf⟩:=Rl ow';exact⟨⟨a,cap,rfl,hf,λg o e=>Fl ow' (by rw[e];rfl)⟩,hb⟩
abbrev rqF(F:Ed)(a:Oa)(cap:Nat):Array Value:=rqA ⟨F.2.1.toArray⟩ ⟨F.2.2.1.toArray⟩ ⟨F.2.2.2.2.1.toArray⟩ a (Bq F.2.2.2.1).length cap
abbrev rqZ:Array Value:=#[.string ⟨#[]⟩,.string ⟨#[]⟩,.slice none 0 0,.string ⟨#[]⟩]
structure FqI(F:Ed)(wr:World)(qb:Nat)(a:Oa)(cap:Nat)(W:World):Prop where
 bel:Bw wr W
 ge:wr.heap.size<=qb
 blk:W.heap[qb]?=some (.cells (rqF F a cap) 47 (0,0))
 fl:Df (Bq F.2.2.2.1) a W
 far:∀g o,a=some ⟨g,o,none⟩->wr.heap.size<=g/\g≠qb
theorem c0N{w1 w2:World}(hb:Below (w1.drew.alloc (.cells rqZ 47)).heap.size (w1.drew.alloc (.cells rqZ 47)) w2):w2.cell? ⟨w1.heap.size,0,none⟩=some (.string ⟨#[]⟩)/\w2.cell? ⟨w1.heap.size,1,none⟩=some (.string ⟨#[]⟩)/\w2.cell? ⟨w1.heap.size,2,none⟩=some (.slice none 0 0)/\w2.cell? ⟨w1.heap.size,3,none⟩=some (.string ⟨#[]⟩)/\w2.frozen? ⟨w1.heap.size,0,none⟩=false/\w2.frozen? ⟨w1.heap.size,1,none⟩=false/\w2.frozen? ⟨w1.heap.size,2,none⟩=false/\w2.frozen? ⟨w1.heap.size,3,none⟩=false:=by
 have h:w2.heap[w1.heap.size]?=some (.cells rqZ 47 (0,0)):=Fc (w1:=w1.drew) hb;refine⟨?_,?_,?_,?_,Ai h 0,Ai h 1,Ai h 2,Ai h 3⟩<;>(rw[Ab h];rfl)
theorem b7G{F:Ed}{w1 w2:World}{a:Oa}{cap B:Nat}(h:Bw w1 w2)(hf:Df (Bq F.2.2.2.1) a w2)(hn:∀g o,a=some ⟨g,o,none⟩->B<=g/\g<w2.heap.size)(hB:w1.heap.size<=B):FqI F w1 w2.heap.size a cap (w2.alloc (.cells (rqF F a cap) 47)):=
 ⟨h.alloc h.size _,h.size,Ag w2 _,hf.below (bA _ _),λg o e=>by have:=hn g o e;omega⟩
theorem c3A{F:Ed}{w1 w2:World}{a:Oa}{cap:Nat}(h:Bw w1 w2)(hz:w2.heap[w1.heap.size]?=some (.cells rqZ 47 (0,0)))(hf:Df (Bq F.2.2.2.1) a w2)(hn:∀g o,a=some ⟨g,o,none⟩->w1.heap.size+1<=g/\g<w2.heap.size):FqI F w1 w1.heap.size a cap ((((w2.setCell ⟨w1.heap.size,0,none⟩ (.string ⟨F.2.1.toArray⟩)).setCell ⟨w1.heap.size,1,none⟩ (.string ⟨F.2.2.1.toArray⟩)).setCell ⟨w1.heap.size,2,none⟩ (.slice a (Bq F.2.2.2.1).length cap)).setCell ⟨w1.heap.size,3,none⟩ (.string ⟨F.2.2.2.2.1.toArray⟩)):=by
 have hb:=Bj (Bj (Bj (Bj hz 0 (.string ⟨F.2.1.toArray⟩)) 1 (.string ⟨F.2.2.1.toArray⟩)) 2 (.slice a (Bq F.2.2.2.1).length cap)) 3 (.string ⟨F.2.2.2.2.1.toArray⟩);have hk:=a9J w1.heap.size w2 (.string ⟨F.2.1.toArray⟩) (.string ⟨F.2.2.1.toArray⟩) (.slice a (Bq F.2.2.2.1).length cap) (.string ⟨F.2.2.2.2.1.toArray⟩);exact⟨Pq h _ _ _ _,Ac _,hb,a2V hf hk (λg o e=>by have:=hn g o e;simp;omega),λg o e=>by have:=hn g o e;omega⟩
theorem c5A{c sv:Nat}{hd bd:Int}{x:By}{w1 W:World}(h1:w1.cell? ⟨c,0,none⟩=some (.pointer (some ⟨sv,0,none⟩)))(h2:w1.cell? ⟨c,1,none⟩=some (.string x))(h3:w1.cell? ⟨sv,0,none⟩=some (.int .i64 hd))(h4:w1.cell? ⟨sv,1,none⟩=some (.int .i64 bd))(hb:Bw w1 W):Bw w1 W/\W.cell? ⟨c,0,none⟩=some (.pointer (some ⟨sv,0,none⟩))/\W.cell? ⟨c,1,none⟩=some (.string x)/\W.cell? ⟨sv,0,none⟩=some (.int .i64 hd)/\W.cell? ⟨sv,1,none⟩=some (.int .i64 bd):=
 ⟨hb,Aa hb h1,Aa hb h2,Aa hb h3,Aa hb h4⟩
theorem Kc{hd bd:Int}(hr:32<=hd/\hd<=500/\0<=bd/\bd<=200):(Bi [] hd bd).1=2:=by
 unfold Bi;rw[if_pos hr];have hl:Pm.a2g [] hd.toNat 5=(2,[],0):=by
  rw[Pm.a2j (by simp[Pm.behind])];rw[if_pos (by simp;omega)]
 have h:Pm.a1o (hd.toNat+1) true [] hd.toNat [] [] [] 0=Pm.a1n 2:=by
  rw[Dc,hl];rfl
 unfold Cc;rw[h];rfl
theorem a9K{V:Sv}{C:Cf}{c:Nat}{vo0 vo vo2:Value}{w wc W:World}{FIN S S':Cs}{f:Nat}(I:GvI V C c vo0 w FIN (f+1) S vo wc)(hcl:S.cl=false)(he:Ch C f S'=FIN)(hlt:S'.held.length+1<=S.held.length)(sv:SvI V S'.hs W)(cn:CnI V c vo2 ⟨S'.held.toArray⟩ S'.out S'.rq S'.cl W)(kx:Kx (cnL V c vo) wc W)
  (ob:∀r,vo2.ownBlock=some r->vo.ownBlock=some r\/wc.heap.size<=r) (hl:S'.hs.length=S.hs.length) (hb:∀x∈S'.hs,0<=x/\x+S'.held.length<=4611686018427387904) (ho:S'.out.length<=S.out.length+33000600) (hr:S'.rq<=S.rq+1):GvI V C c vo0 w FIN f S' vo2 W:=by
 have h1:=I.fu hcl;have h2:=I.ol;have h3:=I.rb;have h4:=I.hz;have h5:=I.kx.size;refine⟨he,λ_=>by omega,sv,cn,I.kx.trans kx (λb hb=>?_),λr hr=>?_,by rw[hl];exact I.hl,hb,by omega,by omega,by omega⟩
 ·simp only[D3z,C3z,List.not_mem_nil,or_false,B5z]at hb ⊢;rcases hb with hb|hb
  ·exact .inl (.inl hb)
  ·rcases I.ob b hb with q|q
   ·exact .inl (.inr q)
   ·exact .inr q
 ·rcases ob r hr with q|q
  ·exact I.ob r q
  ·exact .inr (by omega)
theorem b7H{qb c sv cap:Nat}{F:Ed}{fa:Oa}{W:World}(hq:W.heap[qb]?=some (.cells (rqF F fa cap) 47 (0,0)))(hc:W.cell? ⟨c,0,none⟩=some (.pointer (some ⟨sv,0,none⟩))):W.cell? ⟨qb,0,none⟩=some (.string ⟨F.2.1.toArray⟩)/\W.cell? ⟨qb,1,none⟩=some (.string ⟨F.2.2.1.toArray⟩)/\W.cell? ⟨qb,2,none⟩=some (.slice fa (Bq F.2.2.2.1).length cap)/\W.cell? ⟨qb,3,none⟩=some (.string ⟨F.2.2.2.2.1.toArray⟩)/\W.cell? ⟨c,0,none⟩=some (.pointer (some ⟨sv,0,none⟩)):=by
 refine⟨?_,?_,?_,?_,hc⟩<;>(rw[Ab hq];rfl)
theorem c1T{V:Sv}{c:Nat}{vo:Value}{w W:World}(h:Kx (c::vo.ownBlock.toList) w W):Kx (cnL V c vo) w W:=
 h.mono (λb hb=>.inl (by simp only[D3z,C3z,List.not_mem_nil,or_false]at hb ⊢;rcases hb with q|q;exact .inl (.inr (.inr q));exact .inr q))
theorem a7H(l t:L8)(hd bd:Int)(h:(Bi l hd bd).1≠2):Bi (l++t) hd bd=Bi l hd bd:=by
 unfold Bi at h ⊢
 split
 ·rename_i hr
  rw[if_pos hr]at h;exact a5B l t hd.toNat bd h
 ·rfl
def Cs.behind(a:L8)(S:Cs):Cs:=⟨S.held,a++S.out,S.rq,S.cl,S.hs⟩
theorem Ug(a:L8)(S:Cs)(t:L8)(cl:Bool):Ga (S.behind a) t cl=(Ga S t cl).behind a:=by
 unfold Ga Cs.behind
 cases cl<;>simp
theorem a7I(C:Cf)(F:Ed)(a:L8)(S:Cs):Dd C F (S.behind a)=(Dd C F S).behind a:=by
 unfold Dd;exact Ug a ⟨S.held.drop F.2.2.2.2.2,S.out,S.rq+1,S.cl,Fo (Eg C F).st (Eg C F).ro S.hs⟩ (Hd C F) (Ef C F).cl
theorem Qx(C:Cf)(a:L8):∀(k:Nat) (S:Cs),Ch C k (S.behind a)=(Ch C k S).behind a
 |0,S=>rfl
 |k+1,S=>by
  rw[Ch,Ch];have e1:(S.behind a).cl=S.cl:=rfl;have e2:(S.behind a).held=S.held:=rfl;rw[e1,e2]
  split
  ·rfl
  split
  ·rfl
  split
  ·rw[a7I];exact Qx C a k _
  ·exact Ug a S _ true
theorem Yt(C:Cf):∀(k:Nat) (S:Cs),(Ch C k S).held.length<=S.held.length
 |0,S=>Ac _
 |k+1,S=>by
  rw[Ch]
  split
  ·exact Ac _
  split
  ·exact Ac _
  split
  ·refine Aj (Yt C k _) ?_;unfold Dd Ga
   split
   ·exact Ah _
   ·simp only[A6z];omega
  ·exact Ah _
theorem a2Y(C:Cf):∀(k:Nat) (S:Cs) (t:L8) (K:Nat),S.held.length+1<=k->S.cl=false->S.held.length+t.length+1<=K ->
  Ch C K ⟨S.held++t,S.out,S.rq,false,S.hs⟩=if(Ch C k S).cl=true then Ch C k S else Ch C K ⟨(Ch C k S).held++t,(Ch C k S).out,(Ch C k S).rq,false,(Ch C k S).hs⟩
 |0,S,t,K,h,_,_=>absurd h (by omega)
 |k+1,S,t,0,_,_,h=>absurd h (by omega)
 |k+1,S,t,K+1,h,hc,hK=>by
  have hg:Ch C (k+1) S=if(Bi S.held C.hd C.bd).1=2 then S else if(Bi S.held C.hd C.bd).1=0 then Ch C k (Dd C (Bi S.held C.hd C.bd) S)else noS (Bi S.held C.hd C.bd).1 S:=by
   rw[Ch,if_neg (by rw[hc];simp)]
  by_cases h2:(Bi S.held C.hd C.bd).1=2
  ·rw[hg,if_pos h2,if_neg (by rw[hc];simp)]
  ·have ha:=a7H S.held t C.hd C.bd h2;rw[if_neg h2]at hg;have hl:Ch C (K+1) ⟨S.held++t,S.out,S.rq,false,S.hs⟩=if(Bi S.held C.hd C.bd).1=0 then Ch C K (Dd C (Bi S.held C.hd C.bd) ⟨S.held++t,S.out,S.rq,false,S.hs⟩)else noS (Bi S.held C.hd C.bd).1 ⟨S.held++t,S.out,S.rq,false,S.hs⟩:=by
    rw[Ch];simp only[ha];rw[if_neg (by simp),if_neg h2]
   rw[hl];by_cases h0:(Bi S.held C.hd C.bd).1=0
   ·rw[if_pos h0]at hg ⊢;have hs:=Dh S.held C.hd C.bd h0;have hu:=hs.u;have hv:=hs.v;rw[hg];by_cases hcl:(Ef C (Bi S.held C.hd C.bd)).cl=true
    ·have e1:Dd C (Bi S.held C.hd C.bd) ⟨S.held++t,S.out,S.rq,false,S.hs⟩=Dd C (Bi S.held C.hd C.bd) S:=by
      unfold Dd Ga;rw[if_pos hcl,if_pos hcl]
     have e2:(Dd C (Bi S.held C.hd C.bd) S).cl=true:=by unfold Dd Ga;rw[if_pos hcl]
     rw[e1,Gj C K _ e2,Gj C k _ e2,if_pos e2]
    ·have hcf:(Ef C (Bi S.held C.hd C.bd)).cl=false:=by simpa using hcl
     have e1:Dd C (Bi S.held C.hd C.bd) ⟨S.held++t,S.out,S.rq,false,S.hs⟩=⟨(Dd C (Bi S.held C.hd C.bd) S).held++t,(Dd C (Bi S.held C.hd C.bd) S).out,(Dd C (Bi S.held C.hd C.bd) S).rq,false,(Dd C (Bi S.held C.hd C.bd) S).hs⟩:=by
      unfold Dd Ga;rw[if_neg hcl,if_neg hcl];simp only;rw[List.drop_append_of_le_length hv]
     have e2:(Dd C (Bi S.held C.hd C.bd) S).cl=false:=by unfold Dd Ga;rw[if_neg hcl];exact hc
     have e3:(Dd C (Bi S.held C.hd C.bd) S).held.length+1<=S.held.length:=by
      unfold Dd Ga;rw[if_neg hcl];simp only[A6z];omega
     rw[e1,a2Y C k _ t K (by omega) e2 (by omega)]
     split
     ·rfl
     ·have e4:∀(j:Nat) (S:Cs),(Ch C j S).held.length<=S.held.length:=Yt C;have e5:=e4 k (Dd C (Bi S.held C.hd C.bd) S);exact(Mh C K (K+1) _ (by simp only[A0z];omega) (by omega)).symm
   ·rw[if_neg h0]at hg ⊢;rw[hg];have e2:(noS (Bi S.held C.hd C.bd).1 S).cl=true:=rfl;rw[if_pos e2];rfl
theorem a2Z{l:L8}(h:(Pm.a1f l).1=0):Pm.a1x (Pm.a1f l).2.1=true/\Pm.a2a (Pm.a1f l).2.2=true:=by
 unfold Pm.a1f at h ⊢
 split at h
 ·rename_i a b c hs
  split at h
  ·rename_i h1
   split at h
   ·rename_i h2
    have h3:=h1;rw[A3z,A3z]at h3;rw[if_pos h1,if_pos h2];exact⟨h3.1,h3.2.1⟩
   ·exact absurd h (by decide)
  ·exact absurd h (by decide)
 ·exact absurd h (by decide)
theorem a3A(f:Nat):∀(first:Bool) (l:L8) (lim:Nat) (m tg:L8) (fs:List Pm.Fld) (u:Nat),(first=false->Pm.a1x m=true/\Pm.a2a tg=true)->(Pm.a1o f first l lim m tg fs u).1=0->Pm.a1x (Pm.a1o f first l lim m tg fs u).2.1=true/\Pm.a2a (Pm.a1o f first l lim m tg fs u).2.2.1=true:=by
 induction f with
 |zero=>intro first l lim m tg fs u _ h;exact absurd (show(2:Int)=0 from h) (by decide)
 |succ f ih=>
  intro first l lim m tg fs u hm h
  rw[Dc]at h ⊢;by_cases h2:(Pm.a2g l lim 5).1≠0
  ·rw[if_pos h2]at h;exact absurd h h2
  ·rw[if_neg h2]at h ⊢;by_cases h3:first=true
   ·rw[if_pos h3]at h ⊢;by_cases h4:(Pm.a1f (Pm.a2g l lim 5).2.1).1≠0
    ·rw[if_pos h4]at h;exact absurd h h4
    ·rw[if_neg h4]at h ⊢;exact ih _ _ _ _ _ _ _ (λ_=>a2Z (by omega)) h
   ·have hf:first=false:=by simpa using h3
    rw[if_neg h3]at h ⊢;by_cases h4:(Pm.a2g l lim 5).2.1=[]
    ·rw[if_pos h4];exact hm hf
    ·rw[if_neg h4]at h ⊢
     cases h5:Pm.a1d (Pm.a2g l lim 5).2.1 with
     |none=>rw[h5]at h;exact absurd (show(3:Int)=0 from h) (by decide)
     |some f'=>
      rw[h5]at h;exact ih _ _ _ _ _ _ _ (λ_=>hm hf) h
theorem Qy(l:L8)(hd bd:Int)(h:(Bi l hd bd).1=0):Pm.a1x (Bi l hd bd).2.1=true/\Pm.a2a (Bi l hd bd).2.2.1=true:=by
 unfold Bi at h ⊢
 split at h
 ·rename_i hr
  rw[if_pos hr];unfold Cc at h ⊢;have hh:=a3A (hd.toNat+1) true l hd.toNat [] [] [] 0 (λh=>by cases h);generalize Pm.a1o (hd.toNat+1) true l hd.toNat [] [] [] 0=H at *
  simp only at h ⊢
  split at h
  ·rename_i h1;exact absurd h h1
  rename_i h1
  rw[if_neg h1]
  split at h
  ·rename_i h2;exact absurd h h2
  rename_i h2
  rw[if_neg h2]
  split at h
  ·rename_i h3;exact absurd h h3
  rename_i h3
  rw[if_neg h3];exact hh (by omega)
 ·exact absurd h (by decide)
def phi(S:Cs):Nat:=S.out.length+S.held.length*34000000
theorem a3B(C:Cf):∀(k:Nat) (S:Cs),(∀x∈S.hs,0<=x/\x+S.held.length<=4611686018427387904)->(Ch C k S).rq+(Ch C k S).held.length<=S.rq+S.held.length/\(Ch C k S).hs.length=S.hs.length/\∀x∈(Ch C k S).hs,0<=x/\x+(Ch C k S).held.length<=4611686018427387904
 |0,S,h=>⟨Ac _,rfl,h⟩
 |k+1,S,h=>by
  rw[Ch]
  split
  ·exact⟨Ac _,rfl,h⟩
  split
  ·exact⟨Ac _,rfl,h⟩
  split
  ·rename_i h0
   have hs:=Dh S.held C.hd C.bd h0;have hu:=hs.u;have hv:=hs.v;have h1:(Dd C (Bi S.held C.hd C.bd) S).held.length+1<=S.held.length/\(Dd C (Bi S.held C.hd C.bd) S).rq=S.rq+1/\(Dd C (Bi S.held C.hd C.bd) S).hs=Fo (Eg C (Bi S.held C.hd C.bd)).st (Eg C (Bi S.held C.hd C.bd)).ro S.hs:=by
    unfold Dd Ga
    split
    ·simp only[C0z];refine⟨by omega,?_,?_⟩<;>first|rfl|trivial
    ·simp only[A6z];refine⟨by omega,?_,?_⟩<;>first|rfl|trivial
   have hb:∀x∈(Dd C (Bi S.held C.hd C.bd) S).hs,0<=x/\x+(Dd C (Bi S.held C.hd C.bd) S).held.length<=4611686018427387904:=by
    rw[h1.2.2];exact b7F h (by omega)
   obtain⟨i1,i2,i3⟩:=a3B C k _ hb;exact⟨by omega,by rw[i2,h1.2.2,Xg],i3⟩
  ·refine⟨?_,rfl,λx hx=>?_⟩
   ·unfold noS Ga;simp only[if_true,C0z];omega
   ·have hh:=h x hx;unfold noS Ga;simp only[if_true,C0z];omega
def Oi(C:Cf)(hs0:List Int)(B T:L8)(S:Cs):Prop:=Ch C (B.length+1) ⟨B,[],0,false,hs0⟩=S.behind T
theorem a3C(C:Cf)(hs0:List Int)(hr:32<=C.hd/\C.hd<=500/\0<=C.bd/\C.bd<=200):Oi C hs0 [] [] ⟨[],[],0,false,hs0⟩:=by
 unfold Oi;rw[Ch,if_neg (by simp)];simp only;rw[if_pos (Kc hr)];rfl
theorem a7J{C:Cf}{hs0:List Int}{B T:L8}{S:Cs}(h:Oi C hs0 B T S)(hc:S.cl=false)(t:L8):Oi C hs0 (B++t) T (Ie C S t):=by
 unfold Oi at h ⊢;have ha:=a2Y C (B.length+1) ⟨B,[],0,false,hs0⟩ t ((B++t).length+1) (Ac _) rfl (by simp);have hl:=Yt C (B.length+1) ⟨B,[],0,false,hs0⟩;rw[h]at ha hl;have e1:(S.behind T).cl=false:=hc;rw[if_neg (by rw[e1];simp)]at ha;rw[ha];have hl2:S.held.length<=B.length:=hl;have e2:(⟨(S.behind T).held++t,(S.behind T).out,(S.behind T).rq,false,(S.behind T).hs⟩:Cs)=Cs.behind T ⟨S.held++t,S.out,S.rq,S.cl,S.hs⟩:=by
  unfold Cs.behind;rw[hc]
 rw[e2,Qx];unfold Ie;rw[Mh C (S.held.length+t.length+1) ((B++t).length+1) ⟨S.held++t,S.out,S.rq,S.cl,S.hs⟩ (by simp) (by simp;omega)]
theorem SvI.far{V:Sv}{hs:List Int}{w w':World}(h:SvI V hs w){c:Nat}(hk:Kx [c] w w')(h0:V.w1.heap.size<=c)(h1:c≠V.s)(h2:c≠V.h):SvI V hs w':=
 h.kx hk (λb hb=>by simp at hb;omega) (by simp;omega) (by simp;omega)
theorem CnI.hold{V:Sv}{c:Nat}{vo:Value}{held:By}{out:L8}{rq:Nat}{cl:Bool}{w:World}(h:CnI V c vo held out rq cl w)(x:By):CnI V c vo x out rq cl (w.setCell ⟨c,1,none⟩ (.string x))/\Kx [c] w (w.setCell ⟨c,1,none⟩ (.string x)):=by
 have hk:Kx [c] w (w.setCell ⟨c,1,none⟩ (.string x)):=Kx.set _ _ (by simp);exact⟨⟨Bj h.blk 1 (.string x),h.out.kx hk (λr hr hm=>by simp at hm;subst hm;exact h.o1 hr),h.ge,h.n1,h.n2,h.o1,h.o2,h.o3⟩,hk⟩
theorem CnI.more{V:Sv}{c:Nat}{vo:Value}{held:By}{out:L8}{rq:Nat}{cl:Bool}{w:World}(h:CnI V c vo held out rq cl w):CnI V c vo held out (rq+1) cl (w.setCell ⟨c,3,none⟩ (.int .i64 ((rq:Int)+1)))/\Kx [c] w (w.setCell ⟨c,3,none⟩ (.int .i64 ((rq:Int)+1))):=by
 have hk:Kx [c] w (w.setCell ⟨c,3,none⟩ (.int .i64 ((rq:Int)+1))):=Kx.set _ _ (by simp);exact⟨⟨Bj h.blk 3 (.int .i64 ((rq:Int)+1)),h.out.kx hk (λr hr hm=>by simp at hm;subst hm;exact h.o1 hr),h.ge,h.n1,h.n2,h.o1,h.o2,h.o3⟩,hk⟩
theorem Yu(l:L8)(s:By):(⟨l.toArray⟩:By)++s=⟨(l++s.data.toList).toArray⟩:=by
 apply ByteArray.ext;simp
theorem b7I{V:Sv}{C:Cf}{c:Nat}{vo:Value}{S0:Cs}{s:By}{w:World}{FIN:Cs}(hF:Ie C S0 s.data.toList=FIN)(I0:SvI V S0.hs w)(J0:CnI V c vo ⟨S0.held.toArray⟩ S0.out S0.rq S0.cl w)
  (hl:S0.hs.length=C.rs.length) (hb:∀x∈S0.hs,0<=x/\x+(S0.held.length+s.size:Nat)<=4611686018427387904) (ol:S0.out.length+(S0.held.length+s.size+1)*34000000<=140737488355328) (rb:S0.rq+(S0.held.length+s.size)<=4611686018427387904) (hz:S0.held.length+s.size<=2000000) :
  GvI V C c vo w FIN (S0.held.length+s.size+1) ⟨S0.held++s.data.toList,S0.out,S0.rq,S0.cl,S0.hs⟩ vo (w.setCell ⟨c,1,none⟩ (.string (⟨S0.held.toArray⟩++s))):=by
 have hsl:s.data.toList.length=s.size:=by simp
 have hll:(S0.held++s.data.toList).length=S0.held.length+s.size:=by rw[A0z,hsl]
 obtain⟨J1,k1⟩:=J0.hold (⟨S0.held.toArray⟩++s);have hJ:(⟨S0.held.toArray⟩:By)++s=⟨(S0.held++s.data.toList).toArray⟩:=Yu _ _;refine{eq:=?_,fu:=λ_=>by simp only[hll];omega,sv:=I0.far k1 J0.ge J0.n1 J0.n2,cn:=?_,kx:=k1.mono (λb hb=>.inl (by simp at hb;subst hb;simp)),ob:=λr hr=>.inl hr,hl:=hl,hb:=λx hx=>by simp only[hll];exact hb x hx,ol:=by simp only[hll];exact ol,rb:=by simp only[hll];exact rb,hz:=by simp only[hll];exact hz}
 ·rw[<-hF];unfold Ie;rw[hsl]
 ·rw[<-hJ];exact J1
theorem c5B{V:Sv}{C:Cf}{c:Nat}{vo0 vo:Value}{w wc w3 w4:World}{FIN S:Cs}{f:Nat}{e:Int}(I:GvI V C c vo0 w FIN (f+1) S vo wc)(hcl:S.cl=false)(he:noS e S=FIN)(hne:1<=S.held.length)(hb:Bw wc w3)(SN:SnI V c vo (Qw true ⟨S.held.toArray⟩) (S.out++Fr [] (Ec e) [] [] true) S.rq (true||S.cl) w3 w4):∃vo2,GvI V C c vo0 w FIN f (noS e S) vo2 w4:=by
 obtain⟨⟨vo2,J,ob⟩,kk⟩:=SN;have hz:=hb.size;have J3:=I.cn.below hb;have hn:=Ys e;have hvo:∀r,vo.ownBlock=some r->r≠V.s/\r≠V.h/\V.w1.heap.size<=r:=λr hr=>⟨λq=>I.cn.o2 (by rw[hr,q]),λq=>I.cn.o3 (by rw[hr,q]),(I.cn.out.lt hr).1⟩;have hL:∀b∈c::vo.ownBlock.toList,b≠V.s/\b≠V.h/\V.w1.heap.size<=b:=λb hb=>by
  simp only[C3z,B5z]at hb;rcases hb with rfl|hb
  ·exact⟨I.cn.n1,I.cn.n2,I.cn.ge⟩
  ·exact hvo b hb
 refine⟨vo2,a9K I hcl (by rw[Gj C f (noS e S) rfl];exact he) (by show 0+1<=_;omega) ((I.sv.below hb).kx kk (λb hb=>(hL b hb).2.2) (λh=>(hL _ h).1 rfl) (λh=>(hL _ h).2.1 rfl)) J ((Kx.of hb).trans (c1T kk) (λb hb=>.inl hb)) (λr hr=>?_) rfl (λx hx=>?_) (by show(S.out++_).length<=_;rw[A0z];omega) (by show S.rq<=S.rq+1;omega)⟩
 ·rcases ob r hr with q|q
  ·exact .inl q
  ·exact .inr (by omega)
 ·have h:=I.hb x hx;exact⟨h.1,by show x+((0:Nat):Int)<=_;omega⟩
theorem Yv(l:L8)(n:Nat):(ByteArray.mk l.toArray).extract n l.length=⟨(l.drop n).toArray⟩:=by
 apply ByteArray.ext;simp[ByteArray.data_extract];exact Aq (by simp)
theorem c3B{qb c:Nat}{vo:Value}(h:qb∉[c])(hv:∀r,vo.ownBlock=some r->r≠qb):qb∉c::vo.ownBlock.toList:=by
 simp only[C3z,List.not_mem_nil,or_false,B5z]at h ⊢;rintro(q|q)
 ·exact h q
 ·exact hv _ q rfl
theorem c3C{V:Sv}{C:Cf}{c:Nat}{vo0 vo:Value}{w wc W1 w5 w6:World}{FIN S:Cs}{f:Nat}{F:Ed}(I:GvI V C c vo0 w FIN (f+1) S vo wc)(hcl:S.cl=false)(he:Ch C f (Dd C F S)=FIN)(hs:FrSm S.held F)(kW:Kx [c] wc W1)(k5:Kx [V.s,V.h] W1.drew w5)(I5:SvI V (Fo (Eg C F).st (Eg C F).ro S.hs) w5)(hA:(Hd C F).length<=33000600)(SN:SnI V c vo (Qw (Ef C F).cl ⟨(S.held.drop F.2.2.2.2.2).toArray⟩) (S.out++Hd C F) (S.rq+1) ((Ef C F).cl||S.cl) w5 w6):∃vo2,GvI V C c vo0 w FIN f (Dd C F S) vo2 w6:=by
 obtain⟨⟨vo2,J,ob⟩,kk⟩:=SN;have z1:=kW.size;have z5:W1.heap.size<=w5.heap.size:=k5.size;have hu:=hs.u;have hv:=hs.v;have hL:∀b∈c::vo.ownBlock.toList,b≠V.s/\b≠V.h/\V.w1.heap.size<=b:=λb hb=>by
  simp only[C3z,B5z]at hb;rcases hb with rfl|hb
  ·exact⟨I.cn.n1,I.cn.n2,I.cn.ge⟩
  ·exact⟨λq=>I.cn.o2 (by rw[hb,q]),λq=>I.cn.o3 (by rw[hb,q]),(I.cn.out.lt hb).1⟩
 have kd:Kx [c] wc W1.drew:=kW.next (Ad _ _).drew;have K1:Kx (cnL V c vo) wc W1.drew:=kd.mono (λb hb=>.inl (by simp at hb;subst hb;simp));have K5:Kx (cnL V c vo) W1.drew w5:=k5.mono (λb hb=>.inl (by simp only[C3z,List.not_mem_nil,or_false]at hb;rcases hb with rfl|rfl<;>simp));have KK:=(K1.trans K5 (λ_ h=>.inl h)).trans (c1T kk) (λ_ h=>.inl h);have hev:(Dd C F S).held=(if(Ef C F).cl=true then[]else S.held.drop F.2.2.2.2.2)/\(Dd C F S).out=S.out++Hd C F/\(Dd C F S).rq=S.rq+1/\(Dd C F S).cl=((Ef C F).cl||S.cl)/\(Dd C F S).hs=Fo (Eg C F).st (Eg C F).ro S.hs:=by
  unfold Dd Ga
  cases(Ef C F).cl<;>simp
 obtain⟨v1,v2,v3,v4,v5⟩:=hev;have hll:(Dd C F S).held.length+1<=S.held.length:=by
  rw[v1];split
  ·simp;omega
  ·rw[A6z];omega
 refine⟨vo2,a9K I hcl he hll ?_ ?_ KK (λr hr=>?_) ?_ ?_ ?_ ?_⟩
 ·rw[v5];exact I5.kx kk (λb hb=>(hL b hb).2.2) (λh=>(hL _ h).1 rfl) (λh=>(hL _ h).2.1 rfl)
 ·rw[v2,v3,v4,v1];have e:(⟨(if(Ef C F).cl=true then[]else S.held.drop F.2.2.2.2.2).toArray⟩:By)=Qw (Ef C F).cl ⟨(S.held.drop F.2.2.2.2.2).toArray⟩:=by
   unfold Qw;cases(Ef C F).cl<;>rfl
  rw[e];exact J
 ·rcases ob r hr with q|q
  ·exact .inl q
  ·exact .inr (by omega)
 ·rw[v5,Xg]
 ·rw[v5];exact b7F I.hb (by omega)
 ·rw[v2,A0z];omega
 ·rw[v3];omega
theorem b7J{V:Sv}{C:Cf}{c:Nat}{vo0 vo:Value}{w wr w3:World}{FIN S:Cs}{g:Nat}(I:GvI V C c vo0 w FIN g S vo wr)(hS:S=FIN)(hb:Bw wr w3):
  ∃vo',SvI V FIN.hs (w3.setCell ⟨c,1,none⟩ (.string ⟨S.held.toArray⟩))/\CnI V c vo' ⟨FIN.held.toArray⟩ FIN.out FIN.rq FIN.cl (w3.setCell ⟨c,1,none⟩ (.string ⟨S.held.toArray⟩))/\Kx (cnL V c vo0) w (w3.setCell ⟨c,1,none⟩ (.string ⟨S.held.toArray⟩))/\∀r,vo'.ownBlock=some r->vo0.ownBlock=some r\/w.heap.size<=r:=by
 subst hS;have J:=I.cn.below hb;obtain⟨J1,k1⟩:=J.hold ⟨S.held.toArray⟩;exact⟨vo,(I.sv.below hb).far k1 J.ge J.n1 J.n2,J1,(I.kx.next hb).trans k1 (λb hb=>by simp at hb;subst hb;exact .inl (by simp)),I.ob⟩
theorem b7K{V:Sv}{C:Cf}{es:List Ent}{v vh vw:Value}{mx:Int}(ok:SvOk V C es v vh vw mx)(c:Nat)(vo:Value)(S0:Cs)(s:By)(w:World)(hc:S0.cl=false)(I0:SvI V S0.hs w)(J0:CnI V c vo ⟨S0.held.toArray⟩ S0.out S0.rq S0.cl w)
    (hl:S0.hs.length=C.rs.length) (hb:∀x∈S0.hs,0<=x/\x+(S0.held.length+s.size:Nat)<=4611686018427387904) (ol:S0.out.length+(S0.held.length+s.size+1)*34000000<=140737488355328) (rb:S0.rq+(S0.held.length+s.size)<=4611686018427387904) (hz:S0.held.length+s.size<=2000000) :
    Calls prog 120 #[.pointer (some ⟨c,0,none⟩),.string s] w λx w'=>x=.returned (.int .i64 0)/\∃vo',SvI V (Ie C S0 s.data.toList).hs w'/\CnI V c vo' ⟨(Ie C S0 s.data.toList).held.toArray⟩ (Ie C S0 s.data.toList).out (Ie C S0 s.data.toList).rq (Ie C S0 s.data.toList).cl w'/\Kx (cnL V c vo) w w'/\∀r,vo'.ownBlock=some r->vo.ownBlock=some r\/w.heap.size<=r:=by
  obtain⟨c0,c1,c2,c3,c4⟩:=J0.cells;rw[hc]at c4;have lc:=J0.lt;have z1:=Ai J0.blk 1;generalize hFIN:Ie C S0 s.data.toList=FIN;have HFIN:=hid hFIN;clear hFIN;have GI:=b7I HFIN.out I0 J0 hl hb ol rb hz;have HG:=hid GI;have hzs:(ByteArray.mk S0.held.toArray).size=S0.held.length:=by show S0.held.toArray.size=_;simp
  have hadd:¬(9223372036854775807<(ByteArray.mk S0.held.toArray).size+s.size):=by omega
  clear I0 J0 GI hl hb rb HFIN;go_enter func120,ntmps120;go_wp2_with fail
  go_step3
  go_wp2_with fail
  go_step3
  go_wp2_with fail
  go_loopg [5,6,7] (S0.held.length+s.size+1) (λg _ _ _ wr=>∃(S:Cs) (vo':Value),GvI V C c vo w FIN g S vo' wr)
  case atStart=>exact⟨_,_,HG.out⟩
  case round=>
    obtain⟨S,vo',I⟩:=hrel;obtain⟨d0,d1,d2,d3,d4⟩:=I.cn.cells;have ld:=I.cn.lt;have zd1:=Ai I.cn.blk 1;have zd3:=Ai I.cn.blk 3
    cases hcl:S.cl
    case true=>
      have hS:S=FIN:=by rw[<-I.eq,Gj C _ S hcl]
      rw[hcl]at d4;have HCL:=hid (λW=>Db ⟨S.held.toArray⟩ W (by show S.held.toArray.size<=_;have:=I.hz;simp;omega));have HE:=hid (λw3 hb=>b7J (w3:=w3) I hS hb);have HJ:=hid (λw3 (hb:Bw wr w3)=>I.cn.below hb);clear I hS;go_wp2_with fail;refine(HCL.out _).mono ?_;rintro x w3 ⟨rfl,hb3⟩;obtain⟨-,g1,-,-,-⟩:=(HJ.out w3 hb3).cells;have y1:=Ai (HJ.out w3 hb3).blk 1;have lg:=(HJ.out w3 hb3).lt;have HEE:=hid (HE.out w3 hb3);clear HE HJ HCL;go_wp2_with fail;rw[Exit.noGoto_ret];go_ret;exact⟨rfl,HEE.out⟩
    case false=>
     cases gk with
     |zero=>exact absurd (I.fu hcl) (by omega)
     |succ f=>
        rw[hcl]at d4;obtain⟨e0,e1,-,-,-,-⟩:=I.sv.cells;have le:=I.sv.ls;have le2:=I.sv.lh;have HF:=hid (λW (hb:Bw wr W)=>a2X V.hd V.bd S.held mx W (by rw[ok.hd,ok.bd];exact Mi ok.E) I.hz (Aa hb (I.sv.mx ok)));rw[ok.hd,ok.bd]at HF;have HI:=hid I;rw[ok.hd]at e0;rw[ok.bd]at e1;generalize hFF:Bi S.held C.hd C.bd=F at *
        have HFF:=hid hFF;clear I hFF;go_upto_region 5 with fail;go_cut [5,6,7]from 20 to 75 (λp n e wx=>∃qb fa cap,p=.pointer (some ⟨qb,0,none⟩)/\n=.int .i64 F.2.2.2.2.2/\e=.int .i64 F.1/\Hid (FqI F wr qb fa cap wx))
        case first=>
          go_region_held3 (λW=>Bw wr W/\W.cell? ⟨c,0,none⟩=some (.pointer (some ⟨V.s,0,none⟩))/\W.cell? ⟨c,1,none⟩=some (.string ⟨S.held.toArray⟩)/\W.cell? ⟨V.s,0,none⟩=some (.int .i64 C.hd)/\W.cell? ⟨V.s,1,none⟩=some (.int .i64 C.bd)) ((refine c5A d0 d1 e0 e1 ?_;first|exact(Ad _ _).drew|(have hh:=(‹_/\_/\_/\_/\_›).1;first|exact hh.alloc hh.size _|exact hh.drew|exact hB3|exact hB3.alloc hB3.size _|exact Pq hB3 _ _ _ _))) (first|(go_at_call 135;refine(HF.out (wr.drew.alloc (.cells rqZ 47)) (‹_/\_/\_/\_/\_›).1).mono ?_;rintro x w3 ⟨⟨fa,cap,rfl,fl3,far3⟩,hb3⟩;have hB3:=Bc (‹_/\_/\_/\_/\_›).1 hb3;have F3:=Fc (w1:=wr.drew) hb3;obtain⟨f0,f1,f2,f3,y0,y1,y2,y3⟩:=c0N hb3)|(go_at_call 135;refine(HF.out wr.drew (‹_/\_/\_/\_/\_›).1).mono ?_;rintro x w3 ⟨⟨fa,cap,rfl,fl3,far3⟩,hb3⟩;have hB3:=Bc (‹_/\_/\_/\_/\_›).1 hb3))
          all_goals (go_wp2_with fail;go_meet)
          all_goals first|exact⟨_,fa,cap,rfl,rfl,rfl,b7G hB3 fl3 far3 (Ac _)⟩|exact⟨_,fa,cap,rfl,rfl,rfl,c3A hB3 F3 fl3 (λg o e=>by have:=far3 g o e;simp at this;exact this)⟩
        case rest=>
          obtain⟨qb,fa,cap,rfl,rfl,rfl,HQ⟩:=hcut;obtain⟨hB,hge,hbk,hfl,hfar⟩:=HQ.out;have hvw:∀r,vo'.ownBlock=some r->r<wr.heap.size:=λr hr=>(HI.out.cn.out.lt hr).2;have Ic:=HI.out.below hB;have HIc:=hid Ic;have hzz:=hB.size;obtain⟨d0',d1',d2',d3',d4'⟩:=Ic.cn.cells;have ldc:=Ic.cn.lt;have zc1:=Ai Ic.cn.blk 1;have zc3:=Ai Ic.cn.blk 3;have hEQ:=Ic.eq;rw[Ch,if_neg (by rw[hcl];simp),HFF.out]at hEQ;by_cases h2:F.1=2
          · have b0:(F.1==0)=false:=by rw[h2];rfl
            have b2:(F.1==2)=true:=by rw[h2];rfl
            rw[if_pos h2]at hEQ;have HCL:=hid (λW=>Db ⟨S.held.toArray⟩ W (by show S.held.toArray.size<=_;have:=Ic.hz;simp;omega));have HE:=hid (λw3 hb=>b7J (w3:=w3) Ic hEQ hb);have HJ:=hid (λw3 (hb:Bw wc w3)=>Ic.cn.below hb);clear HI HIc Ic HQ hEQ HF h2 hbk hfl hfar;go_wp2_with fail;refine(HCL.out _).mono ?_;rintro x w3 ⟨rfl,hb3⟩;obtain⟨-,g1,-,-,-⟩:=(HJ.out w3 hb3).cells;have y1:=Ai (HJ.out w3 hb3).blk 1;have lg:=(HJ.out w3 hb3).lt;have HEE:=hid (HE.out w3 hb3);clear HE HJ HCL;go_wp2_with fail
            try rw[Exit.noGoto_ret]
            go_ret;exact⟨rfl,HEE.out⟩
          · rw[if_neg h2]at hEQ
            have hne:1<=S.held.length:=by
              rcases Nat.eq_zero_or_pos S.held.length with q|q
              · exfalso
                have e:S.held=[]:=Ay q;have h:=Kc (Mi ok.E);rw[<-e,HFF.out]at h;exact h2 h
              · exact q
            have b2:(F.1==2)=false:=by simpa using h2
            have lsc:=Ic.sv.ls;have lhc:=Ic.sv.lh;have lvc:=Ic.sv.bel.size;have htb:=hid (λW (hW:Below V.w1.heap.size V.w1 W)=>Lib.tabBelow_of_tabIs (ok.tab W hW));by_cases h0:F.1=0
            · rw[if_pos h0]at hEQ
              have b0:(F.1==0)=true:=by rw[h0];rfl
              have hsm:FrSm S.held F:=by have:=Dh S.held C.hd C.bd (by rw[HFF.out];exact h0);rw[HFF.out]at this;exact this
              have hu1:=hsm.u;have hu2:=hsm.v;have n0:(0:Int)<=(F.2.2.2.2.2:Int):=by omega
              have hsz:(ByteArray.mk S.held.toArray).size=S.held.length:=by show S.held.toArray.size=_;simp
              have n1:(F.2.2.2.2.2:Int)<=((ByteArray.mk S.held.toArray).size:Int):=by omega
              have hrb:=Ic.rb;have r0:(0:Int)<=(S.rq:Int)+1:=by omega
              have r1:(S.rq:Int)+1<=9223372036854775807:=by omega
              obtain⟨Ja,ka⟩:=Ic.cn.hold ⟨(S.held.drop F.2.2.2.2.2).toArray⟩;obtain⟨J1,kb⟩:=Ja.more;have kW:=ka.trans kb (λ_ h=>.inl h);have hqc:qb∉[c]:=by simp;omega
              have I1:=Ic.sv.far kW Ic.cn.ge Ic.cn.n1 Ic.cn.n2;have Q1:=kW.heap hbk hqc;have fl1:=a2V hfl kW (λg o e=>by have:=hfar g o e;simp;omega);have hex:(ByteArray.mk S.held.toArray).extract F.2.2.2.2.2 S.held.length=⟨(S.held.drop F.2.2.2.2.2).toArray⟩:=Yv _ _;clear HI HQ HF Ja ka kb;go_wp2_with fail;clear hex;generalize (wc.setCell ⟨c,1,none⟩ (.string ⟨(S.held.drop F.2.2.2.2.2).toArray⟩)).setCell ⟨c,3,none⟩ (.int .i64 ((S.rq:Int)+1))=W1 at *
              have hdr:Bw W1 W1.drew:=(Ad _ _).drew;obtain⟨f1,f2⟩:=Kb hsm;have hAS:=a7G ok S.held Ic.hz (by rw[HFF.out];exact h0);rw[HFF.out]at hAS;obtain⟨hAB,hAL⟩:=hAS;have hzh:=Ic.hz;have hmm:=hsm.m;have htt:=hsm.t;have hbb:=hsm.b;have hnq:qb∉[V.s,V.h]:=by simp;omega
              have hnc:c∉[V.s,V.h]:=by have:=Ic.cn.n1;have:=Ic.cn.n2;simp;omega
              have hno:∀r,vo'.ownBlock=some r->r∉[V.s,V.h]:=λr hr=>by
                simp only[C3z,List.not_mem_nil,or_false];rintro(rfl|rfl)
                · exact Ic.cn.o2 hr
                · exact Ic.cn.o3 hr
              have hqv:∀r,vo'.ownBlock=some r->r≠qb:=λr hr=>by have:=(HIc.out.cn.out.lt hr).2;have:=(hvw r hr);omega
              have Q1d:W1.drew.heap[qb]?=some (.cells (rqF F fa cap) 47 (0,0)):=Q1;have J1d:=J1.below hdr;obtain⟨cd0,-,-,-,-⟩:=J1d.cells;have lW:=hid kW;have HAN:=hid (a7F ok S.hs (λx hx=>by have:=Ic.hb x hx;omega) Ic.hl ⟨F.2.1.toArray⟩ ⟨F.2.2.1.toArray⟩ ⟨F.2.2.2.2.1.toArray⟩ (Bq F.2.2.2.1) fa cap W1.drew (I1.below hdr) (fl1.below hdr) f1 f2 (by show F.2.1.toArray.size<=_;simp;omega) (by show F.2.2.1.toArray.size<=_;simp;omega) (by show F.2.2.2.2.1.toArray.size<=_;simp;omega) (λg o e=>by have:=hfar g o e;omega));have hol:=Ic.ol;have HSN:=hid (λw5 pa pc (k5:Kx [V.s,V.h] W1.drew w5) (I5:SvI V (Fo (Eg C F).st (Eg C F).ro S.hs) w5) (ow:w5.ownsRow W1.drew.heap.size 131 2 (.slice pa (Ef C F).fs.length pc) (Ef C F).fs.length (Bg (Ef C F).fs))=>a2W V c vo' ⟨(S.held.drop F.2.2.2.2.2).toArray⟩ S.out (S.rq+1) S.cl ⟨F.2.1.toArray⟩ (Ef C F) hAB pa pc w5 (J1d.kx k5 hnc hno) I5.ls I5.lh I5.bel.size (Nb ow) (by show S.out.length+(Hd C F).length<=_;omega) (htb.out w5 I5.bel));have HN:=hid (λw5 w6 k5 I5 (SN:SnI V c vo' (Qw (Ef C F).cl ⟨(S.held.drop F.2.2.2.2.2).toArray⟩) (S.out++Hd C F) (S.rq+1) ((Ef C F).cl||S.cl) w5 w6)=>c3C Ic hcl hEQ hsm kW (W1:=W1) (w5:=w5) k5 I5 hAL SN);have HJ1:=hid J1d;clear Ic HIc hEQ hbk hfl hfar HFF htb hol hAB J1 J1d Q1 fl1 I1 kW hsm
              go_region_held3 (λW=>W.cell? ⟨qb,0,none⟩=some (.string ⟨F.2.1.toArray⟩)/\W.cell? ⟨qb,1,none⟩=some (.string ⟨F.2.2.1.toArray⟩)/\W.cell? ⟨qb,2,none⟩=some (.slice fa (Bq F.2.2.2.1).length cap)/\W.cell? ⟨qb,3,none⟩=some (.string ⟨F.2.2.2.2.1.toArray⟩)/\W.cell? ⟨c,0,none⟩=some (.pointer (some ⟨V.s,0,none⟩))) (first|exact b7H Q1d cd0|exact b7H B5 c5|exact b7H B6 c6) (first|(go_at_call 173;refine HAN.out.mono ?_;rintro x w5 ⟨⟨pa,pc,rfl,ow⟩,I5,k5⟩;have B5:=k5.heap Q1d hnq;obtain⟨c5,-,-,-,-⟩:=(HJ1.out.kx k5 hnc hno).cells)|(go_at_call 172;refine(HSN.out _ _ _ k5 I5 ow).mono ?_;rintro x w6 ⟨rfl,SN⟩;have B6:=SN.k.heap B5 (c3B hqc hqv);obtain⟨vo2,J6,-⟩:=SN.i;obtain⟨c6,-,-,-,-⟩:=J6.cells;clear J6))
              have HX:=hid (HN.out _ _ k5 I5 SN);clear HN SN HSN HAN k5 I5 ow B5 B6 c5 c6;go_wp2_with fail
              go_roundg f
              case measure=>omega
              case rel=>exact⟨_,HX.out⟩
            · rw[if_neg h0]at hEQ
              have b0:(F.1==0)=false:=by simpa using h0
              have HRF:=hid (λW=>a2T F.1 W);have hAB:AnsB ⟨Ec F.1,[],⟨#[]⟩,true,0⟩:=⟨(Ll F.1).1,(Ll F.1).2,(by show(0:Nat)<=50000000;omega),(by show(0:Nat)+0<=33000000;omega)⟩;have hol:=Ic.ol;have hnl:=Ys F.1;have HSN:=hid (λw3 (hb:Bw wc w3)=>a2W V c vo' ⟨S.held.toArray⟩ S.out S.rq S.cl ⟨#[]⟩ ⟨Ec F.1,[],⟨#[]⟩,true,0⟩ hAB none 0 w3 (Ic.cn.below hb) (Af lsc hb.size) (Af lhc hb.size) (Aj lvc hb.size) (λi hi=>absurd hi (by simp)) (by show S.out.length+(Fr [] (Ec F.1) [] [] true).length<=_;omega) (htb.out w3 (Ic.sv.below hb).bel));have HN:=hid (λw3 w4 (hb:Bw wc w3) (SN:SnI V c vo' (Qw true ⟨S.held.toArray⟩) (S.out++Fr [] (Ec F.1) [] [] true) S.rq (true||S.cl) w3 w4)=>c5B Ic hcl hEQ hne hb SN);clear HI HIc Ic HQ hEQ HF h2 hbk hfl hfar HFF htb hol hAB;go_wp2_with fail;refine(HRF.out _).mono ?_;rintro x w3 ⟨rfl,hb3⟩;have HSS:=hid (HSN.out w3 hb3);clear HRF HSN;go_wp2_with fail;refine HSS.out.mono ?_;rintro x w4 ⟨rfl,SN⟩;have HX:=hid (HN.out w3 w4 hb3 SN);clear HN HSS SN;go_wp2_with fail
              go_roundg f
              case measure=>omega
              case rel=>exact⟨_,HX.out⟩
def okE(e:Int):Prop:=e=0\/e=2\/e=3\/e=4\/e=5\/e=6\/e=7
theorem a7K(l:L8)(lim:Nat)(long:Int)(h:okE long):okE (Pm.a2g l lim long).1:=by
 unfold Pm.a2g
 split
 ·simp only
  split
  ·simp[okE]
  ·exact h
 ·split<;>simp[okE]
theorem c0O(l:L8):okE (Pm.a1f l).1:=by
 unfold Pm.a1f
 repeat' split
 all_goals simp[okE]
theorem c3D(f:Nat):∀(first:Bool) (l:L8) (lim:Nat) (m tg:L8) (fs:List Pm.Fld) (u:Nat),okE (Pm.a1o f first l lim m tg fs u).1:=by
 induction f with
 |zero=>intro first l lim m tg fs u;exact .inr (.inl rfl)
 |succ f ih=>
  intro first l lim m tg fs u
  rw[Dc];have hl:=a7K l lim 5 (by unfold okE;decide)
  split
  ·exact hl
  split
  ·split
   ·exact c0O _
   ·exact ih _ _ _ _ _ _ _
  split
  ·exact .inl rfl
  ·cases h5:Pm.a1d (Pm.a2g l lim 5).2.1 with
   |none=>exact .inr (.inr (.inl rfl))
   |some f'=>exact ih _ _ _ _ _ _ _
theorem c0P(f:Nat):∀(l:L8) (lim u:Nat),okE (Pm.a4t f l lim u).1:=by
 induction f with
 |zero=>intro l lim u;exact .inr (.inl rfl)
 |succ f ih=>
  intro l lim u;rw[Pm.a4u];have hl:=a7K l lim 5 (by unfold okE;decide)
  split
  ·exact hl
  split
  ·exact .inl rfl
  split
  ·exact ih _ _ _
  ·exact .inr (.inr (.inl rfl))
theorem c3E(l:L8):okE (Dr l):=by
 unfold Dr
 split
 ·split<;>simp[okE]
 ·exact a7K l 10 3 (by unfold okE;decide)
theorem c0Q(l:L8)(n:Nat)(room:Int):okE (Br l n room).1:=by
 unfold Br
 repeat' split
 all_goals simp[okE]
theorem c3F(hosts:Nat)(lens cods:List (List UInt8))(most:Int):okE (Jf hosts lens cods most).1:=by
 unfold Jf
 repeat' split
 all_goals simp[okE]
theorem b7L(hd:Nat)(bd:Int)(f:Nat):∀(l body:L8) (u:Nat),okE (Cx f l hd bd body u).1:=by
 induction f with
 |zero=>intro l body u;exact .inr (.inl rfl)
 |succ f ih=>
  intro l body u;rw[Dw];have h1:=c3E l
  split
  ·exact h1
  split
  ·have h2:=c0Q (l.drop (Pm.a2g l 10 3).2.2) (Ci l).toNat (bd-body.length);generalize Br (l.drop (Pm.a2g l 10 3).2.2) (Ci l).toNat (bd-body.length)=K at *
   split
   ·exact h2
   ·exact ih _ _ _
  ·have h2:=c0P (hd+1) (l.drop (Pm.a2g l 10 3).2.2) hd 0;generalize Pm.a4t (hd+1) (l.drop (Pm.a2g l 10 3).2.2) hd 0=K at *
   split
   ·exact h2
   ·exact .inl rfl
theorem c3G(l:L8)(hd:Nat)(bd:Int)(c:Bool)(n:Nat):okE (Dl l hd bd c n).1:=by
 unfold Dl
 split
 ·exact b7L hd bd _ _ _ _
 split
 ·exact .inr (.inl rfl)
 ·exact .inl rfl
theorem c0R(l:L8)(hd bd:Int)(hr:32<=hd/\hd<=500/\0<=bd/\bd<=200):okE (Bi l hd bd).1:=by
 unfold Bi;rw[if_pos hr];unfold Cc;have h1:=c3D (hd.toNat+1) true l hd.toNat [] [] [] 0;generalize Pm.a1o (hd.toNat+1) true l hd.toNat [] [] [] 0=H at *
 simp only
 split
 ·exact h1
 have h2:okE (Cr (Bq H.2.2.2.1) bd).1:=c3F _ _ _ _;generalize Cr (Bq H.2.2.2.1) bd=G at *
 split
 ·exact h2
 have h3:=c3G (l.drop H.2.2.2.2) hd.toNat bd G.2.1 G.2.2.toNat;generalize Dl (l.drop H.2.2.2.2) hd.toNat bd G.2.1 G.2.2.toNat=K at *
 split
 ·exact h3
 ·exact .inl rfl
end Go.Proofs.YtbiggccolpchcaaGreatDoor
