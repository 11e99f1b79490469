/- Joined. -/
import Derived.Test.YtbiggccolpchcaaGreatDoorJoin45
import Derived.Test.YtbiggccolpchcaaGreatDoorJoin46
set_option maxRecDepth 100000
set_option maxHeartbeats 2000000
namespace Go.Proofs.YtbiggccolpchcaaGreatDoor
open Go.RowKit Bn _root_.Go.Proofs.Tryz
theorem a3U{C:Cf}(ok:CfOk C):Bk C []=⟨[],[],0,false,Ig C⟩:=by
 have:=a3C C (Ig C) (Mi ok.E);unfold Oi Cs.behind at this;unfold Bk;simpa using this
theorem b8L(C:Cf):Ig C=List.replicate C.rs.length 0:=by
 apply F8z
 ·simp[Ig]
 ·intro i h1 h2;simp[Ig]
section
variable{O:Nat->Option (Nat×Tg)}{i:Nat}{H:Hs}{w0 w w1 w2:World}{mx:Int}{B0:Nat}
def Hs.more(H:Hs)(k:Con)(vc:Value):Hs:={H with cs:=H.cs++[k],vc:=vc}
theorem c1E(ok:CfOk H.C)(k:Con)(vc:Value)(hk:k.B=[]):(H.more k vc).hs=H.hs:=by
 unfold Hs.hs Hs.more;simp only[B2z,B1z,E0z,hk,a3U ok];rw[b8L];exact Wo _ _ (λx hx=>by
  obtain⟨k,-,rfl⟩:=List.mem_map.1 hx;exact Gk _ _)
theorem HsI.open_(h:HsI B0 O i H w)(hlt:∀b t,O b=some (i,t)->b<w.heap.size)(hge:∀b t,O b=some (i,t)->B0<=b)(hb1:Bw w w1)(hz1:w1.heap.size=w.heap.size+2)
  (hc:w1.heap[w.heap.size]?=some (.cells #[.pointer (some ⟨H.s,0,none⟩),.string ⟨#[]⟩,.slice none 0 0,.int .i64 0,.bool false] 255 (0,0))) (hp:Lo (w.heap.size+1) w.heap.size w1)
  (R:RoX H.sr B0 H.cs.length (H.cs.map Con.rc) H.vc (.int .i64 H.C.hd) (.int .i64 H.C.bd) (.slice H.ar H.C.rs.length H.cr) (.slice H.aw H.C.ws.length H.cw) (.pointer (some ⟨H.gt,0,none⟩)) w1 w2) :
  ∃O' k vc,StepH B0 O i H w O' (H.more k vc) w2/\k.pc=w.heap.size+1/\k.B=[]:=by
 obtain⟨rk,rc,g,cap,rb,rr,rg⟩:=R;have h0:=h.b0;have ok:=h.rs.ok;have hvl:∀r,H.vc.ownBlock=some r->r<w.heap.size:=λr hr=>hlt r _ (h.ow r hr);have hsl:=hlt _ _ h.or_;have sz2:=rk.size;have sz1:=hb1.size;have hW:∀b,b<w1.heap.size->b≠H.sr->H.vc.ownBlock≠some b->w2.heap[b]?=w1.heap[b]?:=λb hl n1 n2=>rk.2 b hl (by
  rw[C3z,B5z,not_or];exact⟨n1,n2⟩)
 have hO1:∀b t,O b=some (i,t)->t≠.ref->t≠.crow->w2.heap[b]?=w.heap[b]?:=λb t ht n1 n2=>by
  have hl:=hlt b t ht;rw[hW b (by omega) (λe=>by rw[e,h.or_]at ht;cases ht;exact n1 rfl) (λe=>by rw[h.ow b e]at ht;cases ht;exact n2 rfl),hb1.block b hl]
 have hkp:∀b,b<w.heap.size->(∀t,O b≠some (i,t))->w2.heap[b]?=w.heap[b]?:=λb hl hn=>by
  rw[hW b (by omega) (λe=>hn _ (by rw[e];exact h.or_)) (λe=>hn _ (h.ow b e)),hb1.block b hl]
 have hB:∀b,b<B0->w2.heap[b]?=w.heap[b]?:=λb hl=>hkp b (by omega) (λt e=>by have:=hge b t e;omega);have hgl:g<w2.heap.size:=(Cb rr g rfl).2;have hO:∀b,b<w.heap.size->(if b<w.heap.size then O b else if b=w.heap.size then some (i,Tg.con H.cs.length)else if b=w.heap.size+1 then some (i,Tg.pcn H.cs.length)else if b=w.heap.size+2 then some (i,Tg.rcn H.cs.length)else if b=g then some (i,Tg.crow)else none)=O b:=λb hb=>if_pos hb;refine⟨λb=>if b<w.heap.size then O b else if b=w.heap.size then some (i,Tg.con H.cs.length)else if b=w.heap.size+1 then some (i,Tg.pcn H.cs.length)else if b=w.heap.size+2 then some (i,Tg.rcn H.cs.length)else if b=g then some (i,Tg.crow)else none,⟨w.heap.size,w.heap.size+1,.slice none 0 0,w.heap.size+2,[],0,false,false⟩,.slice (some ⟨g,0,none⟩) (H.cs.length+1) cap,?_,rfl,rfl⟩;have hr:=h.retag hO;have hhs:=c1E ok ⟨w.heap.size,w.heap.size+1,.slice none 0 0,w.heap.size+2,[],0,false,false⟩ (.slice (some ⟨g,0,none⟩) (H.cs.length+1) cap) rfl;refine⟨?_,by omega,⟨rk.1.os.trans hb1.os,rk.1.tape.trans hb1.tape,rk.1.output.trans hb1.output⟩,hkp,hO,λb hb t ht=>?_,rfl,rfl⟩
 ·refine{st:=?_,eb:=h.eb,sb:=?_,hb:=?_,pb:=?_,rs:=?_,row:=?_,cs:=λq hq=>?_,m0:=h.m0,ms:=h.ms,mh:=h.mh,mg:=h.mg,og:=hr.og,os:=hr.os,oh:=hr.oh,op:=hr.op,or_:=hr.or_,ot:=hr.ot,oa:=hr.oa,ow:=λb hb=>?_,cg:=λg o e=>Af (h.cg g o e) (by omega)}
  ·exact h.st.move (λb hb=>hO1 b _ (h.og b hb) (by simp) (by simp))
  ·rw[hhs];show w2.heap[H.s]?=_;rw[hO1 _ _ h.os (by simp) (by simp)];exact h.sb
  ·rw[hhs];show w2.heap[H.h]?=_;rw[hO1 _ _ h.oh (by simp) (by simp)];exact h.hb
  ·show w2.heap[H.ps]?=_;rw[hO1 _ _ h.op (by simp) (by simp)];exact h.pb
  ·have hm:=h.rs;exact⟨rb,hm.tr.move (hO1 _ _ (h.ot _ (.inl rfl)) (by simp) (by simp)) (λr hr=>hO1 r _ (h.ot r (.inr hr)) (by simp) (by simp)),hm.sp,hm.eb,hm.ez,hm.rr.move (λg o e=>by
    rcases h.oa g o (.inl e)with q|q
    ·exact hB g q
    ·exact hO1 g _ q (by simp) (by simp)),hm.ww.move (λg o e=>by
    rcases h.oa g o (.inr e)with q|q
    ·exact hB g q
    ·exact hO1 g _ q (by simp) (by simp)),hm.kw,hm.ok⟩
  ·have e:(H.more ⟨w.heap.size,w.heap.size+1,.slice none 0 0,w.heap.size+2,[],0,false,false⟩ (.slice (some ⟨g,0,none⟩) (H.cs.length+1) cap)).cs.map Con.rc=H.cs.map Con.rc++[w1.heap.size]:=by simp[Hs.more,hz1]
   have e2:(H.more ⟨w.heap.size,w.heap.size+1,.slice none 0 0,w.heap.size+2,[],0,false,false⟩ (.slice (some ⟨g,0,none⟩) (H.cs.length+1) cap)).cs.length=H.cs.length+1:=by simp[Hs.more]
   rw[e,e2];exact rr
  ·have hq2:q<(H.cs++[(⟨w.heap.size,w.heap.size+1,.slice none 0 0,w.heap.size+2,[],0,false,false⟩:Con)]).length:=hq;rw[A0z]at hq2;by_cases hq3:q<H.cs.length
   ·have e:(H.more ⟨w.heap.size,w.heap.size+1,.slice none 0 0,w.heap.size+2,[],0,false,false⟩ (.slice (some ⟨g,0,none⟩) (H.cs.length+1) cap)).cs[q]'hq=H.cs[q]:=B4z hq3;rw[e];have c:=hr.cs q hq3;have c0:=h.cs q hq3;refine⟨?_,c.out.keep (λr hr2=>hO1 r _ (c0.oo r hr2) (by simp) (by simp)),?_,?_,c.ge,c.fe,c.tk,c.oc,c.op,c.oo,c.or_,c.rg⟩
    ·rw[hO1 _ _ c0.oc (by simp) (by simp)];exact c0.blk
    ·show w2.heap[(H.cs[q]).pc]?=_;rw[hO1 _ _ c0.op (by simp) (by simp)];exact c0.pa
    ·show w2.heap[(H.cs[q]).rc]?=_;rw[hO1 _ _ c0.or_ (by simp) (by simp)];exact c0.rb
   ·have hqe:q=H.cs.length:=by simp at hq2;omega
    subst hqe;have e:(H.more ⟨w.heap.size,w.heap.size+1,.slice none 0 0,w.heap.size+2,[],0,false,false⟩ (.slice (some ⟨g,0,none⟩) (H.cs.length+1) cap)).cs[H.cs.length]'hq=⟨w.heap.size,w.heap.size+1,.slice none 0 0,w.heap.size+2,[],0,false,false⟩:=List.getElem_concat_length rfl _;rw[e];have hne:∀b,w.heap.size<=b->b<w1.heap.size->w2.heap[b]?=w1.heap[b]?:=λb h1 h2=>hW b h2 (by omega) (λe=>by have:=hvl b e;omega);have hpl:=a3U ok;refine⟨?_,?_,?_,?_,Aj h.ml (Ac _),(λe=>by cases e),Ah _,?_,?_,(λr hr2=>by simp[Value.ownBlock]at hr2),?_,?_⟩
    ·show w2.heap[w.heap.size]?=_;rw[hne _ (Ac _) (by omega),hc];simp only[Con.held,Con.cl];show _=some (Obj.cells #[_,.string ⟨(if false=true then[]else(Bk H.C []).held).toArray⟩,_,.int .i64 (Bk H.C []).rq,.bool (false||(Bk H.C []).cl)] _ _);rw[hpl];rfl
    ·have e3:En H.C [] false 0=[]:=by unfold En;rw[hpl];rfl
     show Ex H.m 5 (.slice none 0 0) (Lib.byteCells (En H.C [] false 0)) w2;rw[e3];exact Ex.nil _ _ _
    ·show w2.heap[w.heap.size+1]?=_;rw[hne _ (by omega) (by omega)];exact hp
    ·show w2.heap[w.heap.size+2]?=_;rw[<-hz1];exact rc
    ·show(if w.heap.size<w.heap.size then _ else _)=_;rw[if_neg (by omega),if_pos rfl]
    ·show(if w.heap.size+1<w.heap.size then O (w.heap.size+1)else if w.heap.size+1=w.heap.size then some (i,Tg.con H.cs.length)else if w.heap.size+1=w.heap.size+1 then some (i,Tg.pcn H.cs.length)else if w.heap.size+1=w.heap.size+2 then some (i,Tg.rcn H.cs.length)else if w.heap.size+1=g then some (i,Tg.crow)else none)=_;rw[if_neg (by omega),if_neg (by omega),if_pos rfl]
    ·show(if w.heap.size+2<w.heap.size then O (w.heap.size+2)else if w.heap.size+2=w.heap.size then some (i,Tg.con H.cs.length)else if w.heap.size+2=w.heap.size+1 then some (i,Tg.pcn H.cs.length)else if w.heap.size+2=w.heap.size+2 then some (i,Tg.rcn H.cs.length)else if w.heap.size+2=g then some (i,Tg.crow)else none)=_;rw[if_neg (by omega),if_neg (by omega),if_neg (by omega),if_pos rfl]
    ·show H.m<=w.heap.size+2;have:=h.ml;omega
  ·have hbg:b=g:=by
    have e:(Value.slice (some ⟨g,0,none⟩) (H.cs.length+1) cap).ownBlock=some b:=hb;simpa[Value.ownBlock]using e.symm
   subst hbg;show(if b<w.heap.size then O b else if b=w.heap.size then some (i,Tg.con H.cs.length)else if b=w.heap.size+1 then some (i,Tg.pcn H.cs.length)else if b=w.heap.size+2 then some (i,Tg.rcn H.cs.length)else if b=b then some (i,Tg.crow)else none)=_;rcases rg with q|q
   ·rw[if_pos (hvl b q)];exact h.ow b q
   ·rw[if_neg (by omega),if_neg (by omega),if_neg (by omega),if_neg (by omega),if_pos rfl]
 ·have ht:(if b<w.heap.size then O b else if b=w.heap.size then some (i,Tg.con H.cs.length)else if b=w.heap.size+1 then some (i,Tg.pcn H.cs.length)else if b=w.heap.size+2 then some (i,Tg.rcn H.cs.length)else if b=g then some (i,Tg.crow)else none)=some t:=ht;have hrc2:w.heap.size+2<w2.heap.size:=by rw[<-hz1];exact heap_lt rc
  rw[if_neg (by omega)]at ht
  split at ht
  ·cases ht;exact⟨rfl,by omega⟩
  split at ht
  ·cases ht;exact⟨rfl,by omega⟩
  split at ht
  ·cases ht;exact⟨rfl,by omega⟩
  split at ht
  ·cases ht;exact⟨rfl,by omega⟩
  ·cases ht
theorem b3H(h:HsI B0 O i H w)(hlt:∀b t,O b=some (i,t)->b<w.heap.size)(hge:∀b t,O b=some (i,t)->B0<=b)(hn:H.cs.length<=1000000):
  Calls prog 53 #[.pointer (some ⟨H.ps,0,none⟩)] w λx w1=>x=.returned (.pointer (some ⟨w.heap.size+1,0,none⟩))/\Bw w w1 /\
   Calls prog 54 #[.pointer (some ⟨H.sr,0,none⟩)] w1 λy w2=>y=.returned (.int .i64 H.cs.length)/\∃O' k vc,StepH B0 O i H w O' (H.more k vc) w2/\k.pc=w.heap.size+1/\k.B=[]:=by
 refine(b2Q (H.V w) H.ps w h.pb).mono ?_;rintro x w1 ⟨rfl,rfl⟩;have hA1:=bA w (.cells (cnC (H.V w) ⟨#[]⟩ (.slice none 0 0) 0 false) 255);have hA2:=hA1.alloc hA1.size (.cells #[.pointer (some ⟨w.heap.size,0,none⟩)] 206);have b1:=Ag w (.cells (cnC (H.V w) ⟨#[]⟩ (.slice none 0 0) 0 false) 255);have z1:(w.alloc (.cells (cnC (H.V w) ⟨#[]⟩ (.slice none 0 0) 0 false) 255)).heap.size=w.heap.size+1:=by simp
 have b2:=Ag (w.alloc (.cells (cnC (H.V w) ⟨#[]⟩ (.slice none 0 0) 0 false) 255)) (.cells #[.pointer (some ⟨w.heap.size,0,none⟩)] 206);rw[z1]at b2;have z2:((w.alloc (.cells (cnC (H.V w) ⟨#[]⟩ (.slice none 0 0) 0 false) 255)).alloc (.cells #[.pointer (some ⟨w.heap.size,0,none⟩)] 206)).heap.size=w.heap.size+2:=by simp
 have b1':((w.alloc (.cells (cnC (H.V w) ⟨#[]⟩ (.slice none 0 0) 0 false) 255)).alloc (.cells #[.pointer (some ⟨w.heap.size,0,none⟩)] 206)).heap[w.heap.size]?=some (.cells (cnC (H.V w) ⟨#[]⟩ (.slice none 0 0) 0 false) 255 (0,0)):=by
  rw[Ba _ _ _ (by rw[z1];omega)];exact b1
 generalize (w.alloc (.cells (cnC (H.V w) ⟨#[]⟩ (.slice none 0 0) 0 false) 255)).alloc (.cells #[.pointer (some ⟨w.heap.size,0,none⟩)] 206)=w1 at *
 have hrs:=h.rs.below hA2;refine⟨rfl,hA2,?_⟩;have ho:w1.ownsRow B0 202 1 H.vc (H.cs.map Con.rc).length (Pv (H.cs.map Con.rc)):=by rw[A8z];exact Be h.row hA2
 have RO:=b3A H.sr B0 (H.cs.map Con.rc) H.vc _ _ _ _ _ w1 hrs.blk ho (by simpa using hn) (λe=>by
  have:=h.ow _ e;rw[h.or_]at this;cases this) (Aj h.b0 hA2.size)
 rw[A8z]at RO;refine RO.mono ?_;rintro y w2 ⟨rfl,R⟩;exact⟨rfl,h.open_ hlt hge hA2 z2 b1' b2 R⟩
theorem b3I(h:HsI B0 O i H w)(hz:H.sumB<=1900000)(hn:H.cs.length<=1000000):
  Calls prog 49 #[.pointer (some ⟨H.ps,0,none⟩)] w λx w1=>∃v,x=.returned v/\w1.ownsRow w.heap.size 3 1 v H.hs.length (H.hs.map (Value.int .i64))/\Bw w w1/\∀W,Bw w W ->
   Calls prog 50 #[.pointer (some ⟨H.sr,0,none⟩)] W λy w2=>y=.returned (.slice (some ⟨W.heap.size,0,none⟩) H.hs.length H.hs.length)/\HtI W H.hs w2:=by
 have hl:=a7X H;have h24:=(Iv h.rs.ok.E).1;refine(a7S (H.V w) H.ps H.hs w h.pb h.svi (by omega)).mono ?_;rintro x w1 ⟨⟨v,rfl,ow⟩,I1,k1⟩;have hb1:Bw w w1:=⟨k1.1.os,k1.1.tape,k1.1.output,k1.size,λb hb=>by
  by_cases e:b=H.s
  ·rw[e,h.sb];exact I1.blk
  ·exact k1.2 b hb (by intro hm;rw[C4z]at hm;exact e hm)⟩
 refine⟨v,rfl,ow,hb1,λW hW=>?_⟩;have ho:W.ownsRow B0 202 1 H.vc (H.cs.map Con.rc).length (Pv (H.cs.map Con.rc)):=by rw[A8z];exact Be h.row hW
 have RH:=b3B (H.cs.map Con.rc) (H.cs.map Con.B) W (h.rs.below hW) ho (by simpa using hn) (by simp) (λk h1 h2=>by
  have hk:k<H.cs.length:=by simpa using h1
  refine⟨(H.cs[k]).en,(H.cs[k]).fa,(H.cs[k]).tk,?_⟩;simp only[List.getElem_map];unfold RcB;rw[hW.block _ (heap_lt (h.cs k hk).rb)];exact(h.cs k hk).rb) (by rw[E6z];unfold Hs.sumB at hz;exact Aj hz (by omega))
 rw[E6z]at RH;rw[hl];exact RH
end
def Zs(B0:Nat)(O:Nat->Option (Nat×Tg))(vh vl:Value)(hs:List Hs)(ls:List Ln):Wz.Zt:=⟨vh,vl,HI B0 O vh vl hs ls,λb=>∃t,O b=some t⟩
theorem a9U(B0:Nat)(O:Nat->Option (Nat×Tg))(vh vl:Value)(hs:List Hs)(ls:List Ln):∀u u',(Zs B0 O vh vl hs ls).I u->Below B0 u u'->(∀b,(Zs B0 O vh vl hs ls).F b->u'.heap[b]?=u.heap[b]?)->(Zs B0 O vh vl hs ls).I u':=λ_ _ h hb hk=>
 HI.stay h (λb hl=>hb.block b hl) (λb t ht=>hk b ⟨t,ht⟩)
section
variable{B0:Nat}{O:Nat->Option (Nat×Tg)}{vh vl:Value}{hs:List Hs}{ls:List Ln}{w w1 w3:World}
theorem HI.add(h:HI B0 O vh vl hs ls w){On:Nat->Option (Nat×Tg)}{H:Hs}(hb:Bw w w1)(N:HsI B0 On (hs.length+1) H w1)
  (hOn:∀b t,On b=some t->t.1=hs.length+1/\b<w1.heap.size/\B0<=b/\(w.heap.size<=b\/O b=none))
  {o:Obj} {g cap:Nat} (hg:(w1.alloc o).grownBy w3 vh.ownBlock) (hat:vh.ownBlock=some g\/g=(w1.alloc o).heap.size) (how:w3.ownsRow B0 66 2 (.slice (some ⟨g,0,none⟩) (hs.length+1) cap) (hs.length+1) (hsP hs++[.pointer (some ⟨H.ps,0,none⟩),.pointer (some ⟨H.sr,0,none⟩)]))
  {wb:Nat} (hwb:O wb=none) (hwn:On wb=none) (hwl:wb<w.heap.size) (hwg:B0<=wb) (v:Value) (c:Nat) :
  ∃O',HI B0 O' (.slice (some ⟨g,0,none⟩) (hs.length+1) cap) vl (hs++[H]) ls (w3.setCell ⟨wb,c,none⟩ v)/\(∀b t,O' b=some t->O b=some t\/w.heap.size<=b\/On b=some t)/\∀b,b<w.heap.size->(∀t,O b≠some t)->b≠wb->(w3.setCell ⟨wb,c,none⟩ v).heap[b]?=w.heap[b]?:=by
 have hz:(w1.alloc o).heap.size=w1.heap.size+1:=by simp
 have hA:Bw w1 (w1.alloc o):=bA _ o;have sz:=hb.size;have hvl:∀r,vh.ownBlock=some r->r<w.heap.size:=λr hr=>h.olt r _ (h.ohr r hr);have hge:B0<=g:=(Cb how g rfl).1;have hgl:g<w3.heap.size:=(Cb how g rfl).2;have hgw:g≠wb:=λe=>by
  rcases hat with q|q
  ·have:=h.ohr g q;rw[e,hwb]at this;cases this
  ·omega
 have hkeep:∀b,b<w1.heap.size->vh.ownBlock≠some b->b≠wb->(w3.setCell ⟨wb,c,none⟩ v).heap[b]?=w1.heap[b]?:=λb hl n1 n2=>by
  rw[Aw _ _ _ _ (by simpa using n2),hg.block b (by omega) (λe=>n1 e.symm),hA.block b hl]
 have hzs:(w3.setCell ⟨wb,c,none⟩ v).heap.size=w3.heap.size:=by simp[World.setCell]
 have hz3:=hg.size;have hold:∀b t,O b=some t->On b=none:=λb t ht=>by
  cases q:On b with
  |none=>rfl
  |some t'=>
   rcases(hOn b t' q).2.2.2 with x|x
   ·have:=h.olt b t ht;omega
   ·rw[ht]at x;cases x
 refine⟨λb=>match On b with|some t=>some t|none=>if b<w.heap.size then O b else if b=g then some (0,.hrow)else none,?_,λb t ht=>?_,λb hl hn hw=>?_⟩
 ·have hO:∀b t,O b=some t->(match On b with|some t=>some t|none=>if b<w.heap.size then O b else if b=g then some (0,Tg.hrow)else none)=some t:=λb t ht=>by
   rw[hold b t ht];simp only;rw[if_pos (h.olt b t ht)];exact ht
  have hOg:(match On g with|some t=>some t|none=>if g<w.heap.size then O g else if g=g then some (0,Tg.hrow)else none)=some (0,Tg.hrow):=by
   rcases hat with q|q
   ·exact hO g _ (h.ohr g q)
   ·have:On g=none:=by
     cases x:On g with
     |none=>rfl
     |some t'=>have:=(hOn g t' x).2.1;omega
    rw[this];simp only;rw[if_neg (by omega)];rfl
  refine⟨?_,?_,λr hr=>?_,λr hr=>hO r _ (h.olr r hr),λq hq=>?_,λl hl=>?_,λb t ht=>?_,λb t ht=>?_⟩
  ·rw[A0z,b8I];exact Cl how (λr hr=>Aw _ _ _ _ (by simp[Value.ownBlock]at hr;simp;omega))
  ·exact Cl h.lr (λr hr=>by
    have hr1:=h.olt r _ (h.olr r hr);rw[hkeep r (by omega) (λe=>by have:=h.ohr r e;rw[h.olr r hr]at this;cases this) (λe=>by have:=h.olr r hr;rw[e,hwb]at this;cases this),hb.block r hr1])
  ·have:r=g:=by simpa[Value.ownBlock]using hr.symm
   rw[this];exact hOg
  ·by_cases hq2:q<hs.length
   ·rw[B4z hq2];refine((h.hou q hq2).stay (λb hl=>?_) (λb t ht=>?_)).retag' (λb t ht=>hO b _ ht)
    ·have hn:∀t,O b≠some t:=λt e=>by have:=h.oge b t e;omega
     rw[hkeep b (by omega) (λe=>hn _ (h.ohr b e)) (λe=>by omega),hb.block b (by omega)]
    ·have hl:=h.olt b _ ht;rw[hkeep b (by omega) (λe=>by have:=h.ohr b e;rw[ht]at this;cases this) (λe=>by rw[e,hwb]at ht;cases ht),hb.block b hl]
   ·have hqe:q=hs.length:=by rw[A0z]at hq;simp at hq;omega
    subst hqe;rw[List.getElem_concat_length rfl];refine(N.stay (λb hl=>?_) (λb t ht=>?_)).retag' (λb t ht=>by rw[ht])
    ·exact hkeep b (by omega) (λe=>by have:=h.oge b _ (h.ohr b e);omega) (λe=>by omega)
    ·obtain⟨-,x2,-,x4⟩:=hOn b _ ht;exact hkeep b x2 (λe=>by
      have h1:=hvl b e;rcases x4 with y|y
      ·omega
      ·rw[h.ohr b e]at y;cases y) (λe=>by rw[e,hwn]at ht;cases ht)
  ·obtain⟨H1,k,e1,e2,e3,e4⟩:=h.lin l hl;exact⟨H1,k,by rw[F5z (List.getElem?_eq_some_iff.1 e1).1];exact e1,e2,e3,e4⟩
  ·have ht:(match On b with|some t=>some t|none=>if b<w.heap.size then O b else if b=g then some (0,Tg.hrow)else none)=some t:=ht;rw[hzs]
   cases x:On b with
   |some t'=>have:=(hOn b t' x).2.1;omega
   |none=>
    rw[x]at ht;simp only at ht
    split at ht
    ·omega
    split at ht
    ·omega
    ·cases ht
  ·have ht:(match On b with|some t=>some t|none=>if b<w.heap.size then O b else if b=g then some (0,Tg.hrow)else none)=some t:=ht
   cases x:On b with
   |some t'=>exact(hOn b t' x).2.2.1
   |none=>
    rw[x]at ht;simp only at ht
    split at ht
    ·exact h.oge b t ht
    split at ht
    ·omega
    ·cases ht
 ·have ht:(match On b with|some t=>some t|none=>if b<w.heap.size then O b else if b=g then some (0,Tg.hrow)else none)=some t:=ht
  cases x:On b with
  |some t'=>
   rw[x]at ht;exact .inr (.inr ht)
  |none=>
   rw[x]at ht;simp only at ht
   split at ht
   ·exact .inl ht
   ·exact .inr (.inl (by omega))
 ·rw[hkeep b (by omega) (λe=>hn _ (h.ohr b e)) hw,hb.block b hl]
theorem HI.addl(h:HI B0 O vh vl hs ls w){l:Ln}(hl:c1C hs l){o:Obj}{g cap:Nat}(hg:(w.alloc o).grownBy w3 vl.ownBlock)(hat:vl.ownBlock=some g\/g=(w.alloc o).heap.size)(how:w3.ownsRow B0 70 3 (.slice (some ⟨g,0,none⟩) (ls.length+1) cap) (ls.length+1) (lsP ls++[.pointer (some ⟨l.pc,0,none⟩),.pointer (some ⟨l.sr,0,none⟩),.int .i64 (l.j:Int)]))
  {wb:Nat} (hwb:O wb=none) (hwl:wb<w.heap.size) (hwg:B0<=wb) (v:Value) (c:Nat) :
  ∃O',HI B0 O' vh (.slice (some ⟨g,0,none⟩) (ls.length+1) cap) hs (ls++[l]) (w3.setCell ⟨wb,c,none⟩ v)/\(∀b t,O' b=some t->O b=some t\/w.heap.size<=b)/\∀b,b<w.heap.size->(∀t,O b≠some t)->b≠wb->(w3.setCell ⟨wb,c,none⟩ v).heap[b]?=w.heap[b]?:=by
 have hz:(w.alloc o).heap.size=w.heap.size+1:=by simp
 have hA:Bw w (w.alloc o):=bA _ o;have hvl:∀r,vl.ownBlock=some r->r<w.heap.size:=λr hr=>h.olt r _ (h.olr r hr);have hge:B0<=g:=(Cb how g rfl).1;have hgl:g<w3.heap.size:=(Cb how g rfl).2;have hgw:g≠wb:=λe=>by
  rcases hat with q|q
  ·have:=h.olr g q;rw[e,hwb]at this;cases this
  ·omega
 have hkeep:∀b,b<w.heap.size->vl.ownBlock≠some b->b≠wb->(w3.setCell ⟨wb,c,none⟩ v).heap[b]?=w.heap[b]?:=λb hl n1 n2=>by
  rw[Aw _ _ _ _ (by simpa using n2),hg.block b (by omega) (λe=>n1 e.symm),hA.block b hl]
 have hzs:(w3.setCell ⟨wb,c,none⟩ v).heap.size=w3.heap.size:=by simp[World.setCell]
 have hz3:=hg.size;refine⟨λb=>if b<w.heap.size then O b else if b=g then some (0,.lrow)else none,?_,λb t ht=>?_,λb hl hn hw=>?_⟩
 ·have hO:∀b t,O b=some t->(if b<w.heap.size then O b else if b=g then some (0,Tg.lrow)else none)=some t:=λb t ht=>by
   rw[if_pos (h.olt b t ht)];exact ht
  have hOg:(if g<w.heap.size then O g else if g=g then some (0,Tg.lrow)else none)=some (0,Tg.lrow):=by
   rcases hat with q|q
   ·exact hO g _ (h.olr g q)
   ·rw[if_neg (by omega),if_pos rfl]
  refine⟨?_,?_,λr hr=>hO r _ (h.ohr r hr),λr hr=>?_,λq hq=>?_,λl' hl'=>?_,λb t ht=>?_,λb t ht=>?_⟩
  ·exact Cl h.hr (λr hr=>by
    have hr1:=h.olt r _ (h.ohr r hr);exact hkeep r hr1 (λe=>by have:=h.olr r e;rw[h.ohr r hr]at this;cases this) (λe=>by have:=h.ohr r hr;rw[e,hwb]at this;cases this))
  ·rw[A0z,b8J];exact Cl how (λr hr=>Aw _ _ _ _ (by simp[Value.ownBlock]at hr;simp;omega))
  ·have:r=g:=by simpa[Value.ownBlock]using hr.symm
   rw[this];exact hOg
  ·refine((h.hou q hq).stay (λb hl=>?_) (λb t ht=>?_)).retag' (λb t ht=>hO b _ ht)
   ·have hn:∀t,O b≠some t:=λt e=>by have:=h.oge b t e;omega
    exact hkeep b (by omega) (λe=>hn _ (h.olr b e)) (λe=>by omega)
   ·have hl:=h.olt b _ ht;exact hkeep b hl (λe=>by have:=h.olr b e;rw[ht]at this;cases this) (λe=>by rw[e,hwb]at ht;cases ht)
  ·rcases List.mem_append.1 hl' with x|x
   ·exact h.lin l' x
   ·rw[C4z]at x;rw[x];exact hl
  ·have ht:(if b<w.heap.size then O b else if b=g then some (0,Tg.lrow)else none)=some t:=ht;rw[hzs]
   split at ht
   ·omega
   split at ht
   ·omega
   ·cases ht
  ·have ht:(if b<w.heap.size then O b else if b=g then some (0,Tg.lrow)else none)=some t:=ht
   split at ht
   ·exact h.oge b t ht
   split at ht
   ·omega
   ·cases ht
 ·have ht:(if b<w.heap.size then O b else if b=g then some (0,Tg.lrow)else none)=some t:=ht
  split at ht
  ·exact .inl ht
  ·exact .inr (by omega)
 ·exact hkeep b hl (λe=>hn _ (h.olr b e)) hw
end
end Go.Proofs.YtbiggccolpchcaaGreatDoor
namespace Go.Proofs.YtbiggccolpchcaaGreatDoor
open Go.RowKit _root_.Go.Proofs.Tryz
def LnR{α:Type}(sz:Nat)(f:α->List Value)(mk:α)(l:List α)(a a':Oa)(c':Nat)(B:Nat)(w:World):Prop:=
 (a=none/\l=[]/\a'=none/\c'=0)\/(∃ad g,a=some ad/\a'=some ⟨g,0,none⟩/\c'=l.length+5/\B<=g/\g<w.heap.size/\Fs g ((l.length+5)*sz) w/\LvM sz f (l++List.replicate 5 mk) g w)
theorem Fs.keep{g m:Nat}{w w':World}(h:Fs g m w)(hk:w'.heap[g]?=w.heap[g]?):Fs g m w':=λj hj=>by
 obtain⟨h1,h2⟩:=h j hj;exact⟨by rw[Au hk];exact h1,by rw[World.frozen?_of_block hk];exact h2⟩
theorem LvM.keep{α:Type}{sz:Nat}{f:α->List Value}{L:List α}{g:Nat}{w w':World}(h:LvM sz f L g w)(hk:w'.heap[g]?=w.heap[g]?):LvM sz f L g w':=λi hi j v hv=>by
 rw[Au hk];exact h i hi j v hv
theorem LnR.keep{α:Type}{sz:Nat}{f:α->List Value}{mk:α}{l:List α}{a a':Oa}{c' B:Nat}{w w':World}(h:LnR sz f mk l a a' c' B w)(hz:w.heap.size<=w'.heap.size)(hk:∀g,a'=some ⟨g,0,none⟩->B<=g->g<w.heap.size->w'.heap[g]?=w.heap[g]?):LnR sz f mk l a a' c' B w':=by
 rcases h with h|⟨ad,g,h1,h2,h3,h4,h5,h6,h7⟩
 ·exact .inl h
 ·have:=hk g h2 h4 h5;exact .inr ⟨ad,g,h1,h2,h3,h4,Af h5 hz,h6.keep this,h7.keep this⟩
theorem LnR.below{α:Type}{sz:Nat}{f:α->List Value}{mk:α}{l:List α}{a a':Oa}{c' B:Nat}{w w':World}(h:LnR sz f mk l a a' c' B w)(hb:Bw w w'):LnR sz f mk l a a' c' B w':=h.keep hb.size (λg _ _ hg=>hb.block g hg)
theorem LnR.mu{α:Type}{sz:Nat}{f:α->List Value}{mk:α}{l:List α}{a a':Oa}{c' B:Nat}{w:World}(h:LnR sz f mk l a a' c' B w):Da sz f l a' w:=by
 rcases h with⟨-,rfl,-,-⟩|⟨ad,g,-,rfl,-,-,h5,-,h7⟩
 ·exact λi hi=>absurd hi (by simp)
 ·exact h7.mu h5
theorem LnR.base{α:Type}{sz:Nat}{f:α->List Value}{mk:α}{l:List α}{a a':Oa}{c' B B':Nat}{w:World}(h:LnR sz f mk l a a' c' B w)(hb:B'<=B):LnR sz f mk l a a' c' B' w:=by
 rcases h with h|⟨ad,g,h1,h2,h3,h4,h5⟩
 ·exact .inl h
 ·exact .inr ⟨ad,g,h1,h2,h3,Aj hb h4,h5⟩
theorem LnR.lt{α:Type}{sz:Nat}{f:α->List Value}{mk:α}{l:List α}{a a':Oa}{c' B:Nat}{w:World}(h:LnR sz f mk l a a' c' B w):∀g,a'=some ⟨g,0,none⟩->B<=g/\g<w.heap.size:=λg hg=>by
 rcases h with⟨-,-,h3,-⟩|⟨ad,g',-,h2,-,h4,h5,-⟩
 ·rw[h3]at hg;cases hg
 ·rw[h2]at hg;simp only[Option.some.injEq,Addr.mk.injEq,and_true]at hg;omega
theorem a3V(rs:List Rt)(a:Oa)(ca:Nat)(w:World)(hz:a=none->rs=[]/\ca=0)(hf:Da 6 Rt.cells rs a w)(hn:rs.length<=1000000000):
  Calls prog 111 #[.slice a rs.length ca] w λe w'=>(∃a' c',e=.returned (.slice a' rs.length c')/\LnR 6 Rt.cells (mkR 7) rs a a' c' w.heap.size w')/\Bw w w':=by
 cases a with
 |none=>
  obtain⟨rfl,rfl⟩:=hz rfl;refine(Um w).mono ?_;rintro e w' ⟨rfl,rfl⟩;exact⟨⟨none,0,rfl,.inl ⟨rfl,rfl,rfl,rfl⟩⟩,Ad _ _⟩
 |some ad=>
  refine(Un rs ad ca w hf hn).mono ?_;rintro e w' ⟨g,rfl,h1,h2,h3,h4,h5⟩;exact⟨⟨_,_,rfl,.inr ⟨ad,g,rfl,rfl,rfl,h1,h2,h3,h4⟩⟩,h5⟩
theorem a7Y(rs:List Wr)(a:Oa)(ca:Nat)(w:World)(hz:a=none->rs=[]/\ca=0)(hf:Da 4 Wr.cells rs a w)(hn:rs.length<=1000000000):
  Calls prog 112 #[.slice a rs.length ca] w λe w'=>(∃a' c',e=.returned (.slice a' rs.length c')/\LnR 4 Wr.cells (mkW 7) rs a a' c' w.heap.size w')/\Bw w w':=by
 cases a with
 |none=>
  obtain⟨rfl,rfl⟩:=hz rfl;refine(Vl w).mono ?_;rintro e w' ⟨rfl,rfl⟩;exact⟨⟨none,0,rfl,.inl ⟨rfl,rfl,rfl,rfl⟩⟩,Ad _ _⟩
 |some ad=>
  refine(Vm rs ad ca w hf hn).mono ?_;rintro e w' ⟨g,rfl,h1,h2,h3,h4,h5⟩;exact⟨⟨_,_,rfl,.inr ⟨ad,g,rfl,rfl,rfl,h1,h2,h3,h4⟩⟩,h5⟩
def KpA(a:Oa)(w w':World):Prop:=w.heap.size<=w'.heap.size/\∀b,b<w.heap.size->a≠some ⟨b,0,none⟩->w'.heap[b]?=w.heap[b]?
theorem Zf(rs:List Rt)(a a':Oa)(ca c':Nat)(w0 w:World)(hz:a=none->rs=[]/\ca=0)(hf:Da 6 Rt.cells rs a w0)(hn:rs.length<=1000000000)(hb:Bw w0 w)(hL:LnR 6 Rt.cells (mkR 7) rs a a' c' w0.heap.size w):
  Calls prog 115 #[.slice a' rs.length c',.slice a rs.length ca] w λe w'=>e=.returned (.bool true)/\Bw w0 w'/\KpA a' w w':=by
 rcases hL with⟨rfl,rfl,rfl,rfl⟩|⟨ad,g,rfl,rfl,rfl,h4,h5,h6,h7⟩
 ·obtain⟨-,rfl⟩:=hz rfl;refine(Rj _ w).mono ?_;rintro e w' ⟨rfl,rfl⟩;exact⟨rfl,hb,Ac _,λ_ _ _=>rfl⟩
 ·refine(Rk rs ad ca g w0 w hf hn hb h4 h5 h6 h7).mono ?_;rintro e w' ⟨rfl,k1,k2⟩;exact⟨rfl,k1,k2.1,λb hb' hne=>k2.2 b hb' (λe=>hne (by rw[e]))⟩
theorem a3W(rs:List Wr)(a a':Oa)(ca c':Nat)(w0 w:World)(hz:a=none->rs=[]/\ca=0)(hf:Da 4 Wr.cells rs a w0)(hn:rs.length<=1000000000)(hb:Bw w0 w)(hL:LnR 4 Wr.cells (mkW 7) rs a a' c' w0.heap.size w):
  Calls prog 116 #[.slice a' rs.length c',.slice a rs.length ca] w λe w'=>e=.returned (.bool true)/\Bw w0 w'/\KpA a' w w':=by
 rcases hL with⟨rfl,rfl,rfl,rfl⟩|⟨ad,g,rfl,rfl,rfl,h4,h5,h6,h7⟩
 ·obtain⟨-,rfl⟩:=hz rfl;refine(Uo _ w).mono ?_;rintro e w' ⟨rfl,rfl⟩;exact⟨rfl,hb,Ac _,λ_ _ _=>rfl⟩
 ·refine(Up rs ad ca g w0 w hf hn hb h4 h5 h6 h7).mono ?_;rintro e w' ⟨rfl,k1,k2⟩;exact⟨rfl,k1,k2.1,λb hb' hne=>k2.2 b hb' (λe=>hne (by rw[e]))⟩
structure CfG(rs:List Rt)(ws:List Wr)(ar:Oa)(cr:Nat)(aw:Oa)(cw:Nat)(w:World):Prop where
 r:Da 6 Rt.cells rs ar w
 w:Da 4 Wr.cells ws aw w
 zr:ar=none->rs=[]/\cr=0
 zw:aw=none->ws=[]/\cw=0
 nr:rs.length<=1000000000
 nw:ws.length<=1000000000
theorem CfG.below{rs:List Rt}{ws:List Wr}{ar:Oa}{cr:Nat}{aw:Oa}{cw:Nat}{w w':World}(h:CfG rs ws ar cr aw cw w)(hb:Bw w w'):CfG rs ws ar cr aw cw w':=⟨h.r.below hb,h.w.below hb,h.zr,h.zw,h.nr,h.nw⟩
structure Lt(rs:List Rt)(ws:List Wr)(ar aw a1 a2:Oa)(c1 c2 B:Nat)(w:World):Prop where
 r:LnR 6 Rt.cells (mkR 7) rs ar a1 c1 B w
 w:LnR 4 Wr.cells (mkW 7) ws aw a2 c2 B w
 d:∀b,a1=some ⟨b,0,none⟩->a2≠some ⟨b,0,none⟩
theorem Lt.below{rs:List Rt}{ws:List Wr}{ar aw a1 a2:Oa}{c1 c2 B:Nat}{w w':World}(h:Lt rs ws ar aw a1 a2 c1 c2 B w)(hb:Bw w w'):Lt rs ws ar aw a1 a2 c1 c2 B w':=⟨h.r.below hb,h.w.below hb,h.d⟩
theorem Lt.setC{rs:List Rt}{ws:List Wr}{ar aw a1 a2:Oa}{c1 c2 B:Nat}{w:World}(h:Lt rs ws ar aw a1 a2 c1 c2 B w){g o:Nat}(cs:List Value)(hg:g<B):Lt rs ws ar aw a1 a2 c1 c2 B (w.setCells g o cs):=
 ⟨h.r.keep (by rw[Mk];exact Ac _) (λb _ hb _=>Kf g b (by omega) cs o w),h.w.keep (by rw[Mk];exact Ac _) (λb _ hb _=>Kf g b (by omega) cs o w),h.d⟩
def Kp2(a1 a2:Oa)(w w':World):Prop:=w.heap.size<=w'.heap.size/\∀b,b<w.heap.size->a1≠some ⟨b,0,none⟩->a2≠some ⟨b,0,none⟩->w'.heap[b]?=w.heap[b]?
theorem c3X{a1 a2:Oa}{w w1 w2 w3:World}(hA:Bw w w1)(h1:KpA a1 w1 w2)(h2:KpA a2 w2 w3):Kp2 a1 a2 w w3:=
 ⟨Aj hA.size (Aj h1.1 h2.1),λb hb n1 n2=>by
  have l1:b<w1.heap.size:=Af hb hA.size;rw[h2.2 b (Af l1 h1.1) n2,h1.2 b l1 n1,hA.block b hb]⟩
theorem Ww(hd bd hd' bd':Int)(rs:List Rt)(ws:List Wr)(ar:Oa)(cr:Nat)(aw:Oa)(cw:Nat)(a1 a2:Oa)(c1 c2:Nat)(w0 w:World)(hC:CfG rs ws ar cr aw cw w0)(hb:Bw w0 w)(hL:Lt rs ws ar aw a1 a2 c1 c2 w0.heap.size w):
  Calls prog 48 #[.agg #[.int .i64 hd,.int .i64 bd,.slice a1 rs.length c1,.slice a2 ws.length c2],.agg #[.int .i64 hd',.int .i64 bd',.slice ar rs.length cr,.slice aw ws.length cw]] w λe w'=>e=.returned (.bool true)/\Bw w0 w'/\Kp2 a1 a2 w w':=by
 have HWR:=hid (λW (hW:Bw w W)=>Zf rs ar a1 cr c1 w0 W hC.zr hC.r hC.nr (hb.trans (hW.mono hb.size)) ((hL.below hW).r));have HWW:=hid (λW (hW:Bw w0 W) (hl:LnR 4 Wr.cells (mkW 7) ws aw a2 c2 w0.heap.size W)=>a3W ws aw a2 cw c2 w0 W hC.zw hC.w hC.nw hW hl);have hA1:=bA w (.cells #[.int .i64 hd,.int .i64 bd,.slice a1 rs.length c1,.slice a2 ws.length c2] 44);have hA:=hA1.alloc hA1.size (.cells #[.int .i64 hd',.int .i64 bd',.slice ar rs.length cr,.slice aw ws.length cw] 44);have z1:(w.alloc (.cells #[.int .i64 hd,.int .i64 bd,.slice a1 rs.length c1,.slice a2 ws.length c2] 44)).heap.size=w.heap.size+1:=by simp
 have B1:((w.alloc (.cells #[.int .i64 hd,.int .i64 bd,.slice a1 rs.length c1,.slice a2 ws.length c2] 44)).alloc (.cells #[.int .i64 hd',.int .i64 bd',.slice ar rs.length cr,.slice aw ws.length cw] 44)).heap[w.heap.size]?=some (.cells #[.int .i64 hd,.int .i64 bd,.slice a1 rs.length c1,.slice a2 ws.length c2] 44):=by
  rw[(bA _ (.cells #[.int .i64 hd',.int .i64 bd',.slice ar rs.length cr,.slice aw ws.length cw] 44)).block w.heap.size (by rw[z1];omega)];exact Ag w _
 have B2:((w.alloc (.cells #[.int .i64 hd,.int .i64 bd,.slice a1 rs.length c1,.slice a2 ws.length c2] 44)).alloc (.cells #[.int .i64 hd',.int .i64 bd',.slice ar rs.length cr,.slice aw ws.length cw] 44)).heap[w.heap.size+1]?=some (.cells #[.int .i64 hd',.int .i64 bd',.slice ar rs.length cr,.slice aw ws.length cw] 44):=by
  rw[<-z1];exact Ag _ _
 have HL:=hid hL;have hbz:=hb.size;clear hC z1;go_enter func48,ntmps48;go_wp2_with fail;generalize (w.alloc (.cells #[.int .i64 hd,.int .i64 bd,.slice a1 rs.length c1,.slice a2 ws.length c2] 44)).alloc (.cells #[.int .i64 hd',.int .i64 bd',.slice ar rs.length cr,.slice aw ws.length cw] 44)=w1 at *
 refine(HWR.out _ hA).mono ?_;rintro x w2 ⟨rfl,hb2,hk2⟩;have L1:=HL.out.below hA;have l1:w.heap.size+1<w1.heap.size:=(Array.getElem?_eq_some_iff.1 B2).1;have h21:w2.heap[w.heap.size]?=w1.heap[w.heap.size]?:=hk2.2 _ (by omega) (λe=>by have:=(HL.out.r.lt _ e).2;omega);have h22:w2.heap[w.heap.size+1]?=w1.heap[w.heap.size+1]?:=hk2.2 _ l1 (λe=>by have:=(HL.out.r.lt _ e).2;omega);rw[B1]at h21;rw[B2]at h22;have e3:w2.cell? ⟨w.heap.size,3,none⟩=some (.slice a2 ws.length c2):=by rw[Ab h21];rfl
 have e4:w2.cell? ⟨w.heap.size+1,3,none⟩=some (.slice aw ws.length cw):=by rw[Ab h22];rfl
 have m3:=Ap e3;have m4:=Ap e4;have HW2:=hid (HWW.out w2 hb2 (L1.w.keep hk2.1 (λg hg _ hlt=>hk2.2 g hlt (λe=>HL.out.d g e hg))));have HK2:=hid hk2;clear HWR HWW h21 h22 B1 B2 hk2 L1;go_wp2_with fail;refine HW2.out.mono ?_;rintro x w3 ⟨rfl,hb3,hk3⟩;have HK3:=hid (c3X hA HK2.out hk3);clear hk3;go_wp2_with fail;go_ret;exact⟨rfl,hb3,HK3.out⟩
def c3Y(hd bd:Int)(rs:List Rt)(ws:List Wr)(ar aw:Oa)(w:World)(x:Ending)(w':World):Prop:=
 ∃a1 c1 a2 c2,x=.returned (.agg #[.int .i64 hd,.int .i64 bd,.slice a1 rs.length c1,.slice a2 ws.length c2])/\Lt rs ws ar aw a1 a2 c1 c2 w.heap.size w'/\Bw w w'
theorem b8M{rs:List Rt}{ws:List Wr}{ar aw a1 a2:Oa}{c1 c2:Nat}{w w1 wA wB:World}{hd bd:Int}{vr vw:Value}(hA:Bw w w1)(l1:w.heap.size+1<w1.heap.size)(hbA:Bw w1 wA)(hbB:Bw wA wB)(hr:LnR 6 Rt.cells (mkR 7) rs ar a1 c1 w1.heap.size wA)(hw:LnR 4 Wr.cells (mkW 7) ws aw a2 c2 wA.heap.size wB):
  Lt rs ws ar aw a1 a2 c1 c2 w.heap.size (setC (w.heap.size+1) hd bd vr vw wB)/\Bw w (setC (w.heap.size+1) hd bd vr vw wB):=by
 have h1:Lt rs ws ar aw a1 a2 c1 c2 w1.heap.size wB:=⟨hr.below hbB,hw.base hbA.size,λb e1 e2=>by
  have:=(hr.lt b e1).2;have:=(hw.lt b e2).1;omega⟩
 have h2:=h1.setC (g:=w.heap.size+1) (o:=0) [.int .i64 hd,.int .i64 bd,vr,vw] (by omega);refine⟨⟨h2.r.base (by omega),h2.w.base (by omega),h2.d⟩,?_⟩;exact a6A (Bc (Bc hA hbA) hbB) (Al _)
theorem b8N(hd bd:Int)(rs:List Rt)(ws:List Wr)(ar:Oa)(cr:Nat)(aw:Oa)(cw:Nat)(w:World)(hC:CfG rs ws ar cr aw cw w):
  Calls prog 45 #[.agg #[.int .i64 hd,.int .i64 bd,.slice ar rs.length cr,.slice aw ws.length cw]] w (c3Y hd bd rs ws ar aw w):=by
 have HLR:=hid (λW (hW:Bw w W)=>a3V rs ar cr W hC.zr (hC.r.below hW) hC.nr);have HLW:=hid (λW (hW:Bw w W)=>a7Y ws aw cw W hC.zw (hC.w.below hW) hC.nw);have hA1:=bA w (.cells #[.int .i64 hd,.int .i64 bd,.slice ar rs.length cr,.slice aw ws.length cw] 44);have hA:=hA1.alloc hA1.size (.cells #[.int .i64 0,.int .i64 0,.slice none 0 0,.slice none 0 0] 44);have z1:(w.alloc (.cells #[.int .i64 hd,.int .i64 bd,.slice ar rs.length cr,.slice aw ws.length cw] 44)).heap.size=w.heap.size+1:=by simp
 have g0:CfB w.heap.size hd bd (.slice ar rs.length cr) (.slice aw ws.length cw) (w.alloc (.cells #[.int .i64 hd,.int .i64 bd,.slice ar rs.length cr,.slice aw ws.length cw] 44)):=Ag w _;have g1:=g0.below (bA _ (.cells #[.int .i64 0,.int .i64 0,.slice none 0 0,.slice none 0 0] 44));have h0:CfB (w.heap.size+1) 0 0 (.slice none 0 0) (.slice none 0 0) ((w.alloc (.cells #[.int .i64 hd,.int .i64 bd,.slice ar rs.length cr,.slice aw ws.length cw] 44)).alloc (.cells #[.int .i64 0,.int .i64 0,.slice none 0 0,.slice none 0 0] 44)):=by
  rw[<-z1];exact Ag _ _
 clear hC z1 g0 hA1;go_enter func45,ntmps45;go_upto_region 1 with fail;generalize (w.alloc (.cells #[.int .i64 hd,.int .i64 bd,.slice ar rs.length cr,.slice aw ws.length cw] 44)).alloc (.cells #[.int .i64 0,.int .i64 0,.slice none 0 0,.slice none 0 0] 44)=w1 at *
 obtain⟨c0,c1,c2,c3⟩:=g1.cells;have l0:=g1.lt;have l1:=h0.lt;have HG:=hid (And.intro g1 h0);clear g1 h0
 go_region_held3 (λW=>W.cell? ⟨w.heap.size,0,none⟩=some (.int .i64 hd)/\W.cell? ⟨w.heap.size,1,none⟩=some (.int .i64 bd)/\W.cell? ⟨w.heap.size,2,none⟩=some (.slice ar rs.length cr)/\W.cell? ⟨w.heap.size,3,none⟩=some (.slice aw ws.length cw)) (first|go_keep|exact⟨(cell_setC ne1).trans s0,(cell_setC ne1).trans s1,(cell_setC ne1).trans s2,(cell_setC ne1).trans s3⟩)
  (first
   |(go_at_call 111;refine(HLR.out _ hA.drew).mono ?_;rintro x wA ⟨⟨a1,k1,rfl,hr⟩,hbA⟩;have hBA:=Bc hA.drew hbA;have hb1A:=Bc (Ad w1.heap.size w1).drew hbA;have HRR:=hid hr;have r0:=Aa hb1A c0;have r1:=Aa hb1A c1;have r2:=Aa hb1A c2;have r3:=Aa hb1A c3;clear hr hbA)
   |(go_at_call 112;refine(HLW.out _ hBA).mono ?_;rintro x wB ⟨⟨a2,k2,rfl,hw⟩,hbB⟩;have s0:=Aa hbB r0;have s1:=Aa hbB r1;have s2:=Aa hbB r2;have s3:=Aa hbB r3;have hB1:=Bc hb1A hbB;have hF:=HG.out.2.below hB1;obtain⟨t0,t1,t2,t3⟩:=hF.cells;have u0:=hF.free 0;have u1:=hF.free 1;have u2:=hF.free 2;have u3:=hF.free 3;have lF:=hF.lt;have ne1:w.heap.size≠w.heap.size+1:=Nat.ne_of_lt (E1z _);have KF:=b8M (hd:=hd) (bd:=bd) (vr:=.slice a1 rs.length k1) (vw:=.slice a2 ws.length k2) hA l1 hb1A hbB HRR.out hw;obtain⟨d0,d1,d2,d3⟩:=(hF.set hd bd (.slice a1 rs.length k1) (.slice a2 ws.length k2)).cells;have HKF:=hid KF;unfold setC at d0 d1 d2 d3;clear hw hbB KF hF))
 all_goals
  go_wp2_with fail;refine Ae (v:=.agg #[.int .i64 hd,.int .i64 bd,.slice a1 rs.length k1,.slice a2 ws.length k2]) (by simp[results,results45,go_sem,d0,d1,d2,d3]) rfl ?_;exact⟨_,_,_,_,rfl,HKF.out.1,HKF.out.2⟩
end Go.Proofs.YtbiggccolpchcaaGreatDoor
namespace Go.Proofs.YtbiggccolpchcaaGreatDoor
open Go.RowKit Bn _root_.Go.Proofs.Tryz
def Kg(i s h ps sr gt gs m:Nat)(rv:Value)(ca cb:Option Nat)(B0:Nat):Nat->Option (Nat×Tg):=λb=>
 if b=s then some (i,.srv)else if b=h then some (i,.hit)else if b=ps then some (i,.ps)else if b=sr then some (i,.ref)else if b=gt\/rv.ownBlock=some b then some (i,.rtab)else if gs<=b/\b<m then some (i,.site)else if B0<=b/\(ca=some b\/cb=some b)then some (i,.cfg)else none
def a9V:Oa->Option Nat
 |some ⟨g,_,none⟩=>some g
 |_=>none
def Ij{α:Type}:List α->Oa->Option Nat
 |[],_=>none
 |_::_,a=>a9V a
theorem a9W{α:Type}{l:List α}(h:l≠[])(a:Oa):Ij l a=a9V a:=by
 cases l with
 |nil=>exact absurd rfl h
 |cons _ _=>rfl
section
variable{C:Cf}{ar aw:Oa}{cr cw:Nat}{B0 s gs h ps:Nat}{w w3 W1 w4 w5 w6:World}{es:List Ent}{v vh vw:Value}{sr gt:Nat}{res:List Prm}{rv:Value}
theorem b3J(i:Nat)(hB:B0<=w.heap.size)(h3:Bw w w3)(St:StI gs gs es (C.rs.map Rt.h) C.ws v vh vw W1)(hes:es.map Ent.bare=C.rs.map Cd)(hW1:Bw w3 W1)(hgs:w3.heap.size<gs)
  (I4:SvI ⟨s,gs,h,C.hd,C.bd,W1⟩ (C.rs.map λ_=>0) w4) (P4:w4.heap[ps]?=some (.cells #[.pointer (some ⟨s,0,none⟩)] 189 (0,0))) (p1:W1.heap.size<=ps) (p2:ps≠s) (p3:ps≠h)
  (h5:Bw w4 w5) (R5:RsI C sr gt ar cr aw cw (.slice none 0 0) res rv w5) (g1:w4.heap.size<=gt) (g2:w4.heap.size<=sr) (g3:sr≠gt) (g4:∀r,rv.ownBlock=some r->r≠sr)
  (h6:Bw w w6) (hz6:w5.heap.size<=w6.heap.size) (hk6:∀b,w3.heap.size<=b->b<w5.heap.size->w6.heap[b]?=w5.heap[b]?) (hcf:∀g o,(C.rs≠[]/\ar=some ⟨g,o,none⟩)\/(C.ws≠[]/\aw=some ⟨g,o,none⟩)->g<w.heap.size) :
  ∃H,HsI B0 (Kg i s h ps sr gt gs W1.heap.size rv (Ij C.rs ar) (Ij C.ws aw) B0) i H w6/\H.C=C/\H.ps=ps/\H.sr=sr/\H.cs=[]:=by
 have z3:=h3.size;have zW:=hW1.size;have b4:=I4.bel;have b4':Bw W1 w4:=b4;have z4:=b4'.size;have z5:=h5.size;have m1:W1.heap.size<=s:=I4.ge1;have m2:W1.heap.size<=h:=I4.ge2;have m3:s≠h:=I4.ne;have ls:s<w4.heap.size:=I4.ls;have lh:h<w4.heap.size:=I4.lh;have lp:=heap_lt P4;have lgt:gt<w5.heap.size:=R5.tr.lt;have lsr:sr<w5.heap.size:=R5.lt;have hgg:gs<W1.heap.size:=heap_lt St.blk;have hrv:∀r,rv.ownBlock=some r->gt<=r/\r<w5.heap.size:=λr hr=>Cb R5.tr.row r hr;have k46:∀b,w3.heap.size<=b->b<w4.heap.size->w6.heap[b]?=w4.heap[b]?:=λb x y=>by rw[hk6 b x (by omega),h5.block b y]
 have site:∀b,Wu gs es v vh vw b->gs<=b/\b<W1.heap.size:=λb hb=>⟨c1B St hb,a9T St hb⟩;have cfgb:∀g o,(C.rs≠[]/\ar=some ⟨g,o,none⟩)\/(C.ws≠[]/\aw=some ⟨g,o,none⟩)->w6.heap[g]?=w5.heap[g]?:=λg o e=>by
  have:=hcf g o e;rw[h6.block g this,h5.block g (by omega),b4'.block g (by omega),hW1.block g (by omega),h3.block g this]
 have hsum:Ev C.rs.length (([]:List Con).map λk=>(Bk C k.B).hs)=C.rs.map λ_=>0:=by
  apply F8z
  ·simp[Ev]
  ·intro i h1 h2;simp[Ev]
 refine⟨⟨C,s,gs,h,ps,W1.heap.size,es,v,vh,vw,sr,gt,ar,cr,aw,cw,res,rv,.slice none 0 0,[]⟩,?_,rfl,rfl,rfl,rfl⟩;have hh:(⟨C,s,gs,h,ps,W1.heap.size,es,v,vh,vw,sr,gt,ar,cr,aw,cw,res,rv,.slice none 0 0,[]⟩:Hs).hs=C.rs.map λ_=>0:=hsum;refine{st:=?_,eb:=hes,sb:=?_,hb:=?_,pb:=?_,rs:=?_,row:=Am _ _ _ _,cs:=λj hj=>absurd hj (by simp),m0:=by show B0<=W1.heap.size;omega,ms:=m1,mh:=m2,mg:=λb hb=>(site b hb).2,og:=λb hb=>?_,os:=?_,oh:=?_,op:=?_,or_:=?_,ot:=λb hb=>?_,oa:=λg o e=>?_,ow:=λb hb=>by simp[Value.ownBlock]at hb,cg:=λg o e=>by have:=hcf g o e;omega}
 ·exact St.move (λb hb=>by
   have:=site b hb;rw[k46 b (by omega) (by omega),b4'.block b this.2])
 ·rw[hh];show w6.heap[s]?=_;rw[k46 s (by omega) ls];exact I4.blk
 ·rw[hh];show w6.heap[h]?=_;rw[k46 h (by omega) lh];exact I4.hit
 ·show w6.heap[ps]?=_;rw[k46 ps (by omega) lp];exact P4
 ·exact R5.move (hk6 sr (by omega) lsr) (hk6 gt (by omega) lgt) (λr hr=>hk6 r (by have:=hrv r hr;omega) (hrv r hr).2) cfgb
 ·have:=site b hb;have hn:¬(b=gt\/rv.ownBlock=some b):=λx=>by
   rcases x with x|x
   ·omega
   ·have:=hrv b x;omega
  show Kg i s h ps sr gt gs W1.heap.size rv (Ij C.rs ar) (Ij C.ws aw) B0 b=_;unfold Kg;rw[if_neg (by omega),if_neg (by omega),if_neg (by omega),if_neg (by omega),if_neg hn,if_pos this]
 ·show Kg i s h ps sr gt gs W1.heap.size rv (Ij C.rs ar) (Ij C.ws aw) B0 s=_;unfold Kg;rw[if_pos rfl]
 ·show Kg i s h ps sr gt gs W1.heap.size rv (Ij C.rs ar) (Ij C.ws aw) B0 h=_;unfold Kg;rw[if_neg (λe=>m3 e.symm),if_pos rfl]
 ·show Kg i s h ps sr gt gs W1.heap.size rv (Ij C.rs ar) (Ij C.ws aw) B0 ps=_;unfold Kg;rw[if_neg p2,if_neg p3,if_pos rfl]
 ·show Kg i s h ps sr gt gs W1.heap.size rv (Ij C.rs ar) (Ij C.ws aw) B0 sr=_;unfold Kg;rw[if_neg (by omega),if_neg (by omega),if_neg (by omega),if_pos rfl]
 ·have hbl:w4.heap.size<=b/\b≠sr:=by
   rcases hb with x|x
   ·rw[x];exact⟨g1,λe=>g3 e.symm⟩
   ·have:=hrv b x;exact⟨by omega,g4 b x⟩
  show Kg i s h ps sr gt gs W1.heap.size rv (Ij C.rs ar) (Ij C.ws aw) B0 b=_;unfold Kg;rw[if_neg (by omega),if_neg (by omega),if_neg (by omega),if_neg hbl.2,if_pos hb]
 ·by_cases hg:g<B0
  ·exact .inl hg
  ·refine .inr ?_;have hgl:=hcf g o e;have hn:¬(g=gt\/rv.ownBlock=some g):=λx=>by
    rcases x with x|x
    ·omega
    ·have:=hrv g x;omega
   show Kg i s h ps sr gt gs W1.heap.size rv (Ij C.rs ar) (Ij C.ws aw) B0 g=_;unfold Kg;rw[if_neg (by omega),if_neg (by omega),if_neg (by omega),if_neg (by omega),if_neg hn,if_neg (by omega),if_pos ⟨by omega,by
    rcases e with⟨y,x⟩|⟨y,x⟩
    ·have x':ar=some ⟨g,o,none⟩:=x;exact .inl (by rw[a9W y,x'];rfl)
    ·have x':aw=some ⟨g,o,none⟩:=x;exact .inr (by rw[a9W y,x'];rfl)⟩]
theorem c1F{i s h ps sr gt gs m B0:Nat}{rv:Value}{ca cb:Option Nat}{b:Nat}{t:Nat×Tg}(e:Kg i s h ps sr gt gs m rv ca cb B0 b=some t):t.1=i/\(b=s\/b=h\/b=ps\/b=sr\/b=gt\/rv.ownBlock=some b\/(gs<=b/\b<m)\/(B0<=b/\(ca=some b\/cb=some b))):=by
 unfold Kg at e
 split at e
 ·cases e;exact⟨rfl,.inl (by assumption)⟩
 split at e
 ·cases e;exact⟨rfl,.inr (.inl (by assumption))⟩
 split at e
 ·cases e;exact⟨rfl,.inr (.inr (.inl (by assumption)))⟩
 split at e
 ·cases e;exact⟨rfl,.inr (.inr (.inr (.inl (by assumption))))⟩
 split at e
 ·rename_i x
  cases e
  rcases x with x|x
  ·exact⟨rfl,.inr (.inr (.inr (.inr (.inl x))))⟩
  ·exact⟨rfl,.inr (.inr (.inr (.inr (.inr (.inl x)))))⟩
 split at e
 ·cases e;exact⟨rfl,.inr (.inr (.inr (.inr (.inr (.inr (.inl (by assumption)))))))⟩
 split at e
 ·cases e;exact⟨rfl,.inr (.inr (.inr (.inr (.inr (.inr (.inr (by assumption)))))))⟩
 ·cases e
end
end Go.Proofs.YtbiggccolpchcaaGreatDoor
