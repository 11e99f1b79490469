/- Joined. -/
import Derived.Test.YtbiggccolpchcaaGreatDoorJoin44
set_option maxRecDepth 100000
set_option maxHeartbeats 8000000
namespace Go.Proofs.YtbiggccolpchcaaGreatDoor
open Go.RowKit _root_.Go.Proofs.Tryz
theorem a3P(n:Nat):∀(L:List (List Int)) (x:List Int),x.length=n->(∀y∈L,y.length=n)->Ev n (L++[x])=Ei x (Ev n L)
 |[],x,_,_=>rfl
 |y::r,x,hx,h=>by
  rw[B3z,Ev,Ev,a3P n r x hx (λz hz=>h z (by simp[hz])),Ng]
theorem b8D(n:Nat)(rts:List Nat)(S:List Int)(k:Nat)(h:k<rts.length)(hr:rts[k]<n)(hS:S.length=n):Fo 200 rts[k] (Ei (Fm n (rts.take k)) S)=Ei (Fm n (rts.take (k+1))) S:=by
 rw[a3J _ _ _ _ (by rw[Om,hS]),a9R _ _ _ hr,A4z h]
theorem c3U(S:List Int)(r:Nat)(h:r<S.length):Fo 200 r S=S.set r (S[r]+1):=by
 unfold Fo;rw[if_pos rfl,Av h];rfl
theorem a3Q:∀(Bs:List (List UInt8)) (k:Nat),((Bs.take k).map λB=>B.length).sum<=(Bs.map λB=>B.length).sum
 |[],k=>by simp
 |B::r,0=>by simp
 |B::r,k+1=>by
  have:=a3Q r k;simp only[List.take_succ_cons,B1z,List.sum_cons];omega
theorem a9S:∀(Bs:List (List UInt8)) {B:L8},B∈Bs->B.length<=(Bs.map λB=>B.length).sum
 |[],B,h=>by cases h
 |A::r,B,h=>by
  simp only[B1z,List.sum_cons];rcases List.mem_cons.1 h with q|q
  ·rw[q];omega
  ·have:=a9S r q;omega
theorem Rs{w:World}{B:Nat}{T:TypeId}{v:Value}{n:Nat}{xs:List Value}(h:w.ownsRow B T 1 v n xs)(hn:0<n):∃(g cap:Nat),v=.slice (some ⟨g,0,none⟩) n cap/\B<=g/\g<w.heap.size/\∀(j:Nat) (u:Value),xs[j]?=some u->w.cell? ⟨g,j,none⟩=some u:=by
 obtain⟨h1,h2⟩:=h;rcases h2 with⟨_,h0⟩|⟨g,cap,cur,hv,hB,hg,_,_,_,hc⟩
 ·omega
 ·refine⟨g,cap,hv,hB,heap_lt hg,λj u hj=>?_⟩;rw[Ab hg];have h3:(cur.toList.take (n*1))[j]?=some u:=by rw[hc];exact hj
  rw[D0z]at h3
  split at h3
  ·simpa using h3
  ·cases h3
structure HtI(w:World)(hs:List Int)(W:World):Prop where
 b:Bw w W
 x:W.heap[w.heap.size]?=some (.cells (hiC hs) 3 (0,0))
theorem HtI.below{w W W':World}{hs:List Int}(h:HtI w hs W)(hb:Bw W W'):HtI w hs W':=⟨Bc h.b hb,by rw[hb.block _ (heap_lt h.x)];exact h.x⟩
theorem HtI.set{w W:World}{hs:List Int}(h:HtI w hs W)(r:Nat)(x:Int):HtI w (hs.set r x) (W.setCell ⟨w.heap.size,r,none⟩ (.int .i64 x)):=by
 refine⟨h.b.setCell (Ac _) _,?_⟩;have:=Bj h.x r (.int .i64 x);rw[this]
 congr 2
 apply Array.ext
 ·simp
 ·intro i h1 h2;simp[List.getElem_set]
theorem b3B{C:Cf}{sr gt:Nat}{ar:Oa}{cr:Nat}{aw:Oa}{cw:Nat}{es:List Prm}{v vc:Value}{B0:Nat}(l:List Nat)(Bs:List (List UInt8))(w:World)(h:RsI C sr gt ar cr aw cw vc es v w)(ho:w.ownsRow B0 202 1 vc l.length (Pv l))(hl:l.length<=1000000)(hBl:Bs.length=l.length)
  (hc:∀k (h1:k<l.length) (h2:k<Bs.length),∃en fa tk,RcB l[k] Bs[k] en fa tk w) (hz:(Bs.map λB=>B.length).sum<=2000000) :
  Calls prog 50 #[.pointer (some ⟨sr,0,none⟩)] w λx w'=>x=.returned (.slice (some ⟨w.heap.size,0,none⟩) C.rs.length C.rs.length)/\HtI w (Ev C.rs.length (Bs.map λB=>(Bk C B).hs)) w':=by
 obtain⟨i0,hi,hz0,hz1,hz2⟩:=info_parts Yz;obtain⟨c0,c1,c2,c3,c4,c5⟩:=h.cells;obtain⟨va,vn,rfl⟩:=Ce ho;have ls:=h.lt;obtain⟨n1,-,-,-⟩:=Iv h.ok.E;have g0:(0:Int)<=(C.rs.length:Int):=by omega
 have g1:(C.rs.length:Int)<=24:=by omega
 have hmk:=run_make (P:=prog) w 38 3 i0 (.int .i64 0) underlying38 hi hz0 .i64 .i64 (C.rs.length:Int) (C.rs.length:Int) g0 (Int.le_refl _) (by rw[hz2];omega) (by omega);simp only[Int.toNat_natCast,hz1,Nat.mul_one]at hmk;rw[Wk C.rs]at hmk;have hA:=bA w (.cells (hiC (C.rs.map λ_=>0)) 3);have HI0:Hid (HtI w (Ev C.rs.length ((Bs.take 0).map λB=>(Bk C B).hs)) (w.alloc (.cells (hiC (C.rs.map λ_=>0)) 3))):=by
  refine⟨hA,?_⟩;have e:Ev C.rs.length ((Bs.take 0).map λB=>(Bk C B).hs)=C.rs.map λ_=>0:=by
   apply F8z
   ·simp[Ev]
   ·intro i h1 h2;simp[Ev]
  rw[e];exact Ag w _
 have hln:∀k,(Ev C.rs.length ((Bs.take k).map λB=>(Bk C B).hs)).length=C.rs.length:=λk=>Ol _ _ (λx hx=>by
  obtain⟨B,-,rfl⟩:=List.mem_map.1 hx;exact Gk C B)
 have hbd:∀k,∀x∈Ev C.rs.length ((Bs.take k).map λB=>(Bk C B).hs),0<=x/\x<=2000000:=λk x hx=>by
  have:=Za C.rs.length ((Bs.take k).map λB=>(B,(Bk C B).hs)) 2000000 (λy hy=>by
   obtain⟨B,-,rfl⟩:=List.mem_map.1 hy;exact⟨Gk C B,a9P C B⟩) (by
   rw[E6z];refine Aj (a3Q _ k) hz) x (by rw[E6z];exact hx)
  exact this
 have HLN:=hid hln;have HBD:=hid hbd;have HC:=hid hc;have HO:=hid ho;have HH:=hid h;have HZ:=hid hz;clear h hln hbd hc ho hA hz;go_enter func50,ntmps50;go_wp2_with fail;clear hmk;generalize w.alloc (.cells (hiC (C.rs.map λ_=>0)) 3)=wz at *
 go_loopw [4,5,6] (λi _ _ wr=>∃k:Nat,k<=l.length/\i=.int .i64 k/\Hid (HtI w (Ev C.rs.length ((Bs.take k).map λB=>(Bk C B).hs)) wr)) (λi _ _ _=>l.length-(intOf i).toNat)
 case atStart=>exact⟨0,Ah _,rfl,HI0⟩
 case round=>
  obtain⟨k,hk,rfl,HI⟩:=hrel;obtain⟨wo,hwo⟩:∃x,x=wr:=⟨_,rfl⟩;subst hwo;have d5:=Aa HI.out.b c5;have lsr:sr<wo.heap.size:=Af ls HI.out.b.size;by_cases hlt:k<l.length
  ·have hlt':(k:Int)<(l.length:Int):=by omega
   have hk0:(0:Int)<=(k:Int):=by omega
   have hBk:k<Bs.length:=by omega
   obtain⟨en,fa,tk,hrc⟩:=HC.out k hlt hBk;have hrc2:RcB l[k] Bs[k] en fa tk wo:=by unfold RcB;rw[HI.out.b.block _ (heap_lt hrc)];exact hrc
   obtain⟨r0,-,-,-⟩:=Ff hrc2;have lrc:=heap_lt hrc2;obtain⟨g,cap,e,hB,hglt,hcc⟩:=Rs HO.out (by omega);obtain⟨rfl,-,rfl⟩:va=some ⟨g,0,none⟩/\True/\vn=cap:=by simpa using e
   have hp:wo.cell? ⟨g,k,none⟩=some (.pointer (some ⟨l[k],0,none⟩)):=Aa HI.out.b (hcc k _ (by simp[Pv,hlt]));have lg:=Ap hp;have hBz:(Bs[k]).length<=2000000:=by
    have:=a9S _ (As hBk);have:=HZ.out;omega
   have HP:=hid (Jm Bs[k] wo (HH.out.below HI.out.b) hBz);unfold Nh at HP;have HNX:Hid (Ev C.rs.length ((Bs.take (k+1)).map λB=>(Bk C B).hs)=Ei (Bk C Bs[k]).hs (Ev C.rs.length ((Bs.take k).map λB=>(Bk C B).hs))):=by
    rw[Hid,A4z hBk,B2z];exact a3P _ _ _ (Gk C _) (λy hy=>by
     obtain⟨B,-,rfl⟩:=List.mem_map.1 hy;exact Gk C B)
   have hSl:=HLN.out k;have hSb:=HBD.out k;generalize Ev C.rs.length ((Bs.take k).map λB=>(Bk C B).hs)=S at *
   generalize l[k]=rc at *
   generalize Bs[k]=B at *
   generalize Bk C B=P at *
   go_wp2_with fail;refine HP.out.mono ?_;rintro x w1 ⟨⟨vr,rts,rfl,ow,hhs,hrl,hrn⟩,hb1⟩;obtain⟨ra,rn,rfl⟩:=Ce ow;have hb2:=hb1.alloc hb1.size (.cells (plA P.out P.rq P.held.length P.cl (.slice ra rts.length rn)) 198);have bk:=Ag w1 (.cells (plA P.out P.rq P.held.length P.cl (.slice ra rts.length rn)) 198);have ow2:=Be ow (bA _ (.cells (plA P.out P.rq P.held.length P.cl (.slice ra rts.length rn)) 198));have I2:=HI.out.below hb2;clear HP ow;go_upto_region 6 with fail;have gpb:w.heap.size<w1.heap.size:=Af (heap_lt HI.out.x) hb1.size;generalize w1.alloc (.cells (plA P.out P.rq P.held.length P.cl (.slice ra rts.length rn)) 198)=w2 at *
   generalize w1.heap.size=pb at *
   have HB2:=hid hb2;have BK:=hid bk;have OW2:=hid ow2;have HI2:Hid (HtI w (Ei (Fm C.rs.length (rts.take 0)) S) w2):=by
    have e:Ei (Fm C.rs.length (rts.take 0)) S=S:=by
     have z:Fm C.rs.length (rts.take 0)=List.replicate C.rs.length 0:=by
      apply F8z
      ·simp[Fm]
      ·intro i h1 h2;simp[Fm]
     rw[z,Wn _ _ hSl]
    rw[Hid,e];exact I2
   have gwr:w.heap.size<wo.heap.size:=heap_lt HI.out.x;clear bk ow2 hb2 hb1 I2 HI hrc hrc2 r0 d5 hp hcc;go_wp2_with fail
   go_loopw [6] (λi wi=>∃q:Nat,q<=rts.length/\i=.int .i64 q/\Hid (HtI w (Ei (Fm C.rs.length (rts.take q)) S) wi)/\Hid (Kx [w.heap.size] w2 wi)) (λi _=>rts.length-(intOf i).toNat)
   case atStart=>exact⟨0,Ah _,rfl,HI2,Kx.refl _ _⟩
   case round=>
    obtain⟨q,hq,rfl,HJ,HK⟩:=hrel;have B3:=HK.out.heap BK.out (by simp;omega);have p4:wr.cell? ⟨pb,4,none⟩=some (.slice ra rts.length rn):=by rw[Ab B3];rfl
    have lpb:=heap_lt B3;by_cases hql:q<rts.length
    ·have hql':(q:Int)<(rts.length:Int):=by omega
     have hq0:(0:Int)<=(q:Int):=by omega
     have ow3:=Es OW2.out (w':=wr) (λr hr=>HK.out.2 r (Fl OW2.out hr).2 (by have:=Bx OW2.out r hr;simp;omega));obtain⟨g2,cap2,e2,hB2,hg2,hc2⟩:=Rs ow3 (by omega);obtain⟨rfl,-,rfl⟩:ra=some ⟨g2,0,none⟩/\True/\rn=cap2:=by simpa using e2
     have hrq:wr.cell? ⟨g2,q,none⟩=some (.int .i64 (rts[q]:Int)):=hc2 q _ (by simp[Zc,hql]);have hro:=hrn _ (As hql);have hlen:(Ei (Fm C.rs.length (rts.take q)) S).length=C.rs.length:=by rw[Uj (by rw[Om,hSl]),Om]
     have hsx:=b8D C.rs.length rts S q hql hro hSl;rw[c3U _ _ (by rw[hlen];exact hro)]at hsx;obtain⟨x,hx⟩:∃x,(Ei (Fm C.rs.length (rts.take q)) S)[rts[q]]'(by rw[hlen];exact hro)=x:=⟨_,rfl⟩;have hxb:0<=x/\x<=4000000:=by
      rw[<-hx];simp only[Ei,List.getElem_zipWith];have h1:=hSb _ (As (show rts[q]<S.length by omega));have h2:(Fm C.rs.length (rts.take q))[rts[q]]'(by rw[Om];exact hro)=(((rts.take q).count rts[q]:Nat):Int):=by simp[Fm]
      have h3:(rts.take q).count rts[q]<=q:=Aj List.count_le_length (by simp;omega);rw[h2];omega
     rw[hx]at hsx;have hcx:wr.cell? ⟨w.heap.size,rts[q],none⟩=some (.int .i64 x):=by
      rw[Ab HJ.out.x,Rm (by rw[hlen];exact hro),Av (by rw[hlen];exact hro),hx];rfl
     have zf:=Ai HJ.out.x rts[q];have lw:=heap_lt HJ.out.x;have lg2:=Ap hrq;have J2:=(HJ.out.below (Ad wr.heap.size wr).drew).set rts[q] (x+1);rw[hsx]at J2;have HJ2:=hid J2;have HK2:Hid (Kx [w.heap.size] w2 (wr.drew.setCell ⟨w.heap.size,rts[q],none⟩ (.int .i64 (x+1)))):=(HK.out.trans (Kx.of (L:=[]) (Ad wr.heap.size wr).drew) (λ_ h=>by simp at h)).trans (Kx.set _ _ (by simp)) (λ_ h=>.inl h);have r0:(0:Int)<=(rts[q]:Int):=by omega
     have r1:(rts[q]:Int)<(C.rs.length:Int):=by omega
     generalize rts[q]=ro at *
     clear HJ HK ow3 hc2 hsx J2 B3 e2 hx;go_upto_region 9 with fail
     go_region
     all_goals
      go_wp2_with fail;exact⟨⟨q+1,by omega,by go_num,HJ2,HK2⟩,by simp[intOf];omega⟩
    ·have hqe:¬(q:Int)<(rts.length:Int):=by omega
     have hqq:q=rts.length:=by omega
     have HJ3:=HJ;rw[hqq,E8z,<-hhs,<-HNX.out]at HJ3;clear HJ;go_wp2_with fail;exact⟨⟨k+1,by omega,by go_num,HJ3⟩,by simp[intOf];omega⟩
  ·have hge:¬(k:Int)<(l.length:Int):=by omega
   have hkk:k=l.length:=by omega
   have HF:=HI;rw[hkk,<-hBl,E8z]at HF;clear HI;go_wp2_with fail;go_ret;exact⟨rfl,HF.out⟩
end Go.Proofs.YtbiggccolpchcaaGreatDoor
namespace Go.Proofs.YtbiggccolpchcaaGreatDoor
open Go.RowKit Bn _root_.Go.Proofs.Tryz
def Ri(w:World)(m:Nat):World:={w with heap:=w.heap.extract 0 m}
theorem Gc{w:World}{m:Nat}(h:m<=w.heap.size):(Ri w m).heap.size=m:=by simp[Ri];omega
theorem Oq{w:World}{m k:Nat}(h:k<m):(Ri w m).heap[k]?=w.heap[k]?:=by
 simp only[Ri];rw[Array.getElem?_extract]
 split
 ·simp
 ·rw[Array.getElem?_eq_none (by omega)]
theorem b8E{w:World}{m:Nat}(h:m<=w.heap.size):Below m (Ri w m) w:=⟨rfl,rfl,rfl,by rw[Gc h];exact h,λk hk=>(Oq hk).symm⟩
theorem Mj{w w':World}{g:Nat}(h:w'.heap[g]?=w.heap[g]?)(hl:g<w.heap.size):g<w'.heap.size:=by
 rcases B8z g w'.heap.size with q|q
 ·exact q
 ·rw[Array.getElem?_eq_none q,Array.getElem?_eq_getElem hl]at h;cases h
theorem Ii.move{ps:List (Int×By)}{a:Oa}{w w':World}(h:Ii ps a w)(hk:∀g,a=some ⟨g,0,none⟩->w'.heap[g]?=w.heap[g]?):Ii ps a w':=λi hi=>by
 obtain⟨g,h1,h2,h3,h4⟩:=h i hi;exact⟨g,h1,Mj (hk g h1) h2,by rw[Au (w:=w) (hk g h1)];exact h3,by rw[Au (w:=w) (hk g h1)];exact h4⟩
theorem TbAt.move{gt o B:Nat}{es:List Ent}{v:Value}{w w':World}(h:TbAt gt o B es v w)(h1:w'.heap[gt]?=w.heap[gt]?)(h2:∀r,v.ownBlock=some r->w'.heap[r]?=w.heap[r]?)(h3:∀e∈es,∀g,e.a=some ⟨g,0,none⟩->w'.heap[g]?=w.heap[g]?):TbAt gt o B es v w':=
 ⟨by rw[Au (w:=w) h1];exact h.cel,Iq h1 h.fre,Cl h.row h2,λi hi=>(h.pat i hi).move (λg hg=>h3 _ (As hi) g hg),h.far,λi hi g hg=>Mj (h3 _ (As hi) g hg) (h.blk i hi g hg),h.own,h.few,h.szs,h.new⟩
def Wu(gs:Nat)(es:List Ent)(v vh vw:Value)(b:Nat):Prop:=b=gs\/v.ownBlock=some b\/vh.ownBlock=some b\/vw.ownBlock=some b\/∃e∈es,e.a=some ⟨b,0,none⟩
theorem StI.move{gs B:Nat}{es:List Ent}{hs:List Hn}{ws:List Wr}{v vh vw:Value}{w w':World}(h:StI gs B es hs ws v vh vw w)(hk:∀b,Wu gs es v vh vw b->w'.heap[b]?=w.heap[b]?):StI gs B es hs ws v vh vw w':=
 ⟨by rw[hk gs (.inl rfl)];exact h.blk,h.tb.move (hk gs (.inl rfl)) (λr hr=>hk r (.inr (.inl hr))) (λe he g hg=>hk g (.inr (.inr (.inr (.inr ⟨e,he,hg⟩))))),Cl h.hr (λr hr=>hk r (.inr (.inr (.inl hr)))),Cl h.wr (λr hr=>hk r (.inr (.inr (.inr (.inl hr))))),h.h1,h.h2,h.w1,h.w2⟩
theorem a9T{gs B:Nat}{es:List Ent}{hs:List Hn}{ws:List Wr}{v vh vw:Value}{w:World}(h:StI gs B es hs ws v vh vw w){b:Nat}(hb:Wu gs es v vh vw b):b<w.heap.size:=by
 rcases hb with rfl|hb|hb|hb|⟨e,he,hb⟩
 ·exact heap_lt h.blk
 ·exact(Cb h.tb.row b hb).2
 ·exact(Cb h.hr b hb).2
 ·exact(Cb h.wr b hb).2
 ·obtain⟨i,hi,rfl⟩:=List.getElem_of_mem he;exact h.tb.blk i hi b hb
theorem c1B{gs:Nat}{es:List Ent}{hs:List Hn}{ws:List Wr}{v vh vw:Value}{w:World}(h:StI gs gs es hs ws v vh vw w){b:Nat}(hb:Wu gs es v vh vw b):gs<=b:=by
 rcases hb with rfl|hb|hb|hb|⟨e,he,hb⟩
 ·exact Ac _
 ·exact(Cb h.tb.row b hb).1
 ·exact(Cb h.hr b hb).1
 ·exact(Cb h.wr b hb).1
 ·obtain⟨i,hi,rfl⟩:=List.getElem_of_mem he;exact h.tb.new i hi b hb
theorem TrAt.move{gt B:Nat}{es:List Prm}{v:Value}{w w':World}(h:TrAt gt B es v w)(h1:w'.heap[gt]?=w.heap[gt]?)(h2:∀r,v.ownBlock=some r->w'.heap[r]?=w.heap[r]?):TrAt gt B es v w':=
 ⟨by rw[Au (w:=w) h1];exact h.cel,Iq h1 h.fre,Cl h.row h2,h.own,h.few,h.pat⟩
theorem Da.move{α:Type}{sz:Nat}{f:α->List Value}{l:List α}{a:Oa}{w w':World}(h:Da sz f l a w)(hk:∀g o,l≠[]/\a=some ⟨g,o,none⟩->w'.heap[g]?=w.heap[g]?):Da sz f l a w':=λi hi=>by
 have hl:l≠[]:=λe=>by rw[e]at hi;simp at hi
 obtain⟨g,o,h1,h2,h3⟩:=h i hi;exact⟨g,o,h1,Mj (hk g o ⟨hl,h1⟩) h2,λj v hv=>by rw[Au (w:=w) (hk g o ⟨hl,h1⟩)];exact h3 j v hv⟩
structure Con where
 c:Nat
 pc:Nat
 vo:Value
 rc:Nat
 B:L8
 tk:Nat
 en:Bool
 fa:Bool
def Con.cl(C:Cf)(k:Con):Bool:=k.en||(Bk C k.B).cl
def Con.held(C:Cf)(k:Con):L8:=if k.en=true then[]else(Bk C k.B).held
structure Hs where
 C:Cf
 s:Nat
 gs:Nat
 h:Nat
 ps:Nat
 m:Nat
 es:List Ent
 v:Value
 vh:Value
 vw:Value
 sr:Nat
 gt:Nat
 ar:Oa
 cr:Nat
 aw:Oa
 cw:Nat
 res:List Prm
 rv:Value
 vc:Value
 cs:List Con
def Hs.V(H:Hs)(w:World):Sv:=⟨H.s,H.gs,H.h,H.C.hd,H.C.bd,Ri w H.m⟩
def Hs.hs(H:Hs):List Int:=Ev H.C.rs.length (H.cs.map λk=>(Bk H.C k.B).hs)
structure Tg where
 a:Nat
 k:Nat
abbrev Tg.hrow:Tg:=⟨0,0⟩
abbrev Tg.lrow:Tg:=⟨1,0⟩
abbrev Tg.site:Tg:=⟨2,0⟩
abbrev Tg.srv:Tg:=⟨3,0⟩
abbrev Tg.hit:Tg:=⟨4,0⟩
abbrev Tg.ps:Tg:=⟨5,0⟩
abbrev Tg.ref:Tg:=⟨6,0⟩
abbrev Tg.rtab:Tg:=⟨7,0⟩
abbrev Tg.cfg:Tg:=⟨8,0⟩
abbrev Tg.crow:Tg:=⟨9,0⟩
abbrev Tg.con(k:Nat):Tg:=⟨10,k⟩
abbrev Tg.pcn(k:Nat):Tg:=⟨11,k⟩
abbrev Tg.out(k:Nat):Tg:=⟨12,k⟩
abbrev Tg.rcn(k:Nat):Tg:=⟨13,k⟩
structure ConI(H:Hs)(O:Nat->Option (Nat×Tg))(i j:Nat)(k:Con)(w:World):Prop where
 blk:w.heap[k.c]?=some (.cells #[.pointer (some ⟨H.s,0,none⟩),.string ⟨(k.held H.C).toArray⟩,k.vo,.int .i64 (Bk H.C k.B).rq,.bool (k.cl H.C)] 255 (0,0))
 out:Ex H.m 5 k.vo (Lib.byteCells (En H.C k.B k.fa k.tk)) w
 pa:Lo k.pc k.c w
 rb:RcB k.rc k.B k.en k.fa k.tk w
 ge:H.m<=k.c
 fe:k.fa=true->k.en=true
 tk:k.tk<=(Bk H.C k.B).out.length
 oc:O k.c=some (i,.con j)
 op:O k.pc=some (i,.pcn j)
 oo:∀r,k.vo.ownBlock=some r->O r=some (i,.out j)
 or_:O k.rc=some (i,.rcn j)
 rg:H.m<=k.rc
structure HsI(B0:Nat)(O:Nat->Option (Nat×Tg))(i:Nat)(H:Hs)(w:World):Prop where
 st:StI H.gs H.gs H.es (H.C.rs.map Rt.h) H.C.ws H.v H.vh H.vw w
 eb:H.es.map Ent.bare=H.C.rs.map Cd
 sb:w.heap[H.s]?=some (.cells #[.int .i64 H.C.hd,.int .i64 H.C.bd,.pointer (some ⟨H.gs,0,none⟩),.int .i32 0,.int .u32 0,hv H.h H.hs.length] 251 (0,0))
 hb:w.heap[H.h]?=some (.cells (hiC H.hs) 3 (0,0))
 pb:w.heap[H.ps]?=some (.cells #[.pointer (some ⟨H.s,0,none⟩)] 189 (0,0))
 rs:RsI H.C H.sr H.gt H.ar H.cr H.aw H.cw H.vc H.res H.rv w
 row:w.ownsRow B0 202 1 H.vc H.cs.length (Pv (H.cs.map Con.rc))
 cs:∀j (h:j<H.cs.length),ConI H O i j H.cs[j] w
 m0:B0<=H.m
 ms:H.m<=H.s
 mh:H.m<=H.h
 mg:∀b,Wu H.gs H.es H.v H.vh H.vw b->b<H.m
 og:∀b,Wu H.gs H.es H.v H.vh H.vw b->O b=some (i,.site)
 os:O H.s=some (i,.srv)
 oh:O H.h=some (i,.hit)
 op:O H.ps=some (i,.ps)
 or_:O H.sr=some (i,.ref)
 ot:∀b,b=H.gt\/H.rv.ownBlock=some b->O b=some (i,.rtab)
 oa:∀g o,(H.C.rs≠[]/\H.ar=some ⟨g,o,none⟩)\/(H.C.ws≠[]/\H.aw=some ⟨g,o,none⟩)->g<B0\/O g=some (i,.cfg)
 ow:∀b,H.vc.ownBlock=some b->O b=some (i,.crow)
 cg:∀g o,(H.C.rs≠[]/\H.ar=some ⟨g,o,none⟩)\/(H.C.ws≠[]/\H.aw=some ⟨g,o,none⟩)->g<w.heap.size
structure Gl(w0:World)(mx:Int):Prop where
 mx:w0.cell? ⟨0,0,none⟩=some (.int .i64 mx)
 tab:Lib.TabBelow prog w0.heap.size w0 "internal/strconv.uint64pow10" .u64 Lib.pow10Tab
section
variable{O:Nat->Option (Nat×Tg)}{i:Nat}{H:Hs}{w0 w w':World}{mx:Int}{B0:Nat}
theorem ConI.stay{j:Nat}{k:Con}(h:ConI H O i j k w)(hk:∀b t,O b=some (i,t)->w'.heap[b]?=w.heap[b]?):ConI H O i j k w':=
 ⟨by rw[hk _ _ h.oc];exact h.blk,h.out.keep (λr hr=>hk r _ (h.oo r hr)),by unfold Lo;rw[hk _ _ h.op];exact h.pa,by unfold RcB;rw[hk _ _ h.or_];exact h.rb,h.ge,h.fe,h.tk,h.oc,h.op,h.oo,h.or_,h.rg⟩
theorem RsI.move{C:Cf}{sr gt:Nat}{ar:Oa}{cr:Nat}{aw:Oa}{cw:Nat}{vc:Value}{es:List Prm}{v:Value}(h:RsI C sr gt ar cr aw cw vc es v w)(h1:w'.heap[sr]?=w.heap[sr]?)(h2:w'.heap[gt]?=w.heap[gt]?)(h3:∀r,v.ownBlock=some r->w'.heap[r]?=w.heap[r]?)(h4:∀g o,(C.rs≠[]/\ar=some ⟨g,o,none⟩)\/(C.ws≠[]/\aw=some ⟨g,o,none⟩)->w'.heap[g]?=w.heap[g]?):RsI C sr gt ar cr aw cw vc es v w':=
 ⟨by rw[h1];exact h.blk,h.tr.move h2 h3,h.sp,h.eb,h.ez,h.rr.move (λg o e=>h4 g o (.inl e)),h.ww.move (λg o e=>h4 g o (.inr e)),h.kw,h.ok⟩
theorem HsI.stay(h:HsI B0 O i H w)(hB:∀b,b<B0->w'.heap[b]?=w.heap[b]?)(hk:∀b t,O b=some (i,t)->w'.heap[b]?=w.heap[b]?):HsI B0 O i H w':=
 {h with
  st:=h.st.move (λb hb=>hk b _ (h.og b hb))
  sb:=by rw[hk _ _ h.os];exact h.sb
  hb:=by rw[hk _ _ h.oh];exact h.hb
  pb:=by rw[hk _ _ h.op];exact h.pb
  rs:=h.rs.move (hk _ _ h.or_) (hk _ _ (h.ot _ (.inl rfl))) (λr hr=>hk r _ (h.ot r (.inr hr))) (λg o e=>by
   rcases h.oa g o e with q|q
   ·exact hB g q
   ·exact hk g _ q)
  row:=Cl h.row (λr hr=>hk r _ (h.ow r hr))
  cg:=λg o e=>by
   have hg:=h.cg g o e;rcases h.oa g o e with q|q
   ·exact Mj (hB g q) hg
   ·exact Mj (hk g _ q) hg
  cs:=λj hj=>(h.cs j hj).stay hk}
theorem HsI.retag{O':Nat->Option (Nat×Tg)}(h:HsI B0 O i H w)(hO:∀b,b<w.heap.size->O' b=O b):HsI B0 O' i H w:=
 {h with
  og:=λb hb=>by rw[hO b (a9T h.st hb)];exact h.og b hb
  os:=by rw[hO _ (heap_lt h.sb)];exact h.os
  oh:=by rw[hO _ (heap_lt h.hb)];exact h.oh
  op:=by rw[hO _ (heap_lt h.pb)];exact h.op
  or_:=by rw[hO _ h.rs.lt];exact h.or_
  ot:=λb hb=>by
   rw[hO b (by
    rcases hb with rfl|q
    ·exact h.rs.tr.lt
    ·exact(Cb h.rs.tr.row b q).2)]
   exact h.ot b hb
  oa:=λg o e=>by
   rcases h.oa g o e with q|q
   ·exact .inl q
   ·by_cases hg:g<w.heap.size
    ·exact .inr (by rw[hO g hg];exact q)
    ·exact absurd (h.cg g o e) hg
  ow:=λb hb=>by rw[hO b (Cb h.row b hb).2];exact h.ow b hb
  cs:=λj hj=>by
   have c:=h.cs j hj;exact{c with
    oc:=by rw[hO _ (heap_lt c.blk)];exact c.oc
    op:=by rw[hO _ (heap_lt c.pa)];exact c.op
    oo:=λr hr=>by rw[hO r (c.out.lt hr).2];exact c.oo r hr
    or_:=by rw[hO _ (heap_lt c.rb)];exact c.or_}}
theorem HsI.retag'{O':Nat->Option (Nat×Tg)}(h:HsI B0 O i H w)(hO:∀b t,O b=some (i,t)->O' b=some (i,t)):HsI B0 O' i H w:=
 {h with
  og:=λb hb=>hO b _ (h.og b hb)
  os:=hO _ _ h.os
  oh:=hO _ _ h.oh
  op:=hO _ _ h.op
  or_:=hO _ _ h.or_
  ot:=λb hb=>hO b _ (h.ot b hb)
  oa:=λg o e=>by
   rcases h.oa g o e with q|q
   ·exact .inl q
   ·exact .inr (hO g _ q)
  ow:=λb hb=>hO b _ (h.ow b hb)
  cs:=λj hj=>by
   have c:=h.cs j hj;exact{c with
    oc:=hO _ _ c.oc
    op:=hO _ _ c.op
    oo:=λr hr=>hO r _ (c.oo r hr)
    or_:=hO _ _ c.or_}}
theorem HsI.ml(h:HsI B0 O i H w):H.m<=w.heap.size:=Aj h.ms (F6z (heap_lt h.sb))
theorem HsI.svi(h:HsI B0 O i H w):SvI (H.V w) H.hs w:=
 ⟨by show Below (Ri w H.m).heap.size (Ri w H.m) w;rw[Gc h.ml];exact b8E h.ml,h.sb,h.hb,by show(Ri w H.m).heap.size<=H.s;rw[Gc h.ml];exact h.ms,by show(Ri w H.m).heap.size<=H.h;rw[Gc h.ml];exact h.mh,λe=>by
  have e':H.s=H.h:=e;have:=h.os;rw[e',h.oh]at this;cases this⟩
theorem Gl.at_(G:Gl w0 mx)(hb:Bw w0 w):w.cell? ⟨0,0,none⟩=some (.int .i64 mx):=Aa hb G.mx
theorem HsI.svok(h:HsI w0.heap.size O i H w)(hb:Bw w0 w)(G:Gl w0 mx):SvOk (H.V w) H.C H.es H.v H.vh H.vw mx:=by
 have hm:=h.ml;have h0:=h.m0;have hgl:0<w0.heap.size:=Ap G.mx;refine⟨rfl,rfl,h.st.move (λb hb=>Oq (h.mg b hb)),h.eb,h.rs.ok.E,h.rs.ok.rs,h.rs.ok.ws,?_,λW hW=>?_⟩
 ·show(Ri w H.m).cell? _=_;rw[Au (w:=w) (Oq (by show 0<H.m;omega))];exact G.at_ hb
 ·have hW':Below H.m (Ri w H.m) W:=by
   have:=hW;rw[show(H.V w).w1.heap.size=H.m from Gc hm]at this;exact this
  refine G.tab W ⟨hW'.os.trans hb.os,hW'.tape.trans hb.tape,hW'.output.trans hb.output,?_,λk hk=>?_⟩
  ·have:=hW'.size;rw[Gc hm]at this;omega
  ·rw[hW'.block k (by omega),Oq (by omega),hb.block k hk]
theorem HsI.cni(h:HsI B0 O i H w){j:Nat}(hj:j<H.cs.length):CnI (H.V w) (H.cs[j]).c (H.cs[j]).vo ⟨((H.cs[j]).held H.C).toArray⟩ (En H.C (H.cs[j]).B (H.cs[j]).fa (H.cs[j]).tk) (Bk H.C (H.cs[j]).B).rq ((H.cs[j]).cl H.C) w:=by
 have c:=h.cs j hj;have hz:(H.V w).w1.heap.size=H.m:=Gc h.ml;refine⟨c.blk,by rw[hz];exact c.out,by rw[hz];exact c.ge,λe=>?_,λe=>?_,λe=>?_,λe=>?_,λe=>?_⟩
 ·have e':(H.cs[j]).c=H.s:=e;have:=c.oc;rw[e',h.os]at this;cases this
 ·have e':(H.cs[j]).c=H.h:=e;have:=c.oc;rw[e',h.oh]at this;cases this
 ·have:=c.oo _ e;rw[c.oc]at this;cases this
 ·have:=c.oo _ e;have q:O H.s=some (i,.out j):=this;rw[h.os]at q;cases q
 ·have:=c.oo _ e;have q:O H.h=some (i,.out j):=this;rw[h.oh]at q;cases q
end
structure StepH(B0:Nat)(O:Nat->Option (Nat×Tg))(i:Nat)(H:Hs)(w:World)(O':Nat->Option (Nat×Tg))(H':Hs)(w':World):Prop where
 h:HsI B0 O' i H' w'
 sz:w.heap.size<=w'.heap.size
 os:w'.os=w.os/\w'.tape=w.tape/\w'.output=w.output
 keep:∀b,b<w.heap.size->(∀t,O b≠some (i,t))->w'.heap[b]?=w.heap[b]?
 old:∀b,b<w.heap.size->O' b=O b
 new:∀b,w.heap.size<=b->∀t,O' b=some t->t.1=i/\b<w'.heap.size
 ps:H'.ps=H.ps
 sr:H'.sr=H.sr
theorem Kd{α β:Type}(f:α->β):∀(l:List α) (j:Nat) (x:α) (h:j<l.length),f x=f l[j]->(l.set j x).map f=l.map f
 |[],j,x,h,_=>absurd h (by simp)
 |a::r,0,x,_,e=>by simp at e;simp[e]
 |a::r,j+1,x,h,e=>by
  have:=Kd f r j x (by simpa using h) (by simpa using e);simp[this]
section
variable{O:Nat->Option (Nat×Tg)}{i:Nat}{H:Hs}{w0 w w':World}{mx:Int}{B0:Nat}
def Hs.set(H:Hs)(j:Nat)(k:Con):Hs:={H with cs:=H.cs.set j k}
theorem b8F(H:Hs){j:Nat}(hj:j<H.cs.length):∃d:List Int,d.length=H.C.rs.length/\H.hs=Ei (Bk H.C (H.cs[j]).B).hs d/\∀k,(H.set j k).hs=Ei (Bk H.C k.B).hs d:=by
 obtain⟨d,h1,h2,h3⟩:=a9Q H.C.rs.length (H.cs.map λk=>(Bk H.C k.B).hs) j (by simpa using hj) (λx hx=>by
  obtain⟨k,-,rfl⟩:=List.mem_map.1 hx;exact Gk _ _)
 refine⟨d,h1,?_,λk=>?_⟩
 ·unfold Hs.hs;rw[h2,List.getElem_map]
 ·unfold Hs.hs Hs.set;simp only;rw[List.map_set];exact h3 _
theorem HsI.con(h:HsI B0 O i H w){j:Nat}(hj:j<H.cs.length){k:Con}(sz:w.heap.size<=w'.heap.size)(os:w'.os=w.os/\w'.tape=w.tape/\w'.output=w.output)
  (hkp:∀b,b<w.heap.size->(∀t,O b≠some (i,t))->w'.heap[b]?=w.heap[b]?) (hB:∀b,b<B0->w'.heap[b]?=w.heap[b]?)
  (hst:∀b t,O b=some (i,t)->t≠.srv->t≠.hit->t≠.con j->t≠.out j->t≠.rcn j->w'.heap[b]?=w.heap[b]?)
  (ec:k.c=(H.cs[j]).c) (ep:k.pc=(H.cs[j]).pc) (er:k.rc=(H.cs[j]).rc)
  (sb:w'.heap[H.s]?=some (.cells #[.int .i64 H.C.hd,.int .i64 H.C.bd,.pointer (some ⟨H.gs,0,none⟩),.int .i32 0,.int .u32 0,hv H.h (H.set j k).hs.length] 251 (0,0)))
  (hb:w'.heap[H.h]?=some (.cells (hiC (H.set j k).hs) 3 (0,0)))
  (blk:w'.heap[k.c]?=some (.cells #[.pointer (some ⟨H.s,0,none⟩),.string ⟨(k.held H.C).toArray⟩,k.vo,.int .i64 (Bk H.C k.B).rq,.bool (k.cl H.C)] 255 (0,0)))
  (out:Ex H.m 5 k.vo (Lib.byteCells (En H.C k.B k.fa k.tk)) w') (rb:RcB k.rc k.B k.en k.fa k.tk w') (fe:k.fa=true->k.en=true) (tk:k.tk<=(Bk H.C k.B).out.length)
  (hvo:∀r,k.vo.ownBlock=some r->(H.cs[j]).vo.ownBlock=some r\/w.heap.size<=r):∃O',StepH B0 O i H w O' (H.set j k) w':=by
 have cj:=h.cs j hj;have hO:∀b,b<w.heap.size->(if b<w.heap.size then O b else if k.vo.ownBlock=some b then some (i,Tg.out j)else none)=O b:=λb hb=>if_pos hb;refine⟨λb=>if b<w.heap.size then O b else if k.vo.ownBlock=some b then some (i,Tg.out j)else none,?_,sz,os,hkp,hO,λb hb t ht=>?_,rfl,rfl⟩
 ·have hr:=h.retag hO;have hst2:∀b t,b<w.heap.size->O b=some (i,t)->t≠.srv->t≠.hit->t≠.con j->t≠.out j->t≠.rcn j->w'.heap[b]?=w.heap[b]?:=λb t _=>hst b t;have hlen:(H.set j k).cs.length=H.cs.length:=by simp[Hs.set]
  refine{st:=?_,eb:=h.eb,sb:=sb,hb:=hb,pb:=?_,rs:=?_,row:=?_,cs:=λq hq=>?_,m0:=h.m0,ms:=h.ms,mh:=h.mh,mg:=h.mg,og:=hr.og,os:=hr.os,oh:=hr.oh,op:=hr.op,or_:=hr.or_,ot:=hr.ot,oa:=hr.oa,ow:=hr.ow,cg:=λg o e=>Af (h.cg g o e) sz}
  ·exact h.st.move (λb hb=>hst b _ (h.og b hb) (by simp) (by simp) (by simp) (by simp) (by simp))
  ·show w'.heap[H.ps]?=_;rw[hst _ _ h.op (by simp) (by simp) (by simp) (by simp) (by simp)];exact h.pb
  ·exact h.rs.move (hst _ _ h.or_ (by simp) (by simp) (by simp) (by simp) (by simp)) (hst _ _ (h.ot _ (.inl rfl)) (by simp) (by simp) (by simp) (by simp) (by simp)) (λr hr=>hst r _ (h.ot r (.inr hr)) (by simp) (by simp) (by simp) (by simp) (by simp)) (λg o e=>by
    rcases h.oa g o e with q|q
    ·exact hB g q
    ·exact hst g _ q (by simp) (by simp) (by simp) (by simp) (by simp))
  ·have e:(H.set j k).cs.map Con.rc=H.cs.map Con.rc:=Kd Con.rc H.cs j k hj er;rw[e,hlen];exact Cl h.row (λr hr=>hst r _ (h.ow r hr) (by simp) (by simp) (by simp) (by simp) (by simp))
  ·have hq0:q<H.cs.length:=by rw[<-hlen];exact hq
   by_cases hqj:q=j
   ·subst hqj;have e:(H.set q k).cs[q]'hq=k:=by simp[Hs.set]
    rw[e];refine⟨blk,out,?_,rb,by rw[ec];exact cj.ge,fe,tk,by rw[ec];exact(hr.cs q hq0).oc,by rw[ep];exact(hr.cs q hq0).op,λr hr2=>?_,by rw[er];exact(hr.cs q hq0).or_,by rw[er];exact cj.rg⟩
    ·rw[ep,ec];show w'.heap[(H.cs[q]).pc]?=_;rw[hst _ _ cj.op (by simp) (by simp) (by simp) (by simp) (by simp)];exact cj.pa
    ·rcases hvo r hr2 with x|x
     ·exact(hr.cs q hq0).oo r x
     ·show(if r<w.heap.size then O r else if k.vo.ownBlock=some r then some (i,Tg.out q)else none)=_;rw[if_neg (by omega),if_pos hr2]
   ·have e:(H.set j k).cs[q]'hq=H.cs[q]:=by simp[Hs.set];rw[List.getElem_set_ne (λx=>hqj x.symm)]
    rw[e];have c:=hr.cs q hq0;have c0:=h.cs q hq0;refine⟨?_,c.out.keep (λr hr2=>hst r _ (c0.oo r hr2) (by simp) (by simp) (by simp) (by simp;omega) (by simp)),?_,?_,c.ge,c.fe,c.tk,c.oc,c.op,c.oo,c.or_,c.rg⟩
    ·rw[hst _ _ c0.oc (by simp) (by simp) (by simp;omega) (by simp) (by simp)];exact c0.blk
    ·show w'.heap[(H.cs[q]).pc]?=_;rw[hst _ _ c0.op (by simp) (by simp) (by simp) (by simp) (by simp)];exact c0.pa
    ·show w'.heap[(H.cs[q]).rc]?=_;rw[hst _ _ c0.or_ (by simp) (by simp) (by simp) (by simp) (by simp;omega)];exact c0.rb
 ·have ht:(if b<w.heap.size then O b else if k.vo.ownBlock=some b then some (i,Tg.out j)else none)=some t:=ht;rw[if_neg (by omega)]at ht
  split at ht
  ·rename_i hv2
   cases ht
   exact⟨rfl,(out.lt hv2).2⟩
  ·cases ht
end
section
variable{O:Nat->Option (Nat×Tg)}{i:Nat}{H:Hs}{w0 w w1 w':World}{mx:Int}{B0:Nat}
theorem HsI.rcx(h:HsI B0 O i H w){j:Nat}(hj:j<H.cs.length)(hz:(H.cs[j]).B.length<=2000000)(hB:∀b,b<B0->w1.heap[b]?=w.heap[b]?)(hk:∀b t,O b=some (i,t)->t≠.srv->t≠.hit->t≠.con j->t≠.out j->w1.heap[b]?=w.heap[b]?):
  ∃g cap,H.vc=.slice (some ⟨g,0,none⟩) H.cs.length cap/\O g=some (i,.crow)/\RcX H.C H.sr H.gt H.ar H.cr H.aw H.cw g H.cs.length cap H.res H.rv j (H.cs[j]).rc (H.cs[j]).B (H.cs[j]).en (H.cs[j]).fa (H.cs[j]).tk w1:=by
 have hrow:w1.ownsRow B0 202 1 H.vc H.cs.length (Pv (H.cs.map Con.rc)):=Cl h.row (λr hr=>hk r _ (h.ow r hr) (by simp) (by simp) (by simp) (by simp));have hrs:=h.rs.move (w':=w1) (hk _ _ h.or_ (by simp) (by simp) (by simp) (by simp)) (hk _ _ (h.ot _ (.inl rfl)) (by simp) (by simp) (by simp) (by simp)) (λr hr=>hk r _ (h.ot r (.inr hr)) (by simp) (by simp) (by simp) (by simp)) (λg o e=>by
    rcases h.oa g o e with q|q
    ·exact hB g q
    ·exact hk g _ q (by simp) (by simp) (by simp) (by simp))
 obtain⟨g,cap,e,-,-,hc⟩:=Rs hrow (by omega);refine⟨g,cap,e,h.ow g (by rw[e];rfl),by rw[<-e];exact hrs,hc j _ (by simp[Pv,hj]),?_,hj,hz⟩;unfold RcB;rw[hk _ _ (h.cs j hj).or_ (by simp) (by simp) (by simp) (by simp)];exact(h.cs j hj).rb
theorem HsI.same(h:HsI B0 O i H w)(hb:Bw w w')(h0:B0<=w.heap.size):∃O',StepH B0 O i H w O' H w':=by
 have hO:∀b,b<w.heap.size->(if b<w.heap.size then O b else none)=O b:=λb hb=>if_pos hb;refine⟨λb=>if b<w.heap.size then O b else none,?_,hb.size,⟨hb.os,hb.tape,hb.output⟩,λb hl _=>hb.block b hl,hO,λb hl t ht=>?_,rfl,rfl⟩
 ·refine(h.retag hO).stay (λb hl=>hb.block b (by omega)) (λb t ht=>?_);by_cases hl:b<w.heap.size
  ·exact hb.block b hl
  ·have ht:(if b<w.heap.size then O b else none)=some (i,t):=ht;rw[if_neg hl]at ht;cases ht
 ·have ht:(if b<w.heap.size then O b else none)=some t:=ht;rw[if_neg (by omega)]at ht;cases ht
theorem HsI.b0(h:HsI B0 O i H w):B0<=w.heap.size:=Aj h.m0 h.ml
theorem HsI.cnl(h:HsI B0 O i H w){j:Nat}(hj:j<H.cs.length){b:Nat}(hb:b∈cnL (H.V w) (H.cs[j]).c (H.cs[j]).vo):∃t,O b=some (i,t)/\(t=.srv\/t=.hit\/t=.con j\/t=.out j):=by
 simp only[cnL,B3z,F4z,C3z,B5z]at hb;rcases hb with rfl|rfl|rfl|hb
 ·exact⟨_,h.os,.inl rfl⟩
 ·exact⟨_,h.oh,.inr (.inl rfl)⟩
 ·exact⟨_,(h.cs j hj).oc,.inr (.inr (.inl rfl))⟩
 ·exact⟨_,(h.cs j hj).oo b hb,.inr (.inr (.inr rfl))⟩
theorem HsI.cnge(h:HsI B0 O i H w){j:Nat}(hj:j<H.cs.length){b:Nat}(hb:b∈cnL (H.V w) (H.cs[j]).c (H.cs[j]).vo):B0<=b:=by
 have c:=h.cs j hj;simp only[cnL,B3z,F4z,C3z,B5z]at hb;rcases hb with rfl|rfl|rfl|hb
 ·exact Aj h.m0 h.ms
 ·exact Aj h.m0 h.mh
 ·exact Aj h.m0 c.ge
 ·exact Aj h.m0 (c.out.lt hb).1
theorem HsI.rcge(h:HsI B0 O i H w){j:Nat}(hj:j<H.cs.length):B0<=(H.cs[j]).rc:=Aj h.m0 (h.cs j hj).rg
theorem HsI.cnk(h:HsI B0 O i H w){j:Nat}(hj:j<H.cs.length)(hk:Kx (cnL (H.V w) (H.cs[j]).c (H.cs[j]).vo) w w1):(∀b t,b<w.heap.size->O b=some (i,t)->t≠.srv->t≠.hit->t≠.con j->t≠.out j->w1.heap[b]?=w.heap[b]?)/\(∀b,b<w.heap.size->(∀t,O b≠some (i,t))->w1.heap[b]?=w.heap[b]?):=by
 refine⟨λb t hl ht t1 t2 t3 t4=>hk.2 b hl (λhm=>?_),λb hl hn=>hk.2 b hl (λhm=>?_)⟩
 ·obtain⟨t',h1,h2⟩:=h.cnl hj hm;rw[ht]at h1
  cases h1
  rcases h2 with q|q|q|q
  ·exact t1 q
  ·exact t2 q
  ·exact t3 q
  ·exact t4 q
 ·obtain⟨t',h1,-⟩:=h.cnl hj hm;exact hn t' h1
end
def Hs.sumB(H:Hs):Nat:=(H.cs.map λk=>k.B.length).sum
theorem c5E(H:Hs):∀x∈H.hs,0<=x/\x<=H.sumB:=by
 intro x hx;refine Za H.C.rs.length (H.cs.map λk=>(k.B,(Bk H.C k.B).hs)) H.sumB (λy hy=>?_) (by rw[E6z];exact Ac _) x (by rw[E6z];exact hx);obtain⟨k,-,rfl⟩:=List.mem_map.1 hy;exact⟨Gk _ _,a9P _ _⟩
theorem a7X(H:Hs):H.hs.length=H.C.rs.length:=Ol _ _ (λx hx=>by
 obtain⟨k,-,rfl⟩:=List.mem_map.1 hx;exact Gk _ _)
theorem b8G:∀(cs:List Con) (j:Nat) (h:j<cs.length) (k:Con) (n:Nat),k.B.length<=(cs[j]).B.length+n->((cs.set j k).map λk=>k.B.length).sum<=(cs.map λk=>k.B.length).sum+n
 |[],j,h,_,_,_=>absurd h (by simp)
 |a::r,0,_,k,n,e=>by simp at e;simp;omega
 |a::r,j+1,h,k,n,e=>by
  have:=b8G r j (by simpa using h) k n (by simpa using e);simp only[A5z,B1z,List.sum_cons];omega
theorem Pw:∀(cs:List Con) (j:Nat) (h:j<cs.length),(cs[j]).B.length<=(cs.map λk=>k.B.length).sum
 |[],j,h=>absurd h (by simp)
 |a::r,0,_=>by simp
 |a::r,j+1,h=>by
  have:=Pw r j (by simpa using h);simp;omega
theorem Qz{C:Cf}(ok:CfOk C)(B:L8)(hB:B.length<=2000000):(Bk C B).out.length+(Bk C B).held.length*34000000<=B.length*34000000/\(Bk C B).rq+(Bk C B).held.length<=B.length:=by
 have h1:=Wp ok (B.length+1) ⟨B,[],0,false,Ig C⟩ hB;have h2:=(a3B C (B.length+1) ⟨B,[],0,false,Ig C⟩ (λx hx=>by
  simp only[Ig,E5z]at hx;obtain⟨_,_,rfl⟩:=hx;simp only;omega)).1
 unfold phi at h1;simp only[C0z,C1z]at h1 h2;exact⟨h1,h2⟩
def Wv(B0:Nat)(O:Nat->Option (Nat×Tg))(i:Nat)(H:Hs)(n:Nat)(w w2:World):Prop:=∃O' H',StepH B0 O i H w O' H' w2/\H'.cs.map Con.pc=H.cs.map Con.pc/\H'.sumB<=H.sumB+n
def KpH(O:Nat->Option (Nat×Tg))(i:Nat)(w w1:World):Prop:=w.heap.size<=w1.heap.size/\∀b,b<w.heap.size->(∀t,O b≠some (i,t))->w1.heap[b]?=w.heap[b]?
section
variable{O:Nat->Option (Nat×Tg)}{i:Nat}{H:Hs}{w0 w w1 w':World}{mx:Int}
theorem a3R{C:Cf}{k:Con}(h:k.cl C=false):k.en=false/\(Bk C k.B).cl=false:=by
 unfold Con.cl at h;simpa using h
theorem HsI.pair(h:HsI w0.heap.size O i H w)(hlt:∀b t,O b=some (i,t)->b<w.heap.size){j:Nat}(hj:j<H.cs.length){k:Con}{w3 W:World}{n:Nat}
  (k1:Kx (cnL (H.V w) (H.cs[j]).c (H.cs[j]).vo) w w1) (I1:SvI (H.V w) (H.set j k).hs w1) (J1:CnI (H.V w) k.c k.vo ⟨(k.held H.C).toArray⟩ (En H.C k.B k.fa k.tk) (Bk H.C k.B).rq (k.cl H.C) w1)
  (hb3:Bw w1 w3) (hW3:∀b,b≠(H.cs[j]).rc->W.heap[b]?=w3.heap[b]?) (hzW:W.heap.size=w3.heap.size) (hoW:W.os=w3.os/\W.tape=w3.tape/\W.output=w3.output)
  (ec:k.c=(H.cs[j]).c) (ep:k.pc=(H.cs[j]).pc) (er:k.rc=(H.cs[j]).rc) (rb:RcB k.rc k.B k.en k.fa k.tk W) (fe:k.fa=true->k.en=true) (tk:k.tk<=(Bk H.C k.B).out.length)
  (hvo:∀r,k.vo.ownBlock=some r->(H.cs[j]).vo.ownBlock=some r\/w.heap.size<=r) (hn:k.B.length<=(H.cs[j]).B.length+n):Wv w0.heap.size O i H n w W:=by
 have cj:=h.cs j hj;obtain⟨kk1,kk2⟩:=h.cnk hj k1;have h0:=h.b0;have hB1:Below w0.heap.size w w1:=k1.below (λb hm=>h.cnge hj hm) h0;have hne:∀b t,O b=some (i,t)->t≠.rcn j->b≠(H.cs[j]).rc:=λb t ht hn e=>by
  rw[e,cj.or_]at ht;cases ht;exact hn rfl
 have sz1:=k1.size;have sz3:=hb3.size;have hW:∀b,b<w1.heap.size->b≠(H.cs[j]).rc->W.heap[b]?=w1.heap[b]?:=λb hl hn=>by rw[hW3 b hn,hb3.block b hl]
 have hmz:(H.V w).w1.heap.size=H.m:=Gc h.ml;have hrcl:(H.cs[j]).rc<w.heap.size:=heap_lt cj.rb;have q1:W.heap[H.s]?=some (.cells #[.int .i64 H.C.hd,.int .i64 H.C.bd,.pointer (some ⟨H.gs,0,none⟩),.int .i32 0,.int .u32 0,hv H.h (H.set j k).hs.length] 251 (0,0)):=by
  rw[hW H.s I1.ls (hne _ _ h.os (by simp))];exact I1.blk
 have q2:W.heap[H.h]?=some (.cells (hiC (H.set j k).hs) 3 (0,0)):=by
  rw[hW H.h I1.lh (hne _ _ h.oh (by simp))];exact I1.hit
 have q3:W.heap[k.c]?=some (.cells #[.pointer (some ⟨H.s,0,none⟩),.string ⟨(k.held H.C).toArray⟩,k.vo,.int .i64 (Bk H.C k.B).rq,.bool (k.cl H.C)] 255 (0,0)):=by
  rw[hW _ J1.lt (by rw[ec];exact hne _ _ cj.oc (by simp))];exact J1.blk
 have q4:Ex H.m 5 k.vo (Lib.byteCells (En H.C k.B k.fa k.tk)) W:=by
  have:=J1.out;rw[hmz]at this;refine this.keep (λr hr=>hW r (J1.out.lt hr).2 (λe=>?_));rcases hvo r hr with q|q
  ·exact hne r _ (cj.oo r q) (by simp) e
  ·omega
 obtain⟨O',S⟩:=h.con (w':=W) (k:=k) hj (by omega) ⟨hoW.1.trans (hb3.os.trans k1.1.os),hoW.2.1.trans (hb3.tape.trans k1.1.tape),hoW.2.2.trans (hb3.output.trans k1.1.output)⟩
   (λb hl hn=>by rw[hW b (by omega) (λe=>by rw[e]at hn;exact hn _ cj.or_),kk2 b hl hn]) (λb hl=>by rw[hW b (by omega) (λe=>by rw[e]at hl;have:=h.rcge hj;omega),hB1.block b hl])
   (λb t ht a1 a2 a3 a4 a5=>by rw[hW b (by have:=hlt b t ht;omega) (hne b t ht a5),kk1 b t (hlt b t ht) ht a1 a2 a3 a4]) ec ep er q1 q2 q3 q4 rb fe tk hvo
 exact⟨O',_,S,Kd Con.pc H.cs j k hj ep,b8G H.cs j hj _ n hn⟩
theorem b3C(h:HsI w0.heap.size O i H w)(hlt:∀b t,O b=some (i,t)->b<w.heap.size)(hb:Bw w0 w)(G:Gl w0 mx){j:Nat}(hj:j<H.cs.length)(s:By)(hz:H.sumB+s.size<=1900000):
  Calls prog 55 #[.pointer (some ⟨(H.cs[j]).pc,0,none⟩),.string s] w λx w1=>∃e,x=.returned (.int .i64 e)/\KpH O i w w1 /\
   Calls prog 56 #[.pointer (some ⟨H.sr,0,none⟩),.int .i64 j,.string s] w1 λy w2=>y=.returned (.int .i64 e)/\Wv w0.heap.size O i H s.size w w2:=by
 have cj:=h.cs j hj;have hBj:=Pw H.cs j hj;have hBz:(H.cs[j]).B.length<=H.sumB:=hBj;have J:=h.cni hj;have h0:=h.b0
 cases hcl:(H.cs[j]).cl H.C with
 |true=>
  rw[hcl]at J;refine(a3I _ _ s 14 (λw'=>w'=w) w cj.pa (b2P _ _ _ _ _ _ s w J)).mono ?_;rintro x w1 ⟨rfl,rfl⟩;obtain⟨g,cap,hvc,hog,X⟩:=h.rcx hj (by omega) (λ_ _=>rfl) (λ_ _ _ _ _ _ _=>rfl);refine⟨14,rfl,⟨Ac _,λ_ _ _=>rfl⟩,(Ws X s (by omega)).mono ?_⟩;have hc2:((H.cs[j]).en||(Bk H.C (H.cs[j]).B).cl)=true:=hcl;rintro y w2 ⟨he,w3,hb3,hw⟩;rw[if_pos hc2]at he hw;subst he hw;obtain⟨O',S⟩:=h.same hb3 h0;exact⟨rfl,O',H,S,rfl,by omega⟩
 |false=>
  obtain⟨hen,hpc⟩:=a3R hcl;have hfa:(H.cs[j]).fa=false:=by
   cases q:(H.cs[j]).fa
   ·rfl
   ·have:=cj.fe q;rw[hen]at this;cases this
  obtain⟨d,hd,hs1,hs2⟩:=b8F H hj;have hheld:(H.cs[j]).held H.C=(Bk H.C (H.cs[j]).B).held:=by unfold Con.held;rw[hen];rfl
  have hleft:En H.C (H.cs[j]).B (H.cs[j]).fa (H.cs[j]).tk=(Bk H.C (H.cs[j]).B).out.drop (H.cs[j]).tk:=by unfold En;rw[hfa];rfl
  rw[hcl,hheld,hleft]at J;have I:=h.svi;have ok:=h.svok hb G;obtain⟨pb1,pb2⟩:=Qz h.rs.ok (H.cs[j]).B (by omega);obtain⟨PG,hτ⟩:=b2W H.C (H.cs[j]).B s.data.toList (H.cs[j]).tk hpc cj.tk d hd;have hsl:s.data.toList.length=s.size:=by simp
  have hdl:((Bk H.C (H.cs[j]).B).out.drop (H.cs[j]).tk).length<=(Bk H.C (H.cs[j]).B).out.length:=by rw[A6z];omega
  have GA:=b7K ok (H.cs[j]).c (H.cs[j]).vo ⟨(Bk H.C (H.cs[j]).B).held,(Bk H.C (H.cs[j]).B).out.drop (H.cs[j]).tk,(Bk H.C (H.cs[j]).B).rq,false,H.hs⟩ s w rfl I J (a7X H) (λx hx=>by have:=c5E H x hx;simp only;omega) (by simp only;omega) (by simp only;omega) (by simp only;omega);rw[hs1,PG]at GA;simp only at GA;refine(a3I _ _ s 0 _ w cj.pa GA).mono ?_;rintro x w1 ⟨rfl,vo',I1,J1,k1,hvo⟩;obtain⟨kk1,kk2⟩:=h.cnk hj k1;have hB1:Below w0.heap.size w w1:=k1.below (λb hm=>h.cnge hj hm) h0;obtain⟨g,cap,hvc,hog,X⟩:=h.rcx (w1:=w1) hj (by omega) (λb hl=>hB1.block b hl) (λb t ht a1 a2 a3 a4=>kk1 b t (hlt b t ht) ht a1 a2 a3 a4);refine⟨0,rfl,⟨k1.size,kk2⟩,(Ws X s (by omega)).mono ?_⟩;have hc2:¬(((H.cs[j]).en||(Bk H.C (H.cs[j]).B).cl)=true):=by rw[hen,hpc];simp
  rintro y w2 ⟨he,w3,hb3,hw⟩;rw[if_neg hc2]at he hw;subst he hw;have hrc1:w3.heap[(H.cs[j]).rc]?=some (.cells (rcA (H.cs[j]).B (H.cs[j]).en (H.cs[j]).fa (H.cs[j]).tk) 201 (0,0)):=by
   rw[hb3.block _ (heap_lt X.b)];exact X.b
  refine⟨rfl,h.pair (k:=⟨(H.cs[j]).c,(H.cs[j]).pc,vo',(H.cs[j]).rc,(H.cs[j]).B++s.data.toList,(H.cs[j]).tk,false,false⟩) hlt hj k1 (by rw[hs2];exact I1) J1 hb3 (λb hn=>Aw _ _ _ _ (by simpa using hn)) (by simp[World.setCell]) ⟨rfl,rfl,rfl⟩ rfl rfl rfl ?_ (λe=>by cases e) hτ hvo (by simp)⟩;have:=Bj hrc1 0 (.string ⟨((H.cs[j]).B++s.data.toList).toArray⟩);rw[hen,hfa]at this;exact this
end
section
variable{O:Nat->Option (Nat×Tg)}{i:Nat}{H:Hs}{w0 w w1 w':World}{mx:Int}
theorem Zd{V:Sv}{c:Nat}{vo:Value}(k:Kx [c] w w1):Kx (cnL V c vo) w w1:=k.mono (λb hb=>.inl (by simp at hb;subst hb;simp[cnL]))
theorem HsI.svk(h:HsI w0.heap.size O i H w){j:Nat}(hj:j<H.cs.length)(k1:Kx [(H.cs[j]).c] w w1):SvI (H.V w) H.hs w1:=by
 have J:=h.cni hj;exact h.svi.far k1 J.ge J.n1 J.n2
theorem a3S(H:Hs){j:Nat}(hj:j<H.cs.length){k:Con}(e:k.B=(H.cs[j]).B):(H.set j k).hs=H.hs:=by
 obtain⟨d,-,h1,h2⟩:=b8F H hj;rw[h2,h1,e]
theorem HsI.svk2(h:HsI w0.heap.size O i H w){j:Nat}(hj:j<H.cs.length)(k1:Kx [(H.cs[j]).c] w w1){k:Con}(e:k.B=(H.cs[j]).B):SvI (H.V w) (H.set j k).hs w1:=by
 rw[a3S H hj e];exact h.svk hj k1
theorem b8H(h:HsI w0.heap.size O i H w)(hlt:∀b t,O b=some (i,t)->b<w.heap.size){j:Nat}(hj:j<H.cs.length)(hz:H.sumB<=1900000):
  Calls prog 57 #[.pointer (some ⟨(H.cs[j]).pc,0,none⟩)] w λx w1=>∃e,x=.returned (.int .i64 e)/\KpH O i w w1 /\
   Calls prog 58 #[.pointer (some ⟨H.sr,0,none⟩),.int .i64 j] w1 λy w2=>y=.returned (.int .i64 e)/\Wv w0.heap.size O i H 0 w w2:=by
 have cj:=h.cs j hj;have hBz:(H.cs[j]).B.length<=H.sumB:=Pw H.cs j hj;have J:=h.cni hj;have h0:=h.b0
 cases hcl:(H.cs[j]).cl H.C with
 |true=>
  rw[hcl]at J;refine(a9M _ _ 14 (λw'=>w'=w) w cj.pa (b7V _ _ _ _ _ _ w J)).mono ?_;rintro x w1 ⟨rfl,rfl⟩;obtain⟨g,cap,hvc,hog,X⟩:=h.rcx hj (by omega) (λ_ _=>rfl) (λ_ _ _ _ _ _ _=>rfl);refine⟨14,rfl,⟨Ac _,λ_ _ _=>rfl⟩,(a3N X).mono ?_⟩;have hc2:((H.cs[j]).en||(Bk H.C (H.cs[j]).B).cl)=true:=hcl;rintro y w2 ⟨he,w3,hb3,hw⟩;rw[if_pos hc2]at he hw;subst he hw;obtain⟨O',S⟩:=h.same hb3 h0;exact⟨rfl,O',H,S,rfl,by omega⟩
 |false=>
  obtain⟨hen,hpc⟩:=a3R hcl;have hfa:(H.cs[j]).fa=false:=by
   cases q:(H.cs[j]).fa
   ·rfl
   ·have:=cj.fe q;rw[hen]at this;cases this
  rw[hcl]at J;refine(a9M _ _ 0 _ w cj.pa (b7U _ _ _ _ _ _ w J)).mono ?_;rintro x w1 ⟨rfl,J1,k1⟩;have kc:=Zd (V:=H.V w) (vo:=(H.cs[j]).vo) k1;obtain⟨kk1,kk2⟩:=h.cnk hj kc;have hB1:Below w0.heap.size w w1:=kc.below (λb hm=>h.cnge hj hm) h0;obtain⟨g,cap,hvc,hog,X⟩:=h.rcx (w1:=w1) hj (by omega) (λb hl=>hB1.block b hl) (λb t ht a1 a2 a3 a4=>kk1 b t (hlt b t ht) ht a1 a2 a3 a4);refine⟨0,rfl,⟨kc.size,kk2⟩,(a3N X).mono ?_⟩;have hc2:¬(((H.cs[j]).en||(Bk H.C (H.cs[j]).B).cl)=true):=by rw[hen,hpc];simp
  rintro y w2 ⟨he,w3,hb3,hw⟩;rw[if_neg hc2]at he hw;subst he hw;have hrc1:w3.heap[(H.cs[j]).rc]?=some (.cells (rcA (H.cs[j]).B (H.cs[j]).en (H.cs[j]).fa (H.cs[j]).tk) 201 (0,0)):=by
   rw[hb3.block _ (heap_lt X.b)];exact X.b
  refine⟨rfl,h.pair (k:={H.cs[j]with en:=true}) hlt hj kc (h.svk2 hj k1 rfl) J1 hb3 (λb hn=>Aw _ _ _ _ (by simpa using hn)) (by simp[World.setCell]) ⟨rfl,rfl,rfl⟩ rfl rfl rfl ?_ (λ_=>rfl) cj.tk (λr hr=>.inl hr) (by simp)⟩;exact Bj hrc1 1 (.bool true)
theorem b3D(C:Cf)(B:L8)(fa:Bool)(tk k:Nat):En C B fa (tk+min k (En C B fa tk).length)=(En C B fa tk).drop k:=by
 unfold En
 cases fa with
 |true=>simp
 |false=>
  simp only[C6z,if_false,A6z,E2z];by_cases hk:k<=(Bk C B).out.length-tk
  ·rw[Nat.min_eq_left hk]
  ·rw[Az (by omega),Az (by omega)]
theorem b3E(h:HsI w0.heap.size O i H w)(hlt:∀b t,O b=some (i,t)->b<w.heap.size){j:Nat}(hj:j<H.cs.length)(hz:H.sumB<=1900000)(n:Int):
  Calls prog 59 #[.pointer (some ⟨(H.cs[j]).pc,0,none⟩),.int .i64 n] w λx w1=>∃e t,x=.returned (.tuple #[.string t,.int .i64 e])/\KpH O i w w1 /\
   Calls prog 60 #[.pointer (some ⟨H.sr,0,none⟩),.int .i64 j,.int .i64 n] w1 λy w2=>y=.returned (.tuple #[.string t,.int .i64 e])/\Wv w0.heap.size O i H 0 w w2:=by
 have cj:=h.cs j hj;have hBz:(H.cs[j]).B.length<=H.sumB:=Pw H.cs j hj;have J:=h.cni hj;have h0:=h.b0;by_cases hn:n<0
 ·refine(b2U _ _ n hn w cj.pa).mono ?_;rintro x w1 ⟨rfl,rfl⟩;refine⟨1,_,rfl,⟨Ac _,λ_ _ _=>rfl⟩,(b2X n hn w1).mono ?_⟩;rintro y w2 ⟨rfl,rfl⟩;obtain⟨O',S⟩:=h.same (Ad _ _) h0;exact⟨rfl,O',H,S,rfl,by omega⟩
 ·obtain⟨k,rfl⟩:∃k:Nat,n=k:=⟨n.toNat,by omega⟩;have T:=b7R _ _ _ _ _ _ _ (k:Int) w J (by omega);unfold Lm at T;rw[Int.toNat_natCast]at T;refine(b7T _ _ _ _ _ w cj.pa T).mono ?_;rintro x w1 ⟨rfl,vo2,J1,k1,hv2,-⟩;have kc:=Zd (V:=H.V w) (vo:=(H.cs[j]).vo) k1;obtain⟨kk1,kk2⟩:=h.cnk hj kc;have hB1:Below w0.heap.size w w1:=kc.below (λb hm=>h.cnge hj hm) h0;obtain⟨g,cap,hvc,hog,X⟩:=h.rcx (w1:=w1) hj (by omega) (λb hl=>hB1.block b hl) (λb t ht a1 a2 a3 a4=>kk1 b t (hlt b t ht) ht a1 a2 a3 a4);obtain⟨pb1,pb2⟩:=Qz h.rs.ok (H.cs[j]).B (by omega);refine⟨0,_,rfl,⟨kc.size,kk2⟩,(b2Y X cj.tk (by omega) k).mono ?_⟩;rintro y w2 ⟨rfl,w3,hb3,rfl⟩;have hrc1:w3.heap[(H.cs[j]).rc]?=some (.cells (rcA (H.cs[j]).B (H.cs[j]).en (H.cs[j]).fa (H.cs[j]).tk) 201 (0,0)):=by
   rw[hb3.block _ (heap_lt X.b)];exact X.b
  refine⟨rfl,h.pair (k:={H.cs[j]with vo:=vo2,tk:=(H.cs[j]).tk+min k (En H.C (H.cs[j]).B (H.cs[j]).fa (H.cs[j]).tk).length}) hlt hj kc (h.svk2 hj k1 rfl) ?_ hb3 (λb hn=>Aw _ _ _ _ (by simpa using hn)) (by simp[World.setCell]) ⟨rfl,rfl,rfl⟩ rfl rfl rfl ?_ cj.fe ?_ (λr hr=>.inl (hv2 r hr)) (by simp)⟩
  ·simp only;rw[b3D];exact J1
  ·exact Bj hrc1 3 _
  ·simp only;have ht:=cj.tk;unfold En
   split
   ·simp;exact ht
   ·rw[A6z];omega
theorem b3F(h:HsI w0.heap.size O i H w)(hlt:∀b t,O b=some (i,t)->b<w.heap.size){j:Nat}(hj:j<H.cs.length)(hz:H.sumB<=1900000):
  Calls prog 61 #[.pointer (some ⟨(H.cs[j]).pc,0,none⟩)] w λx w1=>x=.returned (.tuple #[])/\KpH O i w w1 /\
   Calls prog 62 #[.pointer (some ⟨H.sr,0,none⟩),.int .i64 j] w1 λy w2=>y=.returned (.tuple #[])/\Wv w0.heap.size O i H 0 w w2:=by
 have cj:=h.cs j hj;have hBz:(H.cs[j]).B.length<=H.sumB:=Pw H.cs j hj;have J:=h.cni hj;have h0:=h.b0;refine(b7Y _ _ _ w cj.pa (b7X _ _ _ _ _ _ _ w J)).mono ?_;rintro x w1 ⟨rfl,J1,k1⟩;have kc:=Zd (V:=H.V w) (vo:=(H.cs[j]).vo) k1;obtain⟨kk1,kk2⟩:=h.cnk hj kc;have hB1:Below w0.heap.size w w1:=kc.below (λb hm=>h.cnge hj hm) h0;obtain⟨g,cap,hvc,hog,X⟩:=h.rcx (w1:=w1) hj (by omega) (λb hl=>hB1.block b hl) (λb t ht a1 a2 a3 a4=>kk1 b t (hlt b t ht) ht a1 a2 a3 a4);refine⟨rfl,⟨kc.size,kk2⟩,(b2Z X (λe=>?_) (λe=>?_)).mono ?_⟩
 ·have:=h.or_;rw[e,cj.or_]at this;cases this
 ·rw[e,cj.or_]at hog;cases hog
 rintro y w2 ⟨rfl,rfl⟩;have hrc1:w1.heap[(H.cs[j]).rc]?=some (.cells (rcA (H.cs[j]).B (H.cs[j]).en (H.cs[j]).fa (H.cs[j]).tk) 201 (0,0)):=X.b;refine⟨rfl,h.pair (k:={H.cs[j]with vo:=.slice none 0 0,en:=true,fa:=true}) hlt hj kc (h.svk2 hj k1 rfl) ?_ (Ad _ _) (λb hn=>by rw[Aw _ _ _ _ (by simpa using hn),Aw _ _ _ _ (by simpa using hn)]) (by simp[World.setCell]) ⟨rfl,rfl,rfl⟩ rfl rfl rfl ?_ (λ_=>rfl) cj.tk (λr hr=>by simp[Value.ownBlock]at hr) (by simp)⟩
 ·exact J1
 ·exact Bj (Bj hrc1 2 (.bool true)) 1 (.bool true)
theorem b3G(h:HsI w0.heap.size O i H w){j:Nat}(hj:j<H.cs.length)(hz:H.sumB<=1900000):
  Calls prog 63 #[.pointer (some ⟨(H.cs[j]).pc,0,none⟩)] w λx w1=>∃a b c d,x=.returned (.agg (stA a b c d))/\Bw w w1/\∀W,Bw w W ->
   Calls prog 64 #[.pointer (some ⟨H.sr,0,none⟩),.int .i64 j] W λy w2=>y=.returned (.agg (stA a b c d))/\Bw W w2:=by
 have cj:=h.cs j hj;have hBz:(H.cs[j]).B.length<=H.sumB:=Pw H.cs j hj;have J:=h.cni hj;have h0:=h.b0;have hz2:(ByteArray.mk ((H.cs[j]).held H.C).toArray).size=((H.cs[j]).held H.C).length:=by show((H.cs[j]).held H.C).toArray.size=_;simp
 have hP:=a7R (H.cs[j]).pc (H.cs[j]).c _ _ _ _ w cj.pa (λW hb=>a7Q (H.V w) (H.cs[j]).c (H.cs[j]).vo _ _ _ _ W (J.below hb));rw[hz2]at hP;refine hP.mono ?_;rintro x w1 ⟨rfl,hb1⟩;refine⟨_,_,_,_,rfl,hb1,λW hW=>?_⟩;obtain⟨g,cap,hvc,hog,X⟩:=h.rcx hj (by omega) (λ_ _=>rfl) (λ_ _ _ _ _ _ _=>rfl);refine(a3O (X.below hW) cj.tk).mono ?_;rintro y w2 ⟨rfl,hb2⟩;refine⟨?_,hb2⟩;have e:(((H.cs[j]).held H.C).length:Int)=(if((H.cs[j]).en||(Bk H.C (H.cs[j]).B).cl)=true then 0 else((Bk H.C (H.cs[j]).B).held.length:Int)):=by
  unfold Con.held
  cases q1:(H.cs[j]).en with
  |true=>simp
  |false=>
   cases q2:(Bk H.C (H.cs[j]).B).cl with
   |true=>rw[b2V _ _ q2];simp
   |false=>simp
 rw[<-e];rfl
end
structure Ln where
 i:Nat
 j:Nat
 pc:Nat
 sr:Nat
def hsP(hs:List Hs):List Value:=hs.flatMap λH=>[.pointer (some ⟨H.ps,0,none⟩),.pointer (some ⟨H.sr,0,none⟩)]
def lsP(ls:List Ln):List Value:=ls.flatMap λl=>[.pointer (some ⟨l.pc,0,none⟩),.pointer (some ⟨l.sr,0,none⟩),.int .i64 (l.j:Int)]
def Vk(hs:List Hs):Nat:=(hs.map Hs.sumB).sum
def c1C(hs:List Hs)(l:Ln):Prop:=∃H k,hs[l.i]?=some H/\H.cs[l.j]?=some k/\l.pc=k.pc/\l.sr=H.sr
structure HI(B0:Nat)(O:Nat->Option (Nat×Tg))(vh vl:Value)(hs:List Hs)(ls:List Ln)(w:World):Prop where
 hr:w.ownsRow B0 66 2 vh hs.length (hsP hs)
 lr:w.ownsRow B0 70 3 vl ls.length (lsP ls)
 ohr:∀r,vh.ownBlock=some r->O r=some (0,.hrow)
 olr:∀r,vl.ownBlock=some r->O r=some (0,.lrow)
 hou:∀i (h:i<hs.length),HsI B0 O (i+1) hs[i] w
 lin:∀l∈ls,c1C hs l
 olt:∀b t,O b=some t->b<w.heap.size
 oge:∀b t,O b=some t->B0<=b
section
variable{B0:Nat}{O:Nat->Option (Nat×Tg)}{vh vl:Value}{hs:List Hs}{ls:List Ln}{w w':World}
theorem HI.stay(h:HI B0 O vh vl hs ls w)(hB:∀b,b<B0->w'.heap[b]?=w.heap[b]?)(hk:∀b t,O b=some t->w'.heap[b]?=w.heap[b]?):HI B0 O vh vl hs ls w':=
 ⟨Cl h.hr (λr hr=>hk r _ (h.ohr r hr)),Cl h.lr (λr hr=>hk r _ (h.olr r hr)),h.ohr,h.olr,λi hi=>(h.hou i hi).stay hB (λb _ ht=>hk b _ ht),h.lin,λb t ht=>Mj (hk b t ht) (h.olt b t ht),h.oge⟩
theorem c1D(hs:List Hs)(i:Nat)(hi:i<hs.length)(H':Hs)(h1:H'.ps=(hs[i]).ps)(h2:H'.sr=(hs[i]).sr):hsP (hs.set i H')=hsP hs:=by
 unfold hsP;rw[List.set_eq_take_append_cons_drop,if_pos hi]
 conv=>rhs;rw[show hs=hs.take i++(hs[i]::hs.drop (i+1)) by rw[<-F3z hi,E4z]]
 rw[List.flatMap_append,F2z,List.flatMap_append,F2z,h1,h2]
theorem b8I(hs:List Hs)(H:Hs):hsP (hs++[H])=hsP hs++[.pointer (some ⟨H.ps,0,none⟩),.pointer (some ⟨H.sr,0,none⟩)]:=by
 unfold hsP;rw[List.flatMap_append];simp
theorem b8J(ls:List Ln)(l:Ln):lsP (ls++[l])=lsP ls++[.pointer (some ⟨l.pc,0,none⟩),.pointer (some ⟨l.sr,0,none⟩),.int .i64 (l.j:Int)]:=by
 unfold lsP;rw[List.flatMap_append];simp
theorem a3T:∀(hs:List Hs) (i:Nat) (hi:i<hs.length) (H':Hs) (n:Nat),H'.sumB<=(hs[i]).sumB+n->Vk (hs.set i H')<=Vk hs+n
 |[],i,h,_,_,_=>absurd h (by simp)
 |a::r,0,_,H',n,e=>by simp only[B7z]at e;simp only[Vk,A7z,B1z,List.sum_cons];omega
 |a::r,i+1,h,H',n,e=>by
  have:=a3T r i (by simpa using h) H' n (by simpa using e);simp only[Vk,A5z,B1z,List.sum_cons]at this ⊢;omega
theorem Ze:∀(hs:List Hs) (i:Nat) (hi:i<hs.length),(hs[i]).sumB<=Vk hs
 |[],i,h=>absurd h (by simp)
 |a::r,0,_=>by simp only[Vk,B7z,B1z,List.sum_cons];omega
 |a::r,i+1,h=>by
  have:=Ze r i (by simpa using h);simp only[Vk,List.getElem_cons_succ,B1z,List.sum_cons]at this ⊢;omega
theorem HI.upd(h:HI B0 O vh vl hs ls w){i:Nat}(hi:i<hs.length){O':Nat->Option (Nat×Tg)}{H':Hs}(S:StepH B0 O (i+1) hs[i] w O' H' w')(hpc:(H'.cs.map Con.pc).take (hs[i]).cs.length=(hs[i]).cs.map Con.pc)(h0:B0<=w.heap.size):HI B0 O' vh vl (hs.set i H') ls w':=by
 have hk:∀b t,O b=some t->t.1≠i+1->w'.heap[b]?=w.heap[b]?:=λb t ht hn=>S.keep b (h.olt b t ht) (λt' e=>hn (by rw[ht]at e;cases e;rfl));have hkp:∀b,b<B0->w'.heap[b]?=w.heap[b]?:=λb hb=>S.keep b (by omega) (λt e=>by have:=h.oge b _ e;omega);refine⟨?_,Cl h.lr (λr hr=>hk r _ (h.olr r hr) (by simp)),λr hr=>?_,λr hr=>?_,λq hq=>?_,λl hl=>?_,λb t ht=>?_,λb t ht=>?_⟩
 ·rw[List.length_set,c1D hs i hi H' S.ps S.sr];exact Cl h.hr (λr hr=>hk r _ (h.ohr r hr) (by simp))
 ·rw[S.old r (h.olt r _ (h.ohr r hr))];exact h.ohr r hr
 ·rw[S.old r (h.olt r _ (h.olr r hr))];exact h.olr r hr
 ·rw[List.length_set]at hq;by_cases e:q=i
  ·subst e;rw[List.getElem_set_self];exact S.h
  ·rw[List.getElem_set_ne (λx=>e x.symm)];refine((h.hou q hq).stay hkp (λb t ht=>hk b _ ht (by simp;omega))).retag' (λb t ht=>?_);rw[S.old b (h.olt b _ ht)];exact ht
 ·obtain⟨H,k,e1,e2,e3,e4⟩:=h.lin l hl;by_cases e:l.i=i
  ·have hHi:H=hs[i]:=by
    rw[e,Av hi]at e1;cases e1;rfl
   subst hHi;obtain⟨hj,rfl⟩:=List.getElem?_eq_some_iff.1 e2;have hpj:(H'.cs.map Con.pc)[l.j]?=some ((hs[i]).cs[l.j]).pc:=by
    have:=congrArg (λx=>x[l.j]?) hpc;simp only[D0z,if_pos hj,E3z,Av hj,Option.map_some]at this;rw[E3z];exact this
   rw[E3z,Option.map_eq_some_iff]at hpj;obtain⟨k',hk1,hk2⟩:=hpj;exact⟨H',k',by rw[e,List.getElem?_set_self hi],hk1,by rw[e3,hk2],by rw[e4,S.sr]⟩
  ·exact⟨H,k,by rw[List.getElem?_set_ne (λx=>e x.symm)];exact e1,e2,e3,e4⟩
 ·by_cases hb:b<w.heap.size
  ·exact Af hb S.sz
  ·exact(S.new b (by omega) t ht).2
 ·by_cases hb:b<w.heap.size
  ·rw[S.old b hb]at ht;exact h.oge b t ht
  ·omega
end
end Go.Proofs.YtbiggccolpchcaaGreatDoor
