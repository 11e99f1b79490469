/- Joined. -/
import Derived.Test.YtbiggccolpchcaaGreatDoorJoin31
import Derived.Test.YtbiggccolpchcaaGreatDoorJoin32
set_option maxRecDepth 100000
set_option maxHeartbeats 4000000
namespace Go.Proofs.YtbiggccolpchcaaGreatDoor
open Go.RowKit _root_.Go.Proofs.Tryz
end Go.Proofs.YtbiggccolpchcaaGreatDoor
namespace Go.Proofs.YtbiggccolpchcaaGreatDoor.Bn
open Go.RowKit _root_.Go.Proofs.Tryz
theorem Og{w:World}{B:Nat}{e:TypeId}{v:Value}{n:Nat}{xs:List Value}(h:w.ownsRow B e 1 v n xs):∃a c,v=.slice a n c/\∀i (_:i<n) (hx:i<xs.length),∃g,a=some ⟨g,0,none⟩/\g<w.heap.size/\w.cell? ⟨g,i,none⟩=some xs[i]:=by
 obtain⟨h1,h2⟩:=h;rcases h2 with⟨rfl,rfl⟩|⟨g,cap,cur,rfl,_,hg,_,_,_,hc⟩
 ·exact⟨none,0,rfl,λi hi=>absurd hi (by omega)⟩
 ·refine⟨some ⟨g,0,none⟩,cap,rfl,λi hi hx=>⟨g,rfl,heap_lt hg,?_⟩⟩;rw[Ab hg];have h3:(cur.toList.take (n*1))[i]?=some xs[i]:=by rw[hc,Av hx]
  rw[D0z]at h3
  split at h3
  ·simpa using h3
  ·cases h3
structure BpI(j bk B:Nat)(et:TypeId)(mk:Nat->List Value)(vs:List Value)(V:Value)(w:World):Prop where
 cel:w.cell? ⟨bk,j,none⟩=some V
 own:w.ownsRow B et 1 V vs.length vs
 few:vs.length<=5000000
 lis:∀i (h:i<vs.length),LsI (mk (i / 4*4)) vs[i] w
theorem Vh(bk B:Nat)(vs:List Value)(V:Value)(w:World)(h:BpI 1 bk B 99 (λn=>[.string (mkS n)]) vs V w):
  Calls prog 19 #[.pointer (some ⟨bk,0,none⟩)] w λr w'=>r=.returned (.bool true)/\Bw w w':=by
 obtain⟨Va,Vc,rfl,hcell⟩:=Og h.own;have HC:=hid hcell;have HG:=hid h.lis;have HB:=hid h.cel;have lk:=Ap h.cel;have hvs:=h.few;clear h hcell;go_enter func19,ntmps19;go_wp2_with fail
 go_loopw [3,4,5] (λi _ _ wr=>∃q:Nat,q<=vs.length/\i=.int .i64 q/\Bw w wr) (λi _ _ _=>vs.length-(intOf i).toNat)
 case atStart=>exact⟨0,Ah _,rfl,Ad _ _⟩
 case round=>
  obtain⟨q,hq,rfl,hbw⟩:=hrel;have b3:=Aa hbw HB.out;by_cases hlt:q<vs.length
  ·obtain⟨n,hn⟩:∃n:Nat,n=q / 4*4:=⟨_,rfl⟩;have hn5:n<=5000000:=by omega
   have HM:=hid (λW=>Pa n (by omega) W);obtain⟨la,k,lc,hv,hk,hmk⟩:=HG.out q hlt;simp only[<-hn]at hmk;obtain⟨gV,rfl,hgV,hvc⟩:=HC.out q hlt hlt;rw[hv]at hvc;have HMK:=hid hmk;clear hmk;go_wp2_with fail;rw[show((q:Int) / 4*4)=(n:Int)from by omega];refine(HM.out _).mono ?_;rintro e w1 ⟨rfl,hb1⟩;have hB2:=Bc hbw hb1;clear b3 hbw hb1 HM;generalize mkS n=mv at *
   clear hn;go_wp2_with fail;obtain⟨w2,hw2⟩:∃w2,w2=w1:=⟨_,rfl⟩;subst hw2
   go_loopw [5] (λj wr2=>∃p:Nat,p<=k/\j=.int .i64 p/\Bw w2 wr2) (λj _=>k-(intOf j).toNat)
   case atStart=>exact⟨0,Ah _,rfl,Ad _ _⟩
   case round=>
    obtain⟨p,hp,rfl,hbp⟩:=hrel;have hB3:=Bc hB2 hbp;have b3:=Aa hB3 HB.out;have v3:=Aa hB3 hvc;by_cases hlp:p<k
    ·obtain⟨gl,rfl,hgl,hc⟩:=(HMK.out.below (hB3)) p hlp;have hc1:=hc 0 _ rfl;simp only[A9z,C0z,C1z,Nat.add_zero,Nat.mul_one]at hc1;clear hc;go_wp2;exact⟨⟨p+1,by omega,by go_num,hbp⟩,by simp[intOf];omega⟩
    ·go_wp2;exact⟨⟨q+1,by omega,by go_num,hB3⟩,by simp[intOf];omega⟩
  ·go_wp2;go_ret;exact⟨rfl,hbw⟩
theorem Yn(bk B:Nat)(vs:List Value)(V:Value)(w:World)(h:BpI 0 bk B 38 (λn=>[.int .i64 (mkI n)]) vs V w):
  Calls prog 18 #[.pointer (some ⟨bk,0,none⟩)] w λr w'=>r=.returned (.bool true)/\Bw w w':=by
 obtain⟨Va,Vc,rfl,hcell⟩:=Og h.own;have HC:=hid hcell;have HG:=hid h.lis;have HB:=hid h.cel;have lk:=Ap h.cel;have hvs:=h.few;clear h hcell;go_enter func18,ntmps18;go_wp2_with fail
 go_loopw [3,4,5] (λi _ _ wr=>∃q:Nat,q<=vs.length/\i=.int .i64 q/\Bw w wr) (λi _ _ _=>vs.length-(intOf i).toNat)
 case atStart=>exact⟨0,Ah _,rfl,Ad _ _⟩
 case round=>
  obtain⟨q,hq,rfl,hbw⟩:=hrel;have b3:=Aa hbw HB.out;by_cases hlt:q<vs.length
  ·obtain⟨n,hn⟩:∃n:Nat,n=q / 4*4:=⟨_,rfl⟩;have hn5:n<=5000000:=by omega
   have HM:=hid (λW=>Wh n (by omega) W);obtain⟨la,k,lc,hv,hk,hmk⟩:=HG.out q hlt;simp only[<-hn]at hmk;obtain⟨gV,rfl,hgV,hvc⟩:=HC.out q hlt hlt;rw[hv]at hvc;have HMK:=hid hmk;clear hmk;go_wp2_with fail;rw[show((q:Int) / 4*4)=(n:Int)from by omega];refine(HM.out _).mono ?_;rintro e w1 ⟨rfl,hb1⟩;have hB2:=Bc hbw hb1;clear b3 hbw hb1 HM;generalize mkI n=mv at *
   clear hn;go_wp2_with fail;obtain⟨w2,hw2⟩:∃w2,w2=w1:=⟨_,rfl⟩;subst hw2
   go_loopw [5] (λj wr2=>∃p:Nat,p<=k/\j=.int .i64 p/\Bw w2 wr2) (λj _=>k-(intOf j).toNat)
   case atStart=>exact⟨0,Ah _,rfl,Ad _ _⟩
   case round=>
    obtain⟨p,hp,rfl,hbp⟩:=hrel;have hB3:=Bc hB2 hbp;have b3:=Aa hB3 HB.out;have v3:=Aa hB3 hvc;by_cases hlp:p<k
    ·obtain⟨gl,rfl,hgl,hc⟩:=(HMK.out.below (hB3)) p hlp;have hc1:=hc 0 _ rfl;simp only[A9z,C0z,C1z,Nat.add_zero,Nat.mul_one]at hc1;clear hc;go_wp2;exact⟨⟨p+1,by omega,by go_num,hbp⟩,by simp[intOf];omega⟩
    ·go_wp2;exact⟨⟨q+1,by omega,by go_num,hB3⟩,by simp[intOf];omega⟩
  ·go_wp2;go_ret;exact⟨rfl,hbw⟩
theorem Ub(bk B:Nat)(vs:List Value)(V:Value)(w:World)(h:BpI 2 bk B 92 (λn=>[.string (mkS n),.string ⟨#[46]⟩]) vs V w):
  Calls prog 20 #[.pointer (some ⟨bk,0,none⟩)] w λr w'=>r=.returned (.bool true)/\Bw w w':=by
 obtain⟨Va,Vc,rfl,hcell⟩:=Og h.own;have HC:=hid hcell;have HG:=hid h.lis;have HB:=hid h.cel;have lk:=Ap h.cel;have hvs:=h.few;clear h hcell;go_enter func20,ntmps20;go_wp2_with fail
 go_loopw [3,4,5] (λi _ _ wr=>∃q:Nat,q<=vs.length/\i=.int .i64 q/\Bw w wr) (λi _ _ _=>vs.length-(intOf i).toNat)
 case atStart=>exact⟨0,Ah _,rfl,Ad _ _⟩
 case round=>
  obtain⟨q,hq,rfl,hbw⟩:=hrel;have b3:=Aa hbw HB.out;by_cases hlt:q<vs.length
  ·obtain⟨n,hn⟩:∃n:Nat,n=q / 4*4:=⟨_,rfl⟩;have hn5:n<=5000000:=by omega
   have HM:=hid (λW=>Vf n (by omega) W);obtain⟨la,k,lc,hv,hk,hmk⟩:=HG.out q hlt;simp only[<-hn]at hmk;obtain⟨gV,rfl,hgV,hvc⟩:=HC.out q hlt hlt;rw[hv]at hvc;have HMK:=hid hmk;clear hmk;go_wp2_with fail;rw[show((q:Int) / 4*4)=(n:Int)from by omega];refine(HM.out _).mono ?_;rintro e w1 ⟨rfl,hb1⟩;have hB1:=Bc hbw hb1;have hA2:=bA w1 (.cells #[.string (mkS n),.string ⟨#[46]⟩] 129);have hB2:=Bc hB1 hA2;have hm2:=Ag w1 (.cells #[.string (mkS n),.string ⟨#[46]⟩] 129);have hmz:w1.heap.size<(w1.alloc (.cells #[.string (mkS n),.string ⟨#[46]⟩] 129)).heap.size:=by simp
   clear b3 hbw hb1 hB1 hA2 HM;generalize mkS n=mv at *
   clear hn;go_wp2_with fail;generalize w1.alloc (.cells #[.string mv,.string ⟨#[46]⟩] 129)=w2 at *
   generalize w1.heap.size=mb at *
   go_loopw [5] (λj wr2=>∃p:Nat,p<=k/\j=.int .i64 p/\Bw w2 wr2) (λj _=>k-(intOf j).toNat)
   case atStart=>exact⟨0,Ah _,rfl,Ad _ _⟩
   case round=>
    obtain⟨p,hp,rfl,hbp⟩:=hrel;have hB3:=Bc hB2 hbp;have b3:=Aa hB3 HB.out;have v3:=Aa hB3 hvc;have m0:=Aa hbp (a:=⟨mb,0,none⟩) (v:=.string mv) (by rw[Ab hm2];rfl);have m1:=Aa hbp (a:=⟨mb,1,none⟩) (v:=.string ⟨#[46]⟩) (by rw[Ab hm2];rfl);by_cases hlp:p<k
    ·obtain⟨gl,rfl,hgl,hc⟩:=(HMK.out.below (hB3)) p hlp;have hc1:=hc 0 _ rfl;have hc2:=hc 1 _ rfl;simp only[A9z,C0z,C1z,Nat.add_zero]at hc1 hc2;clear hc;go_wp2_with fail
     go_quiet (fail)
     go_wp2;exact⟨⟨p+1,by omega,by go_num,below_drewN hbp _⟩,by simp[intOf];omega⟩
    ·go_wp2;exact⟨⟨q+1,by omega,by go_num,hB3⟩,by simp[intOf];omega⟩
  ·go_wp2;go_ret;exact⟨rfl,hbw⟩
theorem Uc(bk B:Nat)(vs:List Value)(V:Value)(w:World)(h:BpI 3 bk B 45 (λn=>[.string (mkS n),.string ⟨#[46]⟩]) vs V w):
  Calls prog 21 #[.pointer (some ⟨bk,0,none⟩)] w λr w'=>r=.returned (.bool true)/\Bw w w':=by
 obtain⟨Va,Vc,rfl,hcell⟩:=Og h.own;have HC:=hid hcell;have HG:=hid h.lis;have HB:=hid h.cel;have lk:=Ap h.cel;have hvs:=h.few;clear h hcell;go_enter func21,ntmps21;go_wp2_with fail
 go_loopw [3,4,5] (λi _ _ wr=>∃q:Nat,q<=vs.length/\i=.int .i64 q/\Bw w wr) (λi _ _ _=>vs.length-(intOf i).toNat)
 case atStart=>exact⟨0,Ah _,rfl,Ad _ _⟩
 case round=>
  obtain⟨q,hq,rfl,hbw⟩:=hrel;have b3:=Aa hbw HB.out;by_cases hlt:q<vs.length
  ·obtain⟨n,hn⟩:∃n:Nat,n=q / 4*4:=⟨_,rfl⟩;have hn5:n<=5000000:=by omega
   have HM:=hid (λW=>Vg n (by omega) W);obtain⟨la,k,lc,hv,hk,hmk⟩:=HG.out q hlt;simp only[<-hn]at hmk;obtain⟨gV,rfl,hgV,hvc⟩:=HC.out q hlt hlt;rw[hv]at hvc;have HMK:=hid hmk;clear hmk;go_wp2_with fail;rw[show((q:Int) / 4*4)=(n:Int)from by omega];refine(HM.out _).mono ?_;rintro e w1 ⟨rfl,hb1⟩;have hB1:=Bc hbw hb1;have hA2:=bA w1 (.cells #[.string (mkS n),.string ⟨#[46]⟩] 131);have hB2:=Bc hB1 hA2;have hm2:=Ag w1 (.cells #[.string (mkS n),.string ⟨#[46]⟩] 131);have hmz:w1.heap.size<(w1.alloc (.cells #[.string (mkS n),.string ⟨#[46]⟩] 131)).heap.size:=by simp
   clear b3 hbw hb1 hB1 hA2 HM;generalize mkS n=mv at *
   clear hn;go_wp2_with fail;generalize w1.alloc (.cells #[.string mv,.string ⟨#[46]⟩] 131)=w2 at *
   generalize w1.heap.size=mb at *
   go_loopw [5] (λj wr2=>∃p:Nat,p<=k/\j=.int .i64 p/\Bw w2 wr2) (λj _=>k-(intOf j).toNat)
   case atStart=>exact⟨0,Ah _,rfl,Ad _ _⟩
   case round=>
    obtain⟨p,hp,rfl,hbp⟩:=hrel;have hB3:=Bc hB2 hbp;have b3:=Aa hB3 HB.out;have v3:=Aa hB3 hvc;have m0:=Aa hbp (a:=⟨mb,0,none⟩) (v:=.string mv) (by rw[Ab hm2];rfl);have m1:=Aa hbp (a:=⟨mb,1,none⟩) (v:=.string ⟨#[46]⟩) (by rw[Ab hm2];rfl);by_cases hlp:p<k
    ·obtain⟨gl,rfl,hgl,hc⟩:=(HMK.out.below (hB3)) p hlp;have hc1:=hc 0 _ rfl;have hc2:=hc 1 _ rfl;simp only[A9z,C0z,C1z,Nat.add_zero]at hc1 hc2;clear hc;go_wp2_with fail
     go_quiet (fail)
     go_wp2;exact⟨⟨p+1,by omega,by go_num,below_drewN hbp _⟩,by simp[intOf];omega⟩
    ·go_wp2;exact⟨⟨q+1,by omega,by go_num,hB3⟩,by simp[intOf];omega⟩
  ·go_wp2;go_ret;exact⟨rfl,hbw⟩
theorem BpI.below{j bk B:Nat}{et:TypeId}{mk:Nat->List Value}{vs:List Value}{V:Value}{w w':World}(h:BpI j bk B et mk vs V w)(hb:Bw w w'):BpI j bk B et mk vs V w':=
 ⟨Aa hb h.cel,Be h.own hb,h.few,λi hi=>by
  obtain⟨a,n,cap,e1,e2,e3⟩:=h.lis i hi;exact⟨a,n,cap,e1,e2,e3.below hb⟩⟩
abbrev c4U(n:Nat):List Value:=[.string (mkS n)]
abbrev c4V(n:Nat):List Value:=[.int .i64 (mkI n)]
abbrev c0G(n:Nat):List Value:=[.string (mkS n),.string ⟨#[46]⟩]
theorem b2C(bk B:Nat)(v0 v1 v2 v3:List Value)(V0 V1 V2 V3:Value)(w:World)(h0:BpI 0 bk B 38 c4V v0 V0 w)(h1:BpI 1 bk B 99 c4U v1 V1 w)(h2:BpI 2 bk B 92 c0G v2 V2 w)(h3:BpI 3 bk B 45 c0G v3 V3 w):
  Calls prog 9 #[.pointer (some ⟨bk,0,none⟩)] w λr w'=>r=.returned (.bool true)/\Bw w w':=by
 have H0:=hid (Yn bk B v0 V0 w h0);have H1:=hid (λW (hW:Bw w W)=>Vh bk B v1 V1 W (h1.below hW));have H2:=hid (λW (hW:Bw w W)=>Ub bk B v2 V2 W (h2.below hW));have H3:=hid (λW (hW:Bw w W)=>Uc bk B v3 V3 W (h3.below hW));clear h0 h1 h2 h3;go_enter func9,ntmps9;go_wp2_with fail;refine H0.out.mono ?_;rintro e w1 ⟨rfl,hb1⟩;go_wp2_with fail;refine(H1.out _ hb1).mono ?_;rintro e w2 ⟨rfl,hb2⟩;have hB2:=Bc hb1 hb2;go_wp2_with fail;refine(H2.out _ hB2).mono ?_;rintro e w3 ⟨rfl,hb3⟩;have hB3:=Bc hB2 hb3;go_wp2_with fail;refine(H3.out _ hB3).mono ?_;rintro e w4 ⟨rfl,hb4⟩;have hB4:=Bc hB3 hb4;clear hb1 hb2 hb3 hb4 hB2 hB3;go_wp2;go_ret;exact⟨rfl,hB4⟩
end Go.Proofs.YtbiggccolpchcaaGreatDoor.Bn
namespace Go.Proofs.YtbiggccolpchcaaGreatDoor
open Go.RowKit Bn _root_.Go.Proofs.Tryz
structure Pr where
 gx:Nat
 v:Value
 es:List Ent
 gr:Nat
 vr:Value
 rs:List Prm
structure PrI(B0:Nat)(p:Pr)(w:World):Prop where
 tx:TbAt p.gx 0 p.gx p.es p.v w
 tr:TrAt p.gr p.gr p.rs p.vr w
 eq:p.es.map Ent.bare=p.rs.map Bz
 sp:Sp p.rs
 b1:B0<=p.gx
 b2:B0<=p.gr
def Pr.fx(p:Pr)(b:Nat):Prop:=b=p.gx\/p.v.ownBlock=some b\/∃e∈p.es,e.a=some ⟨b,0,none⟩
def Pr.fr(p:Pr)(b:Nat):Prop:=b=p.gr\/p.vr.ownBlock=some b
theorem Cl{w w':World}{B:Nat}{e:TypeId}{sz:Nat}{v:Value}{n:Nat}{xs:List Value}(h:w.ownsRow B e sz v n xs)(hk:∀r,v.ownBlock=some r->w'.heap[r]?=w.heap[r]?):w'.ownsRow B e sz v n xs:=by
 refine⟨h.1,?_⟩;rcases h.2 with h0|⟨g,cap,cur,rfl,hB,hg,h4⟩
 ·exact .inl h0
 ·exact .inr ⟨g,cap,cur,rfl,hB,by rw[hk g rfl];exact hg,h4⟩
theorem Iq{w w':World}{b j:Nat}(e:w'.heap[b]?=w.heap[b]?)(h:w.frozen? ⟨b,j,none⟩=false):w'.frozen? ⟨b,j,none⟩=false:=by
 unfold World.frozen? at h ⊢;rw[e];exact h
theorem TbAt.stay{gt o B:Nat}{es:List Ent}{v:Value}{w w':World}(h:TbAt gt o B es v w)(hs:w.heap.size<=w'.heap.size)(h1:w'.heap[gt]?=w.heap[gt]?)(h2:∀r,v.ownBlock=some r->w'.heap[r]?=w.heap[r]?)(h3:∀e∈es,∀g,e.a=some ⟨g,0,none⟩->w'.heap[g]?=w.heap[g]?):TbAt gt o B es v w':=
 ⟨by rw[Au (w:=w) h1];exact h.cel,Iq h1 h.fre,Cl h.row h2,λi hi=>(h.pat i hi).keep hs (λg hg j=>Au (w:=w) (h3 _ (As hi) g hg)),h.far,λi hi g hg=>Af (h.blk i hi g hg) hs,h.own,h.few,h.szs,h.new⟩
theorem TrAt.stay{gt B:Nat}{es:List Prm}{v:Value}{w w':World}(h:TrAt gt B es v w)(h1:w'.heap[gt]?=w.heap[gt]?)(h2:∀r,v.ownBlock=some r->w'.heap[r]?=w.heap[r]?):TrAt gt B es v w':=
 ⟨by rw[Au (w:=w) h1];exact h.cel,Iq h1 h.fre,Cl h.row h2,h.own,h.few,h.pat⟩
theorem PrI.stay{B0:Nat}{p:Pr}{w w':World}(h:PrI B0 p w)(hs:w.heap.size<=w'.heap.size)(hk:∀b,p.fx b\/p.fr b->w'.heap[b]?=w.heap[b]?):PrI B0 p w':=
 ⟨h.tx.stay hs (hk _ (.inl (.inl rfl))) (λr hr=>hk r (.inl (.inr (.inl hr)))) (λe he g hg=>hk g (.inl (.inr (.inr ⟨e,he,hg⟩)))),h.tr.stay (hk _ (.inr (.inl rfl))) (λr hr=>hk r (.inr (.inr hr))),h.eq,h.sp,h.b1,h.b2⟩
theorem c4W{p:Pr}{w:World}(h:TbAt p.gx 0 p.gx p.es p.v w){b:Nat}(hb:p.fx b):b<w.heap.size:=by
 rcases hb with rfl|hb|⟨e,he,hb⟩
 ·exact h.lt
 ·exact(Cb h.row b hb).2
 ·obtain⟨i,hi,rfl⟩:=List.getElem_of_mem he;exact h.blk i hi b hb
theorem c4X{p:Pr}{w:World}(h:TrAt p.gr p.gr p.rs p.vr w){b:Nat}(hb:p.fr b):b<w.heap.size:=by
 rcases hb with rfl|hb
 ·exact h.lt
 ·exact(Cb h.row b hb).2
theorem PrI.fp_lt{B0:Nat}{p:Pr}{w:World}(h:PrI B0 p w){b:Nat}(hb:p.fx b\/p.fr b):b<w.heap.size:=by
 rcases hb with hb|hb
 ·exact c4W h.tx hb
 ·exact c4X h.tr hb
def etG:Nat->TypeId
 |0=>38
 |1=>99
 |2=>92
 |_=>45
def mkG:Nat->Nat->List Value
 |0=>c4V
 |1=>c4U
 |2=>c0G
 |_=>c0G
def prP(tb:List Pr):List Value:=tb.flatMap λp=>[.pointer (some ⟨p.gx,0,none⟩),.pointer (some ⟨p.gr,0,none⟩)]
section
variable{O:Nat->Nat}{wb:Nat}{V:Nat->Value}{l:Nat->List Value}{vs:Value}{tb:List Pr}{n:Nat}{w0 w w':World}
end
theorem LsI.stay{mc:List Value}{u:Value}{w w':World}(h:LsI mc u w)(hs:w.heap.size<=w'.heap.size)(hk:∀r,u.ownBlock=some r->w'.heap[r]?=w.heap[r]?):LsI mc u w':=by
 obtain⟨a,n,cap,rfl,h1,h2⟩:=h;exact⟨a,n,cap,rfl,h1,h2.block hs (λg hg=>hk g (by rw[hg];rfl))⟩
section
variable{O:Nat->Nat}{wb:Nat}{V:Nat->Value}{l:Nat->List Value}{vs:Value}{tb:List Pr}{n:Nat}{w0 wA w w':World}
end
end Go.Proofs.YtbiggccolpchcaaGreatDoor
namespace Go.Proofs.YtbiggccolpchcaaGreatDoor.Wz
open Go.RowKit Bn _root_.Go.Proofs.Tryz
structure Zt where
 vh:Value
 vl:Value
 I:World->Prop
 F:Nat->Prop
abbrev wlC(Z:Zt)(V:Nat->Value)(vs:Value):Array Value:=#[V 0,V 1,V 2,V 3,vs,Z.vh,Z.vl]
structure WI(Z:Zt)(O:Nat->Nat)(wb:Nat)(V:Nat->Value)(l:Nat->List Value)(vs:Value)(tb:List Pr)(n:Nat)(w0 w:World):Prop where
 bel:Bw w0 w
 blk:w.heap[wb]?=some (.cells (wlC Z V vs) 37 (0,0))
 wge:w0.heap.size<=wb
 oW:O wb=0
 rw_:∀j,j<4->w.ownsRow w0.heap.size (etG j) 1 (V j) (l j).length (l j)/\∀r,(V j).ownBlock=some r->O r=2+j
 lis:∀j,j<4->∀i (h:i<(l j).length),LsI (mkG j (i / 4*4)) (l j)[i] w/\∀r,((l j)[i]).ownBlock=some r->r<w.heap.size/\O r=6
 few:∀j,j<4->(l j).length<=4*n/\(l j).length % 4=0
 sh:w.ownsRow w0.heap.size 59 2 vs tb.length (prP tb)
 osh:∀r,vs.ownBlock=some r->O r=1
 tab:∀i (h:i<tb.length),PrI w0.heap.size tb[i] w/\(∀b,tb[i].fx b->O b=8+2*i)/\∀b,tb[i].fr b->O b=9+2*i
 ft:tb.length<=n
 rst:Z.I w
 rlt:∀b,Z.F b->b<w.heap.size/\O b=7
 rok:∀u u',Z.I u->Below w0.heap.size u u'->(∀b,Z.F b->u'.heap[b]?=u.heap[b]?)->Z.I u'
theorem c0H{B:Nat}{a b c:World}(h1:Below B a b)(h2:Below B a c)(hs:b.heap.size<=c.heap.size):Below B b c:=
 ⟨h2.os.trans h1.os.symm,h2.tape.trans h1.tape.symm,h2.output.trans h1.output.symm,hs,λk hk=>(h2.block k hk).trans (h1.block k hk).symm⟩
section
variable{Z:Zt}{O:Nat->Nat}{wb:Nat}{V:Nat->Value}{l:Nat->List Value}{vs:Value}{tb:List Pr}{n:Nat}{w0 w w':World}
theorem WI.lt(h:WI Z O wb V l vs tb n w0 w):wb<w.heap.size:=heap_lt h.blk
theorem WI.below(h:WI Z O wb V l vs tb n w0 w)(hb:Bw w w'):WI Z O wb V l vs tb n w0 w':=
 ⟨Bc h.bel hb,by rw[hb.block wb h.lt];exact h.blk,h.wge,h.oW,λj hj=>⟨Be (h.rw_ j hj).1 hb,(h.rw_ j hj).2⟩,λj hj i hi=>by
  obtain⟨⟨a,n,cap,e1,e2,e3⟩,e4⟩:=h.lis j hj i hi;exact⟨⟨a,n,cap,e1,e2,e3.below hb⟩,λr hr=>⟨Af (e4 r hr).1 hb.size,(e4 r hr).2⟩⟩,h.few,Be h.sh hb,h.osh,λi hi=>⟨(h.tab i hi).1.stay hb.size (λb hbb=>hb.block b ((h.tab i hi).1.fp_lt hbb)),(h.tab i hi).2⟩,h.ft,h.rok _ _ h.rst (hb.mono h.bel.size) (λb hbb=>hb.block b (h.rlt b hbb).1),λb hbb=>⟨Af (h.rlt b hbb).1 hb.size,(h.rlt b hbb).2⟩,h.rok⟩
theorem WI.more(h:WI Z O wb V l vs tb n w0 w){m:Nat}(hm:n<=m):WI Z O wb V l vs tb m w0 w:=
 ⟨h.bel,h.blk,h.wge,h.oW,h.rw_,h.lis,λj hj=>⟨Aj (h.few j hj).1 (by omega),(h.few j hj).2⟩,h.sh,h.osh,h.tab,Aj h.ft hm,h.rst,h.rlt,h.rok⟩
theorem WI.cell(h:WI Z O wb V l vs tb n w0 w)(j:Nat)(hj:j<4):w.cell? ⟨wb,j,none⟩=some (V j):=by
 rw[Ab h.blk]
 match j,hj with
 |0,_=>rfl
 |1,_=>rfl
 |2,_=>rfl
 |3,_=>rfl
theorem WI.book(h:WI Z O wb V l vs tb n w0 w)(hn:n<=1000000)(j:Nat)(hj:j<4):BpI j wb w0.heap.size (etG j) (mkG j) (l j) (V j) w:=
 ⟨h.cell j hj,(h.rw_ j hj).1,by have:=(h.few j hj).1;omega,λi hi=>(h.lis j hj i hi).1⟩
theorem wlooks_any(h:WI Z O wb V l vs tb n w0 w)(hn:n<=1000000):
  Calls prog 9 #[.pointer (some ⟨wb,0,none⟩)] w λr w'=>r=.returned (.bool true)/\WI Z O wb V l vs tb n w0 w':=
 (b2C wb w0.heap.size (l 0) (l 1) (l 2) (l 3) (V 0) (V 1) (V 2) (V 3) w (h.book hn 0 (by omega)) (h.book hn 1 (by omega)) (h.book hn 2 (by omega)) (h.book hn 3 (by omega))).mono (by
  rintro r w' ⟨rfl,hb⟩;exact⟨rfl,h.below hb⟩)
end
theorem c0I(Z:Zt)(V:Nat->Value)(vs V1:Value)(j:Nat)(hj:j<4):(wlC Z V vs).setIfInBounds j V1=wlC Z (λi=>if i=j then V1 else V i) vs:=by
 match j,hj with
 |0,_=>rfl
 |1,_=>rfl
 |2,_=>rfl
 |3,_=>rfl
section
variable{Z:Zt}{O:Nat->Nat}{wb:Nat}{V:Nat->Value}{l:Nat->List Value}{vs:Value}{tb:List Pr}{n:Nat}{w0 wA w w':World}
theorem WI.keep(h:WI Z O wb V l vs tb n w0 wA)(hb:Bw wA w){j:Nat}(hj:j<4){u:Value}(hu:∀r,u.ownBlock=some r->wA.heap.size<=r)(K:Kept4 wb j w0.heap.size (wlC Z V vs) 37 (etG j) (mkG j (l j).length) (l j) (V j) u w w'):∃O' V' l',WI Z O' wb V' l' vs tb (n+1) w0 w':=by
 obtain⟨⟨V1,v1,v2,v3,k1,k2,k3,k4⟩,kx⟩:=K;have hsA:=hb.size;have hVo:=(h.rw_ j hj).2;have hVl:=Cb (h.rw_ j hj).1;have hst:∀b,b<wA.heap.size->O b≠0->O b≠2+j->w'.heap[b]?=wA.heap[b]?:=λb hbb h0 h2=>by
  rw[kx.2 b (by omega) ?_,hb.block b hbb];simp only[B3z,C3z,D3z,B5z,not_or];exact⟨λe=>h0 (by rw[e];exact h.oW),λe=>h2 (hVo b e),λe=>by have:=hu b e;omega⟩
 have hsw:=kx.size;have hO:∀b,b<wA.heap.size->(if b<wA.heap.size then O b else if V1.ownBlock=some b then 2+j else 6)=O b:=λb hbb=>if_pos hbb;refine⟨λb=>if b<wA.heap.size then O b else if V1.ownBlock=some b then 2+j else 6,λi=>if i=j then V1 else V i,λi=>if i=j then l j++[u,v1,v2,v3]else l i,?_⟩;have BEL:Bw w0 w':=(Bc h.bel hb).trans (kx.below (λb hbb=>by
  simp only[B3z,C3z,D3z,B5z]at hbb;rcases hbb with rfl|e|e
  ·exact h.wge
  ·exact(hVl b e).1
  ·exact Aj h.bel.size (hu b e)) (Aj h.bel.size hsA))
 refine⟨BEL,by rw[k1,c0I Z V vs V1 j hj],h.wge,by rw[hO wb h.lt];exact h.oW,λi hi=>?_,λi hi k hk=>?_,λi hi=>?_,?_,λr hr=>?_,λi hi=>?_,?_,?_,λb hbb=>?_,h.rok⟩
 ·by_cases hij:i=j
  ·subst hij;simp only[if_true];refine⟨by rw[A0z];exact k2,λr hr=>?_⟩;by_cases hr2:r<wA.heap.size
   ·rw[hO r hr2];rcases k3 r hr with e|e
    ·exact hVo r e
    ·omega
   ·rw[if_neg hr2,if_pos hr]
  ·simp only[if_neg hij];have hl:=Cb (h.rw_ i hi).1;have ho:=(h.rw_ i hi).2;exact⟨Cl (h.rw_ i hi).1 (λr hr=>hst r (hl r hr).2 (by rw[ho r hr];omega) (by rw[ho r hr];omega)),λr hr=>by rw[hO r (hl r hr).2];exact ho r hr⟩
 ·have old:∀i (_:i<4) k (hk:k<(l i).length),LsI (mkG i (k / 4*4)) (l i)[k] w'/\∀r,((l i)[k]).ownBlock=some r->r<w'.heap.size/\(if r<wA.heap.size then O r else if V1.ownBlock=some r then 2+j else 6)=6:=λi hi k hk=>by
   obtain⟨e1,e2⟩:=h.lis i hi k hk;exact⟨LsI.stay e1 (by omega) (λr hr=>hst r (e2 r hr).1 (by rw[(e2 r hr).2];decide) (by rw[(e2 r hr).2];omega)),λr hr=>⟨by have:=(e2 r hr).1;omega,by rw[hO r (e2 r hr).1];exact(e2 r hr).2⟩⟩
  by_cases hij:i=j
  ·subst hij;simp only[if_true]at hk ⊢;have h4:=(h.few i hi).2;by_cases hk2:k<(l i).length
   ·rw[B4z hk2];exact old i hi k hk2
   ·rw[C2z (by omega)];rw[A0z]at hk;have hk3:k-(l i).length<[u,v1,v2,v3].length:=by omega
    have hmem:=As hk3;obtain⟨e1,e2⟩:=k4 _ hmem;simp only[A9z,C0z]at hk3;rw[show k / 4*4=(l i).length by omega];refine⟨e1,λr hr=>⟨(e2 r hr).2.1,?_⟩⟩;rw[if_neg,if_neg (e2 r hr).2.2.2];rcases(e2 r hr).1 with q|q
    ·have:=hu r q;omega
    ·omega
  ·simp only[if_neg hij]at hk ⊢;exact old i hi k hk
 ·have:=h.few i hi;by_cases hij:i=j
  ·subst hij;simp only[if_true,A0z,A9z,C0z];omega
  ·simp only[if_neg hij];omega
 ·have hl:=Cb h.sh;exact Cl h.sh (λr hr=>hst r (hl r hr).2 (by rw[h.osh r hr];decide) (by rw[h.osh r hr];omega))
 ·rw[hO r (Cb h.sh r hr).2];exact h.osh r hr
 ·obtain⟨e1,e2,e3⟩:=h.tab i hi;refine⟨e1.stay (by omega) (λb hbb=>?_),λb hbb=>by rw[hO b (e1.fp_lt (.inl hbb))];exact e2 b hbb,λb hbb=>by rw[hO b (e1.fp_lt (.inr hbb))];exact e3 b hbb⟩;rcases hbb with q|q
  ·exact hst b (e1.fp_lt (.inl q)) (by rw[e2 b q];omega) (by rw[e2 b q];omega)
  ·exact hst b (e1.fp_lt (.inr q)) (by rw[e3 b q];omega) (by rw[e3 b q];omega)
 ·have:=h.ft;omega
 ·exact h.rok wA _ h.rst (c0H h.bel BEL (by omega)) (λb hbb=>hst b (h.rlt b hbb).1 (by rw[(h.rlt b hbb).2];omega) (by rw[(h.rlt b hbb).2];omega))
 ·have:=h.rlt b hbb;exact⟨by omega,by rw[hO b this.1];exact this.2⟩
theorem WI.rest(h:WI Z O wb V l vs tb n w0 w){Z':Zt}{w':World}(BEL:Bw w0 w')(hs:w.heap.size<=w'.heap.size)(hst:∀b,b<w.heap.size->b≠wb->¬Z.F b->w'.heap[b]?=w.heap[b]?)(hblk:w'.heap[wb]?=some (.cells (wlC Z' V vs) 37 (0,0)))
  (r1:Z'.I w') (r2:∀b,Z'.F b->b<w'.heap.size/\(Z.F b\/w.heap.size<=b\/O b=7)) (r3:∀u u',Z'.I u->Below w0.heap.size u u'->(∀b,Z'.F b->u'.heap[b]?=u.heap[b]?)->Z'.I u'):∃O',WI Z' O' wb V l vs tb n w0 w':=by
 have hO:∀b,b<w.heap.size->(if b<w.heap.size then O b else 7)=O b:=λb hb=>if_pos hb;have hso:∀b,b<w.heap.size->O b≠0->O b≠7->w'.heap[b]?=w.heap[b]?:=λb hb h0 h7=>hst b hb (λe=>h0 (by rw[e];exact h.oW)) (λe=>h7 (h.rlt b e).2);refine⟨λb=>if b<w.heap.size then O b else 7,BEL,hblk,h.wge,by rw[hO wb h.lt];exact h.oW,λj hj=>?_,λj hj k hk=>?_,h.few,?_,λr hr=>?_,λi hi=>?_,h.ft,r1,λb hb=>⟨(r2 b hb).1,?_⟩,r3⟩
 ·have hl:=Cb (h.rw_ j hj).1;have ho:=(h.rw_ j hj).2;exact⟨Cl (h.rw_ j hj).1 (λr hr=>hso r (hl r hr).2 (by rw[ho r hr];omega) (by rw[ho r hr];omega)),λr hr=>by rw[hO r (hl r hr).2];exact ho r hr⟩
 ·obtain⟨q1,q2⟩:=h.lis j hj k hk;exact⟨LsI.stay q1 hs (λr hr=>hso r (q2 r hr).1 (by rw[(q2 r hr).2];omega) (by rw[(q2 r hr).2];omega)),λr hr=>⟨by have:=(q2 r hr).1;omega,by rw[hO r (q2 r hr).1];exact(q2 r hr).2⟩⟩
 ·have hl:=Cb h.sh;exact Cl h.sh (λr hr=>hso r (hl r hr).2 (by rw[h.osh r hr];omega) (by rw[h.osh r hr];omega))
 ·rw[hO r (Cb h.sh r hr).2];exact h.osh r hr
 ·obtain⟨d1,d2,d3⟩:=h.tab i hi;refine⟨d1.stay hs (λb hbb=>?_),λb hbb=>by rw[hO b (d1.fp_lt (.inl hbb))];exact d2 b hbb,λb hbb=>by rw[hO b (d1.fp_lt (.inr hbb))];exact d3 b hbb⟩;rcases hbb with q|q
  ·exact hso b (d1.fp_lt (.inl q)) (by rw[d2 b q];omega) (by rw[d2 b q];omega)
  ·exact hso b (d1.fp_lt (.inr q)) (by rw[d3 b q];omega) (by rw[d3 b q];omega)
 ·rcases(r2 b hb).2 with q|q|q
  ·rw[hO b (h.rlt b q).1];exact(h.rlt b q).2
  ·rw[if_neg (by omega)]
  ·by_cases hl:b<w.heap.size
   ·rw[hO b hl];exact q
   ·rw[if_neg hl]
theorem WI.seven(h:WI Z O wb V l vs tb n w0 w):WI Z (λb=>if b<w.heap.size then O b else 7) wb V l vs tb n w0 w:=by
 have hO:∀b,b<w.heap.size->(if b<w.heap.size then O b else 7)=O b:=λb hb=>if_pos hb;refine⟨h.bel,h.blk,h.wge,by rw[hO wb h.lt];exact h.oW,λj hj=>⟨(h.rw_ j hj).1,λr hr=>by rw[hO r (Cb (h.rw_ j hj).1 r hr).2];exact(h.rw_ j hj).2 r hr⟩,λj hj i hi=>⟨(h.lis j hj i hi).1,λr hr=>⟨((h.lis j hj i hi).2 r hr).1,by rw[hO r ((h.lis j hj i hi).2 r hr).1];exact((h.lis j hj i hi).2 r hr).2⟩⟩,h.few,h.sh,λr hr=>by rw[hO r (Cb h.sh r hr).2];exact h.osh r hr,λi hi=>?_,h.ft,h.rst,λb hb=>⟨(h.rlt b hb).1,by rw[hO b (h.rlt b hb).1];exact(h.rlt b hb).2⟩,h.rok⟩;obtain⟨e1,e2,e3⟩:=h.tab i hi;exact⟨e1,λb hb=>by rw[hO b (e1.fp_lt (.inl hb))];exact e2 b hb,λb hb=>by rw[hO b (e1.fp_lt (.inr hb))];exact e3 b hb⟩
end
end Go.Proofs.YtbiggccolpchcaaGreatDoor.Wz
