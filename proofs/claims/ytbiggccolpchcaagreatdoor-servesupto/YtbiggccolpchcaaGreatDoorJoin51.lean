/- Joined. -/
import Derived.Test.YtbiggccolpchcaaGreatDoorJoin50
import Derived.ChangeArms
import Derived.ChangeSame
import Derived.ChangeOld
set_option maxRecDepth 100000
set_option maxHeartbeats 8000000
namespace Go.Proofs.YtbiggccolpchcaaGreatDoor
open Go.RowKit Bn _root_.Go.Proofs.Tryz
structure PlayX(w:World)(lo hi:Int)(os:List OpV)(X:Nat->World->Nat->World->Prop):Prop where
 x0:∀w1,Bw w w1->X w1.heap.size w1 0 (w1.alloc (.cells wlZ 37))
 xb:∀wb w1 q W,X wb w1 q W->Bw w1 W
 xm:∀wb w1 q W,X wb w1 q W->X wb w1 (q+1) W
 xl:∀wb w1 q W W',X wb w1 q W->Bw W W'->X wb w1 q W'
 lk:∀wb w1 q W,Bw w w1->X wb w1 q W->q<=900001->Calls prog 9 #[.pointer (some ⟨wb,0,none⟩)] W λr w'=>r=.returned (.bool true)/\X wb w1 q w'
 st:∀wb w1 q (h:q<os.length) W,Bw w w1->X wb w1 q W->q<=900000->lo<=(os[q]).k->(os[q]).k<=hi->Calls prog 8 #[.pointer (some ⟨wb,0,none⟩),.agg (os[q]).cs] W λr w'=>r=.returned (.bool true)/\X wb w1 (q+1) w'
theorem a8F{wb q n:Nat}{w0 w:World}{X:Nat->World->Nat->World->Prop}(hl:q<n)(h9:q<=900000)(h:X wb w0 (q+1) w):
  (∃q1,q1<=n/\Value.int IntKind.i64 (wrap64 ((q:Int)+1))=Value.int IntKind.i64 (q1:Int)/\X wb w0 q1 w) /\
   n-(intOf (Value.int IntKind.i64 (wrap64 ((q:Int)+1)))).toNat<n-(intOf (Value.int IntKind.i64 (q:Int))).toNat:=by
 have e:wrap64 ((q:Int)+1)=((q+1:Nat):Int):=by unfold wrap64;omega
 rw[e];exact⟨⟨q+1,by omega,rfl,h⟩,by simp[intOf];omega⟩
theorem b3M(lo hi:Int)(os:List OpV)(a:Oa)(c:Nat)(w:World)(hos:a8C os a w)(hl:os.length<=900000)(X:Nat->World->Nat->World->Prop)(PX:PlayX w lo hi os X)
  (BG:Calls prog 7 #[.int .i64 lo,.int .i64 hi] w λr w'=>r=.returned (.bool true)/\Bw w w') :
  Calls prog 6 #[.slice a os.length c,.int .i64 lo,.int .i64 hi] w λr w'=>r=.returned (.bool true)/\Bw w w':=by
 have HBG:=hid BG;have HPX:=hid PX;have HOS:=hid hos;clear BG PX hos;go_enter func6,ntmps6;go_wp2_with fail;refine HBG.out.mono ?_;rintro r w1 ⟨rfl,hb1⟩;have HB1:=hid hb1;have HW:=hid (HPX.out.x0 w1 hb1);clear hb1 HBG;go_upto_region 5 with fail;generalize w1.alloc (.cells wlZ 37)=w2 at *
 generalize hwb:w1.heap.size=wb at *
 clear hwb;go_wp2_with fail
 go_loopw [7,9,10,11] (λ_ i _ _ wr=>∃q:Nat,q<=os.length/\i=.int .i64 q/\X wb w1 q wr) (λ_ i _ _ _=>os.length-(intOf i).toNat)
 case atStart=>exact⟨0,Ah _,rfl,HW.out⟩
 case round=>
  obtain⟨q,hq,rfl,hX⟩:=hrel;have HX:=hid hX;have hB:=Bc HB1.out (HPX.out.xb _ _ _ _ hX);clear hX;by_cases hlt:q<os.length
  ·obtain⟨g,off,rfl,hg,hel⟩:=(HOS.out.below hB) q hlt;have HSTEP:=hid (λW h h9 h1 h2=>HPX.out.st wb w1 q hlt W HB1.out h h9 h1 h2);generalize os[q]=ov at *
   have hlt':(q:Int)<(os.length:Int):=by omega
   have hq9:q<=900000:=by omega
   have hqd:decide ((q:Int)<1152921504606846976)=true:=Ak (by omega);have HQ9:=hid hq9;clear hq9;have HEL:=hid hel;clear hel;have HLT:=hid hlt;have HQ:=hid hq;have HL:=hid hl;clear hlt hq hl;go_upto_region 8 with fail;clear hqd;have bN:=Ag wr (.cells ov.cs 51);have hA:=bA wr (.cells ov.cs 51);have HXA:=hid (HPX.out.xl _ _ _ _ _ HX.out hA);clear hA;have hel:=HEL.out;have hr:(wr.alloc (.cells ov.cs 51)).rangeAt wr.heap.size 0 ov.cs.toList:=λj v hj=>by
    rw[Ab bN,C1z,<-Array.getElem?_toList];exact hj
   have HR:=hid hr;have HF0:=hid (show(wr.alloc (.cells ov.cs 51)).cell? ⟨wr.heap.size,0,none⟩=some (.int .i64 ov.k) by rw[Ab bN];rfl);have HLK:=hid (λ(W:World) (h:X wb w1 (q+1) W)=>HPX.out.lk wb w1 (q+1) W HB1.out h (by have:=HQ9.out;omega));have HXM:=hid (λ(W:World) (h:X wb w1 q W)=>HPX.out.xm wb w1 q W h);clear bN hr HPX HEL;have hs20:ov.cs.size=20:=rfl;have hall:=c1G ov;generalize ov.cs=cs at *
   have HS20:=hid hs20;have HALL:=hid hall;clear hs20 hall;go_upto_region 9 with(first
    |refine wpList_load_mid rfl 51 _ rfl g (off+q*20) rfl cs.toList _ hel underlying51 rfl (by rw[Array.length_toList,HS20.out];kernel_rfl) ?_
    |refine Px rfl 51 _ _ rfl wr 51 _ cs (by rw[HS20.out];rfl) rfl rfl (by rw[HS20.out];kernel_rfl) HALL.out ?_)
   clear hel HALL;generalize wr.alloc (.cells cs 51)=wA at *
   generalize wr.heap.size=nb at *
   have f0:=HF0.out;by_cases hk1:ov.k<lo
   ·go_wp2_with fail;exact a8F HLT.out HQ9.out (HXM.out _ HXA.out)
   ·by_cases hk2:hi<ov.k
    ·go_wp2_with fail;exact a8F HLT.out HQ9.out (HXM.out _ HXA.out)
    ·go_upto_region 10 with fail;clear f0;have hr:=HR.out;go_wp2_with (refine wpList_load_mid rfl 51 _ rfl nb 0 rfl cs.toList _ hr underlying51 rfl (by rw[Array.length_toList,HS20.out];kernel_rfl) ?_);refine(HSTEP.out wA HXA.out HQ9.out (by omega) (by omega)).mono ?_;rintro r w3 ⟨rfl,h3⟩;have HX3:=hid h3;clear h3 hr HXA HSTEP;go_wp2_with fail;refine(HLK.out w3 HX3.out).mono ?_;rintro r w4 ⟨rfl,h4⟩;have HX4:=hid h4;clear h4 HX3 HLK;go_wp2_with fail;exact a8F HLT.out HQ9.out HX4.out
  ·have hge:¬(q:Int)<(os.length:Int):=by omega
   have HB:=hid hB;clear hB;go_wp2;go_ret;exact⟨rfl,HB.out⟩
structure OpC(C:Cf)(o:OpV)(w:World):Prop where
 e1:o.ch=C.hd
 e2:o.cb=C.bd
 e3:o.rn=C.rs.length
 e4:o.wn=C.ws.length
 g:CfG C.rs C.ws o.ra o.rc o.wa o.wc w
 cw:C.ws.length<=o.wc
 ro:∀r∈C.rs,RtSm r
 wo:∀x∈C.ws,x.n.size<=1048576/\x.v.size<=1048576
 lt:∀g p,(C.rs≠[]/\o.ra=some ⟨g,p,none⟩)\/(C.ws≠[]/\o.wa=some ⟨g,p,none⟩)->g<w.heap.size
theorem OpC.below{C:Cf}{o:OpV}{w w':World}(h:OpC C o w)(hb:Bw w w'):OpC C o w':=
 ⟨h.e1,h.e2,h.e3,h.e4,h.g.below hb,h.cw,h.ro,h.wo,λg p e=>Af (h.lt g p e) hb.size⟩
theorem Gl.below{w w':World}{mx:Int}(G:Gl w mx)(hb:Bw w w'):Gl w' mx:=⟨Aa hb G.mx,Lib.tabBelow_of_tabIs (G.tab w' hb)⟩
section
variable{wb n G nh nl:Nat}{w0 w w':World}{mx:Int}
theorem XS.more{m G':Nat}(h:XS wb n G nh nl w0 w)(hm:n<=m)(hG:G<=G'):XS wb m G' nh nl w0 w:=by
 obtain⟨OW,V,l,vs,tb,O,vh,vl,hs,ls,X,e1,e2⟩:=h;exact⟨OW,V,l,vs,tb,O,vh,vl,hs,ls,X.more hm hG,e1,e2⟩
theorem XS.below(h:XS wb n G nh nl w0 w)(hb:Bw w w'):XS wb n G nh nl w0 w':=by
 obtain⟨OW,V,l,vs,tb,O,vh,vl,hs,ls,X,e1,e2⟩:=h;exact⟨OW,V,l,vs,tb,O,vh,vl,hs,ls,X.below hb,e1,e2⟩
theorem XS.bel(h:XS wb n G nh nl w0 w):Bw w0 w:=by
 obtain⟨OW,V,l,vs,tb,O,vh,vl,hs,ls,X,-⟩:=h;exact X.wi.bel
theorem XS.looks(h:XS wb n G nh nl w0 w)(hn:n<=1000000):Calls prog 9 #[.pointer (some ⟨wb,0,none⟩)] w λr w'=>r=.returned (.bool true)/\XS wb n G nh nl w0 w':=by
 obtain⟨OW,V,l,vs,tb,O,vh,vl,hs,ls,X,e1,e2⟩:=h;exact(Wz.wlooks_any X.wi hn).mono (by rintro r w' ⟨rfl,h3⟩;exact⟨rfl,OW,V,l,vs,tb,O,vh,vl,hs,ls,⟨h3,X.hn,X.ln,X.cn,X.sm⟩,e1,e2⟩)
theorem XS.cell(h:XS wb n G nh nl w0 w):∃a c,w.cell? ⟨wb,6,none⟩=some (.slice a nl c)/\wb<w.heap.size:=by
 obtain⟨OW,V,l,vs,tb,O,vh,vl,hs,ls,X,rfl,rfl⟩:=h;obtain⟨a,c,rfl⟩:=Ce X.hi.lr;exact⟨a,c,by rw[Ab X.wi.blk];rfl,X.wi.lt⟩
theorem XS.server(h:XS wb n G nh nl w0 w)(hn:n<=900000)(Gw:Gl w0 mx)(o:OpV)(hk:o.k=30){C:Cf}(hC:OpC C o w')(hb:Bw w w')(hcf:∀g p,(C.rs≠[]/\o.ra=some ⟨g,p,none⟩)\/(C.ws≠[]/\o.wa=some ⟨g,p,none⟩)->g<w0.heap.size\/w.heap.size<=g):
  Calls prog 8 #[.pointer (some ⟨wb,0,none⟩),.agg o.cs] w' λr w'=>r=.returned (.bool true)/\XS wb (n+1) G (if(Et C.hd C.bd C.rs C.ws).2=0 then nh+1 else nh) nl w0 w':=by
 obtain⟨OW,V,l,vs,tb,O,vh,vl,hs,ls,X,rfl,rfl⟩:=h;refine a4F (X.seven.below hb) hn Gw o hk C hC.e1 hC.e2 hC.e3 hC.e4 hC.g hC.cw hC.ro hC.wo (λg p e=>⟨hC.lt g p e,?_⟩);rcases hcf g p e with h|h
 ·exact .inl h
 ·refine .inr ⟨?_,if_neg (by omega)⟩
  cases q:O g with
  |none=>rfl
  |some t=>have:=X.hi.olt g t q;omega
theorem XS.open(h:XS wb n G nh nl w0 w)(hn:n<=900000)(o:OpV)(ok:OpOk o)(hk:o.k=31\/o.k=32)(hl:0<nh)(hG:G<=1900000):
  Calls prog 8 #[.pointer (some ⟨wb,0,none⟩),.agg o.cs] w λr w'=>r=.returned (.bool true)/\∃nh,XS wb (n+1) G nh (if o.k=32 then nl+1 else nl) w0 w':=by
 obtain⟨OW,V,l,vs,tb,O,vh,vl,hs,ls,X,rfl,rfl⟩:=h;exact a4G X hn o ok hk hl hG
theorem XS.line(h:XS wb n G nh nl w0 w)(hn:n<=900000)(Gw:Gl w0 mx)(o:OpV)(ok:OpOk o)(hk:32<o.k)(hl:0<nl)(hz:G+o.s.size<=1900000):
  Calls prog 8 #[.pointer (some ⟨wb,0,none⟩),.agg o.cs] w λr w'=>r=.returned (.bool true)/\∃nh,XS wb (n+1) (G+o.s.size) nh nl w0 w':=by
 obtain⟨OW,V,l,vs,tb,O,vh,vl,hs,ls,X,rfl,rfl⟩:=h;exact a8E X hn Gw o ok hk hl hz
theorem XS.step(h:XS wb n G nh nl w0 w)(hn:n<=900000)(Gw:Gl w0 mx)(o:OpV)(ok:OpOk o)(h30:30<=o.k)(hz:G+o.s.size<=1900000)(hC:∃C,OpC C o w0):
  Calls prog 8 #[.pointer (some ⟨wb,0,none⟩),.agg o.cs] w λr w'=>r=.returned (.bool true)/\∃nh nl,XS wb (n+1) (G+o.s.size) nh nl w0 w':=by
 by_cases k30:o.k=30
 ·obtain⟨C,hC⟩:=hC;refine(h.server hn Gw o k30 (hC.below h.bel) (Ad _ _) (λg p e=>.inl (hC.lt g p e))).mono ?_;rintro r w1 ⟨rfl,h1⟩;exact⟨rfl,_,_,h1.more (Ac _) (by omega)⟩
 by_cases k32:o.k=31\/o.k=32
 ·by_cases h0:0<nh
  ·refine(h.open hn o ok k32 h0 (by omega)).mono ?_;rintro r w1 ⟨rfl,nh1,h1⟩;exact⟨rfl,_,_,h1.more (Ac _) (by omega)⟩
  ·have hs':=h;obtain⟨OW,V,l,vs,tb,O,vh,vl,hs,ls,X,rfl,rfl⟩:=h;refine(b8Q X o k32 (by omega)).mono ?_;rintro r w1 ⟨rfl,hb⟩;exact⟨rfl,_,_,(hs'.below hb).more (Al n) (by omega)⟩
 ·by_cases h0:0<nl
  ·refine(h.line hn Gw o ok (by omega) h0 hz).mono ?_;rintro r w1 ⟨rfl,nh1,h1⟩;exact⟨rfl,_,_,h1⟩
  ·have hs':=h;obtain⟨OW,V,l,vs,tb,O,vh,vl,hs,ls,X,rfl,rfl⟩:=h;refine(b8R X o (by omega) (by omega)).mono ?_;rintro r w1 ⟨rfl,hb⟩;exact⟨rfl,_,_,(hs'.below hb).more (Al n) (by omega)⟩
end
theorem b8S(w:World):XS w.heap.size 0 0 0 0 w (w.alloc (.cells wlZ 37)):=by
 have hA:=bA w (.cells wlZ 37);have b:=Ag w (.cells wlZ 37);refine⟨λ_=>0,λ_=>.slice none 0 0,λ_=>[],.slice none 0 0,[],λ_=>none,.slice none 0 0,.slice none 0 0,[],[],⟨⟨hA,b,Ac _,rfl,λj _=>⟨Am _ _ _ _,(λr hr=>by cases hr)⟩,λj _ i hi=>absurd hi (by simp),λj _=>⟨by simp,rfl⟩,Am _ _ _ _,(λr hr=>by cases hr),λi hi=>absurd hi (by simp),by simp,?_,?_,a9U _ _ _ _ _ _⟩,by simp,by simp,by simp,by simp[Vk]⟩,rfl,rfl⟩
 ·exact⟨Am _ _ _ _,Am _ _ _ _,(λr hr=>by cases hr),(λr hr=>by cases hr),λi hi=>absurd hi (by simp),λl hl=>absurd hl (by simp),(λb t h=>by cases h),λb t h=>by cases h⟩
 ·rintro b ⟨t,h⟩;cases h
def knR:Rt:=⟨⟨#[71,69,84]⟩,⟨#[47,104,105,47,58,110,97,109,101]⟩,⟨2,200,⟨#[]⟩,⟨#[110,97,109,101]⟩⟩⟩
theorem c4C(r:Rt){g:Nat}{cur:Array Value}{T:TypeId}{w:World}(hb:w.heap[g]?=some (.cells cur T (0,0)))(hc:cur.toList=r.cells):Da 6 Rt.cells [r] (some ⟨g,0,none⟩) w:=λi hi=>by
 have h0:i=0:=by simp at hi;omega
 subst h0;refine⟨g,0,rfl,heap_lt hb,λj v hv=>?_⟩;rw[Ab hb,Nat.zero_mul,C1z,<-Array.getElem?_toList,hc];exact hv
theorem Lp(w:World)(o1 o2 o3:Obj):Bw w (((w.alloc o1).alloc o2).alloc o3)/\(((w.alloc o1).alloc o2).alloc o3).heap[w.heap.size+1+1]?=some o3:=by
 have b1:=bA w o1;have b2:=b1.alloc b1.size o2;have b3:=b2.alloc b2.size o3;have h:=Ag ((w.alloc o1).alloc o2) o3;rw[show((w.alloc o1).alloc o2).heap.size=w.heap.size+1+1 by simp]at h;exact⟨b3,h⟩
theorem b3N(w:World):
  Calls prog 10 #[] w λx w'=>(∃g,w.heap.size<=g/\g<w'.heap.size/\x=.returned (.agg #[.int .i64 100,.int .i64 10,.slice (some ⟨g,0,none⟩) 1 1,.slice none 0 0])/\Da 6 Rt.cells [knR] (some ⟨g,0,none⟩) w')/\Bw w w':=by
 go_enter func10,ntmps10;go_wp2;refine Ae (v:=.agg #[.int .i64 100,.int .i64 10,.slice (some ⟨w.heap.size+1+1,0,none⟩) 1 1,.slice none 0 0]) (by simp[results,results10,go_sem]) rfl ?_;exact⟨⟨w.heap.size+1+1,by omega,heap_lt (Lp w _ _ _).2,rfl,c4C knR (Lp w _ _ _).2 rfl⟩,(Lp w _ _ _).1⟩
def knC:Cf:=⟨100,10,[knR],[]⟩
def opK(g:Nat):OpV:=⟨30,0,0,⟨#[]⟩,⟨#[]⟩,none,0,0,0,0,100,10,some ⟨g,0,none⟩,1,1,none,0,0,⟨#[]⟩,⟨#[]⟩,none,0,0,⟨#[]⟩,0,none,0,0,⟨#[]⟩,false⟩
def opA(k a:Int):OpV:=⟨k,0,a,⟨#[]⟩,⟨#[]⟩,none,0,0,0,0,0,0,none,0,0,none,0,0,⟨#[]⟩,⟨#[]⟩,none,0,0,⟨#[]⟩,0,none,0,0,⟨#[]⟩,false⟩
def giv:By:=⟨#[71,69,84,32,47,104,105,47,121,111,117,32,72,84,84,80,47,49,46,49,13,10,72,111,115,116,58,32,97,13,10,13,10]⟩
theorem c4D:(Et knC.hd knC.bd knC.rs knC.ws).2=0:=by kernel_rfl
theorem c5F{g:Nat}{w:World}(hR:Da 6 Rt.cells [knR] (some ⟨g,0,none⟩) w)(hg:g<w.heap.size):OpC knC (opK g) w where
 e1:=rfl
 e2:=rfl
 e3:=rfl
 e4:=rfl
 g:=⟨hR,λi hi=>absurd hi (by simp[knC]),(λh=>by cases h),λ_=>⟨rfl,rfl⟩,by simp[knC],by simp[knC]⟩
 cw:=Ac _
 ro:=λr hr=>by
  have hr':r∈[knR]:=hr;rw[C4z]at hr';subst hr';exact⟨by decide,by decide,by decide,by decide⟩
 wo:=λx hx=>by
  have hx':x∈([]:List Wr):=hx
  cases hx'
 lt:=λb p e=>by
  rcases e with⟨-,e⟩|⟨-,e⟩
  ·have e':(some ⟨g,0,none⟩:Oa)=some ⟨b,p,none⟩:=e
   cases e';exact hg
  ·have e':(none:Oa)=some ⟨b,p,none⟩:=e
   cases e'
structure BegY(wb:Nat)(w:World)(W0:World):Prop where
 a:∀W g,Bw W0 W->Da 6 Rt.cells [knR] (some ⟨g,0,none⟩) W->W0.heap.size<=g->g<W.heap.size->Calls prog 8 #[.pointer (some ⟨wb,0,none⟩),.agg (opK g).cs] W λr w'=>r=.returned (.bool true)/\XS wb 1 0 1 0 w w'
 b:∀W,XS wb 1 0 1 0 w W->Calls prog 8 #[.pointer (some ⟨wb,0,none⟩),.agg (opA 32 0).cs] W λr w'=>r=.returned (.bool true)/\∃nh,XS wb 2 0 nh 1 w w'
 d:∀W nh,XS wb 2 0 nh 1 w W->Calls prog 8 #[.pointer (some ⟨wb,0,none⟩),.agg (opZ 33 giv ⟨#[]⟩).cs] W λr w'=>r=.returned (.bool true)/\∃nh,XS wb 3 giv.size nh 1 w w'
 e:∀W nh,XS wb 3 giv.size nh 1 w W->Calls prog 8 #[.pointer (some ⟨wb,0,none⟩),.agg (opA 35 1000).cs] W λr w'=>r=.returned (.bool true)/\∃nh,XS wb 4 giv.size nh 1 w w'
theorem c1J{wb:Nat}{w W0:World}{mx:Int}(G:Gl w mx)(h:XS wb 0 0 0 0 w W0):BegY wb w W0 where
 a:=λW g hb hR h1 h2=>by
  refine(h.server (by omega) G (opK g) rfl (c5F hR h2) hb (λb p e=>?_)).mono ?_
  ·rcases e with⟨-,e⟩|⟨-,e⟩
   ·have e':(some ⟨g,0,none⟩:Oa)=some ⟨b,p,none⟩:=e
    cases e';exact .inr h1
   ·have e':(none:Oa)=some ⟨b,p,none⟩:=e
    cases e'
  ·rintro r w' ⟨rfl,h3⟩;rw[if_pos c4D]at h3;exact⟨rfl,h3⟩
 b:=λW h=>by
  refine(h.open (by omega) (opA 32 0) ⟨by decide,by decide,by decide,by decide⟩ (.inr rfl) (by omega) (by omega)).mono ?_;rintro r w' ⟨rfl,nh,h3⟩;exact⟨rfl,nh,h3⟩
 d:=λW nh h=>by
  refine(h.line (by omega) G (opZ 33 giv ⟨#[]⟩) ⟨by decide,by decide,by decide,by decide⟩ (by decide) (by omega) (by decide)).mono ?_;rintro r w' ⟨rfl,nh,h3⟩;refine⟨rfl,nh,?_⟩;rw[C1z]at h3;exact h3
 e:=λW nh h=>by
  refine(h.line (by omega) G (opA 35 1000) ⟨by decide,by decide,by decide,by decide⟩ (by decide) (by omega) (by decide)).mono ?_;rintro r w' ⟨rfl,nh,h3⟩;exact⟨rfl,nh,h3⟩
theorem a8G(w:World){mx:Int}(G:Gl w mx):Calls prog 7 #[.int .i64 30,.int .i64 37] w λr w'=>r=.returned (.bool true)/\Bw w w':=by
 have HY:=hid (c1J G (b8S w));have HK:=hid (b3N (w.alloc (.cells wlZ 37)));clear G;go_enter func7,ntmps7;go_wp2_with fail;refine HK.out.mono ?_;rintro r w1 ⟨⟨g,hg0,hg1,rfl,hR⟩,hb1⟩;have hA:=bA w1 (.cells #[.int .i64 100,.int .i64 10,.slice (some ⟨g,0,none⟩) 1 1,.slice none 0 0] 44);have H1:=hid (HY.out.a (w1.alloc (.cells #[.int .i64 100,.int .i64 10,.slice (some ⟨g,0,none⟩) 1 1,.slice none 0 0] 44)) g (Bc hb1 hA) (hR.below hA) hg0 (Af hg1 hA.size));clear hR hb1 hA HK;go_wp2_with fail;refine H1.out.mono ?_;rintro r w2 ⟨rfl,h2⟩;have HX2:=hid h2;clear h2 H1;go_wp2_with fail;refine(HY.out.b w2 HX2.out).mono ?_;rintro r w3 ⟨rfl,nh,h3⟩;have HX3:=hid h3;clear h3 HX2;go_wp2_with fail;refine(HY.out.d w3 nh HX3.out).mono ?_;rintro r w4 ⟨rfl,nh4,h4⟩;have HX4:=hid h4;clear h4 HX3;go_wp2_with fail;refine(HY.out.e w4 nh4 HX4.out).mono ?_;rintro r w5 ⟨rfl,nh5,h5⟩;obtain⟨a,c,c6,l6⟩:=h5.cell;have HB:=hid h5.bel;clear h5 HX4 HY;go_wp2_with fail;go_ret;exact⟨Bd (by simp),HB.out⟩
def gS(os:List OpV)(q:Nat):Nat:=((os.take q).map λo=>o.s.size).sum
theorem a9Z(os:List OpV)(q:Nat)(h:q<os.length):gS os (q+1)=gS os q+(os[q]).s.size:=by
 unfold gS;rw[A4z h,B2z,List.sum_append];simp
theorem c5G(os:List OpV)(q:Nat):gS os q<=(os.map λo=>o.s.size).sum:=by
 unfold gS
 conv=>rhs;rw[<-E4z q os,B2z,List.sum_append]
 omega
theorem c1K(os:List OpV)(q:Nat):gS os q<=gS os (q+1):=by
 by_cases h:q<os.length
 ·rw[a9Z os q h];omega
 ·unfold gS;rw[Aq (by omega),Aq (by omega)];omega
theorem Zi(os:List OpV)(a:Oa)(c:Nat)(w:World)(hos:a8C os a w)(hl:os.length<=900000)(ok:∀o∈os,OpOk o)(hC:∀o∈os,∃C,OpC C o w)(hs:(os.map λo=>o.s.size).sum<=1048576){mx:Int}(G:Gl w mx):
  Calls prog 6 #[.slice a os.length c,.int .i64 30,.int .i64 37] w λr w'=>r=.returned (.bool true)/\Bw w w':=by
 refine b3M 30 37 os a c w hos hl (λwb w1 q W=>∃g nh nl,XS wb q g nh nl w1 W/\g<=gS os q) ?_ (a8G w G);refine{x0:=λw1 _=>⟨0,0,0,b8S w1,Ah _⟩,xb:=?_,xm:=?_,xl:=?_,lk:=?_,st:=?_}
 ·rintro wb w1 q W ⟨g,nh,nl,h,-⟩;exact h.bel
 ·rintro wb w1 q W ⟨g,nh,nl,h,h2⟩;exact⟨g,nh,nl,h.more (Al q) (Ac _),Aj h2 (c1K os q)⟩
 ·rintro wb w1 q W W' ⟨g,nh,nl,h,h2⟩ hb;exact⟨g,nh,nl,h.below hb,h2⟩
 ·rintro wb w1 q W - ⟨g,nh,nl,h,h2⟩ hq;refine(h.looks (by omega)).mono ?_;rintro r w' ⟨rfl,h3⟩;exact⟨rfl,g,nh,nl,h3,h2⟩
 ·rintro wb w1 q hq W hb ⟨g,nh,nl,h,h2⟩ hq9 h30 h37;have hm:=As hq;have e:=a9Z os q hq;have l:=c5G os (q+1);obtain⟨C,hC⟩:=hC _ hm;refine(h.step hq9 (G.below hb) (os[q]) (ok _ hm) h30 (by omega) ⟨C,hC.below hb⟩).mono ?_;rintro r w' ⟨rfl,nh,nl,h3⟩;exact⟨rfl,_,nh,nl,h3,by omega⟩
theorem a8H(os:List OpV)(a:Oa)(c:Nat)(w:World)(hos:a8C os a w)(hl:os.length<=900000)(ok:∀o∈os,OpOk o)(hC:∀o∈os,∃C,OpC C o w)(hs:(os.map λo=>o.s.size).sum<=1048576){mx:Int}(G:Gl w mx):
  Calls prog 4 #[.slice a os.length c] w λr w'=>r=.returned (.bool true)/\Bw w w':=by
 have HP:=hid (Zi os a c w hos hl ok hC hs G);clear hos hl ok hC hs G;go_enter func4,ntmps4;go_wp2_with fail;refine HP.out.mono ?_;rintro r w1 ⟨rfl,hb⟩;go_wp2_with fail;go_ret;exact⟨rfl,hb⟩
end Go.Proofs.YtbiggccolpchcaaGreatDoor
namespace Go.Proofs.YtbiggccolpchcaaGreatDoor
open Go.RowKit Go.ChangeShapes _root_.Go.Proofs.Tryz
theorem Ra{α:Type}{R:Nat->α->Prop}:∀n,(∀i,i<n->∃x,R i x)->∃l:List α,l.length=n/\∀i (h:i<l.length),R i l[i]
 |0,_=>⟨[],rfl,λi h=>absurd h (by simp)⟩
 |n+1,h=>by
  obtain⟨l,hl,hr⟩:=Ra n (λi hi=>h i (by omega));obtain⟨x,hx⟩:=h n (by omega);refine⟨l++[x],by simp[hl],λi hi=>?_⟩;by_cases hi':i<l.length
  ·rw[B4z hi'];exact hr i hi'
  ·have e:i=n:=by simp at hi;omega
   subst e;rw[C2z (by omega)];simpa[hl]using hx
theorem a4H{H:Type}{d:DataW H}:∀ {l:List (DataW H)},d∈l->Rows.uptoBulk d<=Rows.uptoBulkAll l
 |[],h=>absurd h (by simp)
 |x::r,h=>by
  simp only[Rows.uptoBulkAll];rcases List.mem_cons.1 h with rfl|h
  ·omega
  ·have:=a4H h;omega
theorem b8T{H:Type}(d:DataW H):1<=Rows.uptoBulk d:=by
 cases d with
 |lit l=>cases l<;>simp[Rows.uptoBulk]
 |nil=>simp[Rows.uptoBulk]
 |ptr d=>simp[Rows.uptoBulk]
 |slice a b=>simp[Rows.uptoBulk]
 |agg a=>simp[Rows.uptoBulk]
 |iface a b=>simp[Rows.uptoBulk]
 |map a=>simp[Rows.uptoBulk]
 |held a=>simp[Rows.uptoBulk]
theorem a4I{H:Type}:∀(l:List (DataW H)),l.length<=Rows.uptoBulkAll l
 |[]=>by simp
 |x::r=>by
  have h1:=b8T x;have h2:=a4I r;simp only[Rows.uptoBulkAll,A9z];omega
section
variable{H:Type}{enc:TypeId×Value->H}{P:Program}{w:World}{base:Nat}{spare:Nat->Bool}{held:Bool}
theorem Py{α:Type}{sz:Nat}{f:α->List Value}(hz:1<=sz)(hfz:∀x,(f x).length=sz){Q:α->DataW H->Prop}{t e:TypeId}{fuel:Nat}{cs:List Value}{x:DataW H×List MemPlace}(ht:P.underlying t=some (.slice e))(hce:P.cellsOf e=sz)
  (he:∀(n:Nat) (cs:List Value) (y:DataW H×List MemPlace),DataW.trod enc P w base spare held n e cs=some y->∃z:α,cs=f z/\Q z y.1)
  (h:DataW.trod enc P w base spare held fuel t cs=some x) :
  ∃(a:Oa) (cap:Nat) (l:List α),cs=[.slice a l.length cap]/\Da sz f l a w/\(a=none->l=[]/\cap=0)/\(Rows.uptoBulk x.1<=1048576->l.length<=1048576)/\(Rows.uptoBulk x.1<=1048576->∀z∈l,∃d,Q z d/\Rows.uptoBulk d<=1048576):=by
 rcases DataW.trod_slice ht h with⟨rfl,rfl⟩|⟨a,len,cap,elems,rest,n,_,rfl,rfl,hb,hl,hm,hlen,hel,hsp,hns⟩
 ·exact⟨none,0,[],rfl,λi hi=>absurd hi (by simp),λ_=>⟨rfl,rfl⟩,λ_=>Ah _,λ_ z hz=>absurd hz (by simp)⟩
 have each:∀i,i<len->∃z:α,(∃d∈elems.map (·.1),Q z d)/\∀j v,(f z)[j]?=some v->w.cell? ((a.add (i*sz)).add j)=some v:=λi hi=>by
  have hE:=hel i hi;rw[hce,Av (by omega),Option.bind_eq_some_iff]at hE;obtain⟨cs',hc1,hc2⟩:=hE;obtain⟨_,hl2,hcell⟩:=World.cells?_some hc1;obtain⟨z,rfl,hq⟩:=he _ _ _ hc2;refine⟨z,⟨_,List.mem_map.2 ⟨_,As (by omega),rfl⟩,hq⟩,λj v hj=>?_⟩;rw[hcell j (by have:=(List.getElem?_eq_some_iff.1 hj).1;rw[hfz]at this;exact this),hj]
 obtain⟨l,hll,hr⟩:=Ra len each;refine⟨some a,cap,l,by rw[hll],λi hi=>?_,(λh=>by cases h),(λhk=>by
  have h1:=a4I (elems.map (·.1));rw[A8z]at h1;simp only[Rows.uptoBulk]at hk;omega),λhk z hz=>?_⟩
 ·obtain⟨_,hc⟩:=hr i hi;have h0:∃v,(f l[i])[0]?=some v:=⟨(f l[i])[0]'(by rw[hfz];omega),Av _⟩;obtain⟨v0,hv0⟩:=h0;have d0:=hc 0 v0 hv0;have hi0:0<l.length:=by omega
  have h00:∃v,(f l[0])[0]?=some v:=⟨(f l[0])[0]'(by rw[hfz];omega),Av _⟩;obtain⟨v00,hv00⟩:=h00;have d00:=(hr 0 hi0).2 0 v00 hv00;have hsp:a.spot=none:=by simpa[Addr.add]using World.cell?_spot d00
  obtain⟨b,o,sp⟩:=a;obtain rfl:sp=none:=hsp;rw[Addr.add_lit,Addr.add_lit]at d0;refine⟨b,o,rfl,Ap d0,λj v hv=>?_⟩;have:=hc j v hv;rw[Addr.add_lit,Addr.add_lit]at this;exact this
 ·obtain⟨i,hi,rfl⟩:=List.getElem_of_mem hz;obtain⟨⟨d,hd,hq⟩,_⟩:=hr i hi;refine⟨d,hq,?_⟩;have:=a4H hd;simp only[Rows.uptoBulk]at hk;omega
end
theorem Jo:prog.cellsOf 9=1:=by kernel_rfl
theorem Lq:prog.cellsOf 3=1:=by kernel_rfl
theorem a4J:prog.cellsOf 73=4:=by kernel_rfl
theorem a4K:prog.cellsOf 75=6:=by kernel_rfl
theorem a4L:prog.cellsOf 241=4:=by kernel_rfl
section
variable{H:Type}{enc:TypeId×Value->H}{w:World}{base:Nat}{spare:Nat->Bool}{held:Bool}
theorem Zj{n:Nat}{cs:List Value}{y:DataW H×List MemPlace}(h:DataW.trod enc prog w base spare held n 73 cs=some y):∃z:Hn,cs=z.cells/\(Rows.uptoBulk y.1<=1048576->z.t.size<=1048576/\z.n.size<=1048576):=by
 obtain⟨xs,n,_,rfl,hl,hlen,hf⟩:=DataW.trod_struct underlying73 h;rw[a4J]at hl
 match xs,hlen with
 |[y0,y1,y2,y3],_=>
 match cs,hl with
 |[c0,c1,c2,c3],_=>
 have t0:=hf 0 _ rfl;have t1:=hf 1 _ rfl;have t2:=hf 2 _ rfl;have t3:=hf 3 _ rfl;obtain⟨k,e0,rfl,_⟩:=DataW.trod_int underlying3 (by simpa using t0);obtain⟨st,e1,rfl,_⟩:=DataW.trod_int underlying3 (by simpa using t1);obtain⟨tx,e2,rfl,_⟩:=DataW.trod_string underlying9 (by simpa using t2);obtain⟨nm,e3,rfl,_⟩:=DataW.trod_string underlying9 (by simpa using t3);simp[Jo,Lq]at e0 e1 e2 e3;subst e0 e1 e2 e3;refine⟨⟨k,st,tx,nm⟩,rfl,λhk=>?_⟩;have z1:tx.data.toList.length=tx.size:=by simp
 have z2:nm.data.toList.length=nm.size:=by simp
 simp only[B1z,E0z,Rows.uptoBulk,Rows.uptoBulkAll]at hk;simp only;omega
theorem a8I{n:Nat}{cs:List Value}{y:DataW H×List MemPlace}(h:DataW.trod enc prog w base spare held n 75 cs=some y):∃z:Rt,cs=z.cells/\(Rows.uptoBulk y.1<=1048576->RtSm z):=by
 obtain⟨xs,n,_,rfl,hl,hlen,hf⟩:=DataW.trod_struct underlying75 h;rw[a4K]at hl
 match xs,hlen with
 |[y0,y1,y2],_=>
 match cs,hl with
 |[c0,c1,c2,c3,c4,c5],_=>
 have t0:=hf 0 _ rfl;have t1:=hf 1 _ rfl;have t2:=hf 2 _ rfl;obtain⟨m,e0,rfl,_⟩:=DataW.trod_string underlying9 (by simpa using t0);obtain⟨p,e1,rfl,_⟩:=DataW.trod_string underlying9 (by simpa using t1);simp[Jo]at e0 e1;subst e0 e1;have t2':DataW.trod enc prog w base spare held n 73 [c2,c3,c4,c5]=some y2:=by simpa[a4J]using t2
 obtain⟨z,ez,hz⟩:=Zj t2';refine⟨⟨m,p,z⟩,by simp[Rt.cells,ez,Hn.cells],λhk=>?_⟩
 ·have z1:m.data.toList.length=m.size:=by simp
  have z2:p.data.toList.length=p.size:=by simp
  simp only[B1z,E0z,Rows.uptoBulk,Rows.uptoBulkAll]at hk;obtain⟨h1,h2⟩:=hz (by omega);exact⟨by simp only;omega,by simp only;omega,by simp only;omega,by simp only;omega⟩
theorem b3O{n:Nat}{cs:List Value}{y:DataW H×List MemPlace}(h:DataW.trod enc prog w base spare held n 241 cs=some y):∃z:Wr,cs=z.cells/\(Rows.uptoBulk y.1<=1048576->z.n.size<=1048576/\z.v.size<=1048576):=by
 obtain⟨xs,n,_,rfl,hl,hlen,hf⟩:=DataW.trod_struct underlying241 h;rw[a4L]at hl
 match xs,hlen with
 |[y0,y1,y2,y3],_=>
 match cs,hl with
 |[c0,c1,c2,c3],_=>
 have t0:=hf 0 _ rfl;have t1:=hf 1 _ rfl;have t2:=hf 2 _ rfl;have t3:=hf 3 _ rfl;obtain⟨k,e0,rfl,_⟩:=DataW.trod_int underlying3 (by simpa using t0);obtain⟨tx,e1,rfl,_⟩:=DataW.trod_string underlying9 (by simpa using t1);obtain⟨nm,e2,rfl,_⟩:=DataW.trod_string underlying9 (by simpa using t2);obtain⟨st,e3,rfl,_⟩:=DataW.trod_int underlying3 (by simpa using t3);simp[Jo,Lq]at e0 e1 e2 e3;subst e0 e1 e2 e3;refine⟨⟨k,tx,nm,st⟩,rfl,λhk=>?_⟩;have z1:tx.data.toList.length=tx.size:=by simp
 have z2:nm.data.toList.length=nm.size:=by simp
 simp only[B1z,E0z,Rows.uptoBulk,Rows.uptoBulkAll]at hk;simp only;omega
theorem a4M{n:Nat}{cs:List Value}{y:DataW H×List MemPlace}(h:DataW.trod enc prog w base spare held n 41 cs=some y):∃(a:Oa) (cap:Nat) (rs:List Rt),cs=[.slice a rs.length cap]/\Da 6 Rt.cells rs a w/\(a=none->rs=[]/\cap=0)/\(Rows.uptoBulk y.1<=1048576->rs.length<=1048576/\∀r∈rs,RtSm r):=by
 obtain⟨a,cap,l,h1,h2,h3,h4,h5⟩:=Py (sz:=6) (f:=Rt.cells) (Q:=λ(z:Rt) (d:DataW H)=>Rows.uptoBulk d<=1048576->RtSm z) (by omega) (λ_=>rfl) underlying41 a4K (λn cs y h=>a8I h) h;exact⟨a,cap,l,h1,h2,h3,λhk=>⟨h4 hk,λr hr=>by obtain⟨d,hq,hd⟩:=h5 hk r hr;exact hq hd⟩⟩
theorem a8J{n:Nat}{cs:List Value}{y:DataW H×List MemPlace}(h:DataW.trod enc prog w base spare held n 42 cs=some y):∃(a:Oa) (cap:Nat) (ws:List Wr),cs=[.slice a ws.length cap]/\Da 4 Wr.cells ws a w/\(a=none->ws=[]/\cap=0)/\(Rows.uptoBulk y.1<=1048576->ws.length<=1048576/\∀x∈ws,x.n.size<=1048576/\x.v.size<=1048576):=by
 obtain⟨a,cap,l,h1,h2,h3,h4,h5⟩:=Py (sz:=4) (f:=Wr.cells) (Q:=λ(z:Wr) (d:DataW H)=>Rows.uptoBulk d<=1048576->z.n.size<=1048576/\z.v.size<=1048576) (by omega) (λ_=>rfl) underlying42 a4L (λn cs y h=>b3O h) h;exact⟨a,cap,l,h1,h2,h3,λhk=>⟨h4 hk,λr hr=>by obtain⟨d,hq,hd⟩:=h5 hk r hr;exact hq hd⟩⟩
end
section
variable{H:Type}{enc:TypeId×Value->H}{w:World}{base:Nat}{spare:Nat->Bool}{held:Bool}
theorem Uq:prog.cellsOf 40=2:=by kernel_rfl
theorem a4N:prog.cellsOf 44=4:=by kernel_rfl
theorem a4O:prog.cellsOf 47=4:=by kernel_rfl
theorem a4P:prog.cellsOf 49=4:=by kernel_rfl
theorem b8U:prog.cellsOf 4=1:=by kernel_rfl
theorem b8V:prog.cellsOf 38=1:=by kernel_rfl
theorem a4Q:prog.cellsOf 45=1:=by kernel_rfl
theorem b3P:prog.cellsOf 41=1:=by kernel_rfl
theorem b3Q:prog.cellsOf 42=1:=by kernel_rfl
theorem Ou:prog.cellsOf 51=20:=by kernel_rfl
theorem Zk{P:Program}{t e:TypeId}{n:Nat}{cs:List Value}{y:DataW H×List MemPlace}(ht:P.underlying t=some (.slice e))(h:DataW.trod enc P w base spare held n t cs=some y):∃a l c,cs=[.slice a l c]:=by
 rcases DataW.trod_slice ht h with⟨rfl,rfl⟩|⟨a,len,cap,elems,rest,n,_,rfl,_⟩
 ·exact⟨none,0,0,rfl⟩
 ·exact⟨some a,len,cap,rfl⟩
theorem Rb{n:Nat}{cs:List Value}{y:DataW H×List MemPlace}(h:DataW.trod enc prog w base spare held n 40 cs=some y):∃a b:Int,cs=[.int .i64 a,.int .i64 b]:=by
 obtain⟨xs,n,_,rfl,hl,hlen,hf⟩:=DataW.trod_struct underlying40 h;rw[Uq]at hl
 match xs,hlen with
 |[y0,y1],_=>
 match cs,hl with
 |[c0,c1],_=>
 have t0:=hf 0 _ rfl;have t1:=hf 1 _ rfl;obtain⟨k,e0,rfl,_⟩:=DataW.trod_int underlying3 (by simpa using t0);obtain⟨st,e1,rfl,_⟩:=DataW.trod_int underlying3 (by simpa using t1);simp[Lq]at e0 e1;subst e0 e1;exact⟨k,st,rfl⟩
theorem Vn{n:Nat}{cs:List Value}{y:DataW H×List MemPlace}(h:DataW.trod enc prog w base spare held n 47 cs=some y):∃(a b:By) (ra:Oa) (rn rc:Nat) (c:By),cs=[.string a,.string b,.slice ra rn rc,.string c]:=by
 obtain⟨xs,n,_,rfl,hl,hlen,hf⟩:=DataW.trod_struct underlying47 h;rw[a4O]at hl
 match xs,hlen with
 |[y0,y1,y2,y3],_=>
 match cs,hl with
 |[c0,c1,c2,c3],_=>
 have t0:=hf 0 _ rfl;have t1:=hf 1 _ rfl;have t2:=hf 2 _ rfl;have t3:=hf 3 _ rfl;have t2':DataW.trod enc prog w base spare held n 45 [c2]=some y2:=by simpa[a4Q]using t2
 obtain⟨a,e0,rfl,_⟩:=DataW.trod_string underlying9 (by simpa using t0);obtain⟨b,e1,rfl,_⟩:=DataW.trod_string underlying9 (by simpa using t1);obtain⟨c,e3,rfl,_⟩:=DataW.trod_string underlying9 (by simpa using t3);obtain⟨ra,rn,rc,e2⟩:=Zk underlying45 t2';simp[Jo]at e0 e1 e2 e3;subst e0 e1 e2 e3;exact⟨a,b,ra,rn,rc,c,rfl⟩
theorem Zl{n:Nat}{cs:List Value}{y:DataW H×List MemPlace}(h:DataW.trod enc prog w base spare held n 49 cs=some y):∃(a:Int) (ra:Oa) (rn rc:Nat) (c:By) (b:Bool),cs=[.int .i64 a,.slice ra rn rc,.string c,.bool b]:=by
 obtain⟨xs,n,_,rfl,hl,hlen,hf⟩:=DataW.trod_struct underlying49 h;rw[a4P]at hl
 match xs,hlen with
 |[y0,y1,y2,y3],_=>
 match cs,hl with
 |[c0,c1,c2,c3],_=>
 have t0:=hf 0 _ rfl;have t1:=hf 1 _ rfl;have t2:=hf 2 _ rfl;have t3:=hf 3 _ rfl;have t1':DataW.trod enc prog w base spare held n 45 [c1]=some y1:=by simpa[a4Q]using t1
 obtain⟨a,e0,rfl,_⟩:=DataW.trod_int underlying3 (by simpa using t0);obtain⟨c,e2,rfl,_⟩:=DataW.trod_string underlying9 (by simpa using t2);obtain⟨b,e3,rfl⟩:=DataW.trod_bool underlying4 (by simpa using t3);obtain⟨ra,rn,rc,e1⟩:=Zk underlying45 t1';simp[Jo,Lq,b8U]at e0 e1 e2 e3;subst e0 e1 e2 e3;exact⟨a,ra,rn,rc,c,b,rfl⟩
end
section
variable{H:Type}{enc:TypeId×Value->H}{w:World}{base:Nat}{spare:Nat->Bool}{held:Bool}
end
section
variable{H:Type}{enc:TypeId×Value->H}{w:World}{base:Nat}{spare:Nat->Bool}{held:Bool}
theorem c4E{P:Program}{t e:TypeId}{n:Nat}{a:Oa}{l c:Nat}{y:DataW H×List MemPlace}(ht:P.underlying t=some (.slice e))(h:DataW.trod enc P w base spare held n t [.slice a l c]=some y):l<=c:=by
 rcases DataW.trod_slice ht h with⟨e,-⟩|⟨a,len,cap,elems,rest,n,_,e,-,-,hl,-⟩
 ·simp at e;omega
 ·simp only[List.cons.injEq,Value.slice.injEq,and_true]at e;obtain⟨-,rfl,rfl⟩:=e;exact hl
theorem c1X{α:Type}{sz:Nat}{f:α->List Value}{l:List α}{a:Oa}(h:Da sz f l a w){g p:Nat}(e:l≠[]/\a=some ⟨g,p,none⟩):g<w.heap.size:=by
 obtain⟨h1,h2⟩:=e;have h0:0<l.length:=List.length_pos_iff.2 h1;obtain⟨g',o,e1,e2,-⟩:=h 0 h0;rw[e1]at h2
 cases h2
 exact e2
theorem Zm{n:Nat}{cs:List Value}{y:DataW H×List MemPlace}(h:DataW.trod enc prog w base spare held n 44 cs=some y):∃(C:Cf) (ra:Oa) (rc:Nat) (wa:Oa) (wc:Nat),cs=[.int .i64 C.hd,.int .i64 C.bd,.slice ra C.rs.length rc,.slice wa C.ws.length wc]/\(Rows.uptoBulk y.1<=1048576->CfG C.rs C.ws ra rc wa wc w/\C.ws.length<=wc/\(∀r∈C.rs,RtSm r)/\(∀x∈C.ws,x.n.size<=1048576/\x.v.size<=1048576)/\∀g p,(C.rs≠[]/\ra=some ⟨g,p,none⟩)\/(C.ws≠[]/\wa=some ⟨g,p,none⟩)->g<w.heap.size):=by
 obtain⟨xs,n,_,rfl,hl,hlen,hf⟩:=DataW.trod_struct underlying44 h;rw[a4N]at hl
 match xs,hlen with
 |[y0,y1,y2],_=>
 match cs,hl with
 |[c0,c1,c2,c3],_=>
 have t0:=hf 0 _ rfl;have t1:=hf 1 _ rfl;have t2:=hf 2 _ rfl;have t0':DataW.trod enc prog w base spare held n 40 [c0,c1]=some y0:=by simpa[Uq]using t0
 have t1':DataW.trod enc prog w base spare held n 41 [c2]=some y1:=by simpa[b3P]using t1
 have t2':DataW.trod enc prog w base spare held n 42 [c3]=some y2:=by simpa[b3Q]using t2
 obtain⟨a,b,e0⟩:=Rb t0';obtain⟨ra,rc,rs,e1,hR,zR,oR⟩:=a4M t1';obtain⟨wa,wc,ws,e2,hW,zW,oW⟩:=a8J t2';simp at e0 e1 e2;obtain⟨rfl,rfl⟩:=e0;subst e1 e2;refine⟨⟨a,b,rs,ws⟩,ra,rc,wa,wc,rfl,λhk=>?_⟩;simp only[B1z,E0z,Rows.uptoBulk,Rows.uptoBulkAll]at hk;obtain⟨o1,o2⟩:=oR (by omega);obtain⟨o3,o4⟩:=oW (by omega);refine⟨⟨hR,hW,zR,zW,by show rs.length<=_;omega,by show ws.length<=_;omega⟩,c4E underlying42 t2',o2,o4,λg p e=>?_⟩;rcases e with e|e
 ·exact c1X hR e
 ·exact c1X hW e
theorem a4R{n:Nat}{cs:List Value}{y:DataW H×List MemPlace}(h:DataW.trod enc prog w base spare held n 51 cs=some y):∃z:OpV,cs=z.cs.toList/\z.s.size+2<=Rows.uptoBulk y.1/\(Rows.uptoBulk y.1<=1048576->OpOk z/\∃C,OpC C z w):=by
 obtain⟨xs,n,_,rfl,hl,hlen,hf⟩:=DataW.trod_struct underlying51 h;rw[Ou]at hl
 match xs,hlen with
 |[y0,y1,y2,y3,y4,y5,y6,y7,y8,y9],_=>
 match cs,hl with
 |[c0,c1,c2,c3,c4,c5,c6,c7,c8,c9,c10,c11,c12,c13,c14,c15,c16,c17,c18,c19],_=>
 have t0:=hf 0 _ rfl;have t1:=hf 1 _ rfl;have t2:=hf 2 _ rfl;have t3:=hf 3 _ rfl;have t4:=hf 4 _ rfl;have t5:=hf 5 _ rfl;have t6:=hf 6 _ rfl;have t7:=hf 7 _ rfl;have t8:=hf 8 _ rfl;have t9:=hf 9 _ rfl;clear hf;have t5':DataW.trod enc prog w base spare held n 38 [c5]=some y5:=by simpa[b8V]using t5
 have t6':DataW.trod enc prog w base spare held n 40 [c6,c7]=some y6:=by simpa[Uq]using t6
 have t7':DataW.trod enc prog w base spare held n 44 [c8,c9,c10,c11]=some y7:=by simpa[a4N]using t7
 have t8':DataW.trod enc prog w base spare held n 47 [c12,c13,c14,c15]=some y8:=by simpa[a4O]using t8
 have t9':DataW.trod enc prog w base spare held n 49 [c16,c17,c18,c19]=some y9:=by simpa[a4P]using t9
 obtain⟨k,e0,rfl,_⟩:=DataW.trod_int underlying3 (by simpa using t0);obtain⟨on,e1,rfl,hon⟩:=DataW.trod_int underlying3 (by simpa using t1);obtain⟨a,e2,rfl,_⟩:=DataW.trod_int underlying3 (by simpa using t2);obtain⟨s,e3,rfl,_⟩:=DataW.trod_string underlying9 (by simpa using t3);obtain⟨t,e4,rfl,_⟩:=DataW.trod_string underlying9 (by simpa using t4);obtain⟨za,zn,zc,e5⟩:=Zk underlying38 t5';obtain⟨lh,lb,e6⟩:=Rb t6';obtain⟨C,ra,rc,wa,wc,e7,hC⟩:=Zm t7';obtain⟨qm,qt,fa,fn,fc,qb,e8⟩:=Vn t8';obtain⟨st,xa,xn,xc,ab,cl,e9⟩:=Zl t9';clear t0 t1 t2 t3 t4 t5 t6 t7 t8 t9 t5' t6' t7' t8' t9';simp[Jo,Lq]at e0 e1 e2 e3 e4;simp only[List.cons.injEq,and_true]at e5 e6 e7 e8 e9;obtain⟨e6a,e6b⟩:=e6;obtain⟨e7a,e7b,e7c,e7d⟩:=e7;obtain⟨e8a,e8b,e8c,e8d⟩:=e8;obtain⟨e9a,e9b,e9c,e9d⟩:=e9;subst e0 e1 e2 e3 e4 e5 e6a e6b e7a e7b e7c e7d e8a e8b e8c e8d e9a e9b e9c e9d;have z1:s.data.toList.length=s.size:=by simp
 have z2:t.data.toList.length=t.size:=by simp
 refine⟨⟨k,on,a,s,t,za,zn,zc,lh,lb,C.hd,C.bd,ra,C.rs.length,rc,wa,C.ws.length,wc,qm,qt,fa,fn,fc,qb,st,xa,xn,xc,ab,cl⟩,rfl,?_,λhk=>?_⟩
 ·simp only[B1z,E0z,Rows.uptoBulk,Rows.uptoBulkAll];omega
 ·simp only[B1z,E0z,Rows.uptoBulk,Rows.uptoBulkAll]at hk;have hon':-9223372036854775808<=on/\on<=9223372036854775807:=by simpa[Lit.wf,IntKind.min,IntKind.max,IntKind.signed,IntKind.bits]using hon
  obtain⟨q1,q2,q3,q4,q5⟩:=hC (by omega);exact⟨⟨hon'.1,hon'.2,by simp only;omega,by simp only;omega⟩,C,⟨rfl,rfl,rfl,rfl,q1,q2,q3,q4,q5⟩⟩
theorem a4S:∀(l:List OpV) (ds:List (DataW H)),ds.length=l.length->(∀i (h:i<l.length) (h':i<ds.length),(l[i]).s.size+2<=Rows.uptoBulk ds[i])->(l.map λo=>o.s.size).sum+2*l.length<=Rows.uptoBulkAll ds
 |[],_,_,_=>by simp
 |x::r,[],h,_=>by simp at h
 |x::r,d::ds,h,hi=>by
  have h1:=hi 0 (by simp) (by simp);have h2:=a4S r ds (by simpa using h) (λi a b=>by
   have:=hi (i+1) (by simpa using a) (by simpa using b);simpa using this)
  simp only[B7z]at h1;simp only[Rows.uptoBulkAll,A9z,B1z,List.sum_cons];omega
theorem b3R{n:Nat}{cs:List Value}{y:DataW H×List MemPlace}(h:DataW.trod enc prog w base spare held n 22 cs=some y)(hk:Rows.uptoBulk y.1<=1048576):∃(a:Oa) (cap:Nat) (os:List OpV),cs=[.slice a os.length cap]/\a8C os a w/\os.length<=900000/\(∀o∈os,OpOk o)/\(∀o∈os,∃C,OpC C o w)/\(os.map λo=>o.s.size).sum<=1048576:=by
 have h0:=h;obtain⟨a,cap,l,rfl,h2,h3,h4,h5⟩:=Py (sz:=20) (f:=λo:OpV=>o.cs.toList) (Q:=λ(z:OpV) (d:DataW H)=>Rows.uptoBulk d<=1048576->OpOk z/\∃C,OpC C z w) (by omega) (λ_=>rfl) underlying22 Ou (λn cs y h=>by
  obtain⟨z,e,_,hz⟩:=a4R h;exact⟨z,e,hz⟩) h
 have hsum:(l.map λo=>o.s.size).sum+2*l.length<=Rows.uptoBulk y.1:=by
  rcases DataW.trod_slice underlying22 h0 with⟨e,rfl⟩|⟨a,len,cap,elems,rest,n,_,e,rfl,hb,hl,hm,hlen,hel,hsp⟩
  ·simp only[List.cons.injEq,Value.slice.injEq,and_true]at e;obtain⟨-,e2,-⟩:=e;have:l=[]:=List.length_eq_zero_iff.1 e2;subst this;simp
  ·simp only[List.cons.injEq,Value.slice.injEq,and_true]at e;obtain⟨rfl,hll,-⟩:=e;have key:=a4S l (elems.map (·.1)) (by rw[A8z];omega) (λi hi hi'=>by
    rw[A8z]at hi';have hE:=hel i (by omega);rw[Av hi',Option.bind_eq_some_iff]at hE;obtain⟨cs',hc1,hc2⟩:=hE;obtain⟨z,rfl,hz,-⟩:=a4R hc2;obtain⟨_,hl2,hcell⟩:=World.cells?_some hc1;obtain⟨g,o,e1,e2,e3⟩:=h2 i hi
    cases e1
    have f1:=hcell 3 (by rw[Ou];omega);rw[Ou,Addr.add_lit,Addr.add_lit]at f1;have f2:=e3 3 _ rfl;rw[f2]at f1;have f3:(some (Value.string (l[i]).s):Option Value)=some (.string z.s):=f1;have f4:(l[i]).s=z.s:=by injection f3 with f3;injection f3
    rw[List.getElem_map,f4];exact hz)
   simp only[Rows.uptoBulk];omega
 refine⟨a,cap,l,rfl,λi hi=>?_,by omega,λo ho=>?_,λo ho=>?_,by omega⟩
 ·obtain⟨g,o,e1,e2,e3⟩:=h2 i hi;exact⟨g,o,e1,e2,e3⟩
 ·obtain⟨d,hq,hd⟩:=h5 hk o ho;exact(hq hd).1
 ·obtain⟨d,hq,hd⟩:=h5 hk o ho;exact(hq hd).2
end
end Go.Proofs.YtbiggccolpchcaaGreatDoor
