/- Outwards again, by the reference. -/
import Derived.Test.YtbiggccolpchcaaGreatDoorJoin37
set_option maxRecDepth 100000
set_option maxHeartbeats 2000000
namespace Go.Proofs.YtbiggccolpchcaaGreatDoor
open Go.RowKit _root_.Go.Proofs.Tryz
def c3L(G:Option An)(w0 w:World)(v0:Value)(x:Ending)(w':World):Prop:=
 (match G with
  |none=>x=.returned (.tuple #[.agg #[.int .i64 0,.slice none 0 0,.string ⟨#[]⟩,.bool false],.bool true])
  |some a=>∃vv,x=.returned (.tuple #[.agg #[.int .i64 a.st,vv,.string a.b,.bool false],.bool false])/\w'.ownsRow w0.heap.size 131 2 vv a.fs.length (Bg a.fs)/\∀g,g<w.heap.size->v0.ownBlock≠some g->vv.ownBlock≠some g)/\Bw w0 w'/\w.heap.size<=w'.heap.size/\∀g,g<w.heap.size->v0.ownBlock≠some g->w'.heap[g]?=w.heap[g]?
theorem c0S(q:Array Value)(st:Int)(b:By)(f0:List Prm)(v0:Value)(w0 w:World)(hw:Bw w0 w)(ho:w.ownsRow w0.heap.size 131 2 v0 f0.length (Bg f0)):
  ArI w0 w v0 q st b f0 v0 (((w.alloc (.cells q 47)).alloc (.cells #[.int .i64 st,v0,.string b,.bool false] 49)).alloc (.cells #[.int .i64 0,.slice none 0 0,.string ⟨#[]⟩,.bool false] 49)):=by
 have h1:=bA w (.cells q 47);have b1:=Bl.new w q 47;have z1:(w.alloc (.cells q 47)).heap.size=w.heap.size+1:=by simp
 generalize w.alloc (.cells q 47)=W1 at *
 have h2:=h1.alloc h1.size (.cells #[.int .i64 st,v0,.string b,.bool false] 49);have b2:=Bl.new W1 #[.int .i64 st,v0,.string b,.bool false] 49;have k1:=b1.alloc (.cells #[.int .i64 st,v0,.string b,.bool false] 49);have z2:(W1.alloc (.cells #[.int .i64 st,v0,.string b,.bool false] 49)).heap.size=w.heap.size+1+1:=by simp[z1]
 rw[z1]at b2;generalize W1.alloc (.cells #[.int .i64 st,v0,.string b,.bool false] 49)=W2 at *
 have b3:=Bl.new W2 #[.int .i64 0,.slice none 0 0,.string ⟨#[]⟩,.bool false] 49;rw[z2]at b3;have h3:=h2.alloc h2.size (.cells #[.int .i64 0,.slice none 0 0,.string ⟨#[]⟩,.bool false] 49);have hl:∀g,v0.ownBlock=some g->g<w.heap.size:=λg e=>De ho _ e;exact⟨k1.alloc _,b2.alloc _,b3,Be ho h3,λe=>by have:=hl _ e;omega,λe=>by have:=hl _ e;omega,λe=>by have:=hl _ e;omega,Bc hw h3,hw.size,λg hg _=>h3.block g hg,λ_ _ h=>h⟩
structure CpI(w0 w:World)(V0:Value)(q:Array Value)(st:Int)(b:By)(fs:List Prm)(n:By)(vals:List By)(va:Oa)(m:Nat)(vv:Value)(wr:World):Prop where
 i:ArI w0 w V0 q st b (fs++(vals.take m).map (λv=>(n,v))) vv wr
 s:Dg vals va wr
 k:∀g,va=some ⟨g,0,none⟩->vv.ownBlock≠some g/\w.heap.size+1+1<g/\g<wr.heap.size
theorem CpI.next{w0 w:World}{V0:Value}{q:Array Value}{st:Int}{b:By}{fs:List Prm}{n:By}{vals:List By}{va:Oa}{m:Nat}{vv:Value}{wr w4:World}{gg cap N:Nat}{x:By}(h:CpI w0 w V0 q st b fs n vals va m vv wr)(hm:m<vals.length)(hx:vals[m]=x){E:Obj}
  (hN:N=(fs++(vals.take m).map (λv=>(n,v))).length) (hgrow:(wr.alloc E).grownBy w4 vv.ownBlock)
  (hown:w4.ownsRow w0.heap.size 131 2 (.slice (some ⟨gg,0,none⟩) (N+1) cap) (N+1) (Bg (fs++(vals.take m).map (λv=>(n,v)))++[.string n,.string x])) (hat:vv.ownBlock=some gg\/gg=wr.heap.size+1) :
  CpI w0 w V0 q st b fs n vals va (m+1) (.slice (some ⟨gg,0,none⟩) (N+1) cap) (w4.setCell ⟨w.heap.size+1,1,none⟩ (.slice (some ⟨gg,0,none⟩) (N+1) cap))/\w4.cell? ⟨w.heap.size+1,1,none⟩=some vv/\w4.frozen? ⟨w.heap.size+1,1,none⟩=false/\w.heap.size+1<w4.heap.size:=by
 obtain⟨r1,r2,r3,r4,r5,r6⟩:=h.i.next hN hgrow hown hat;have e:fs++(vals.take (m+1)).map (λv=>(n,v))=(fs++(vals.take m).map (λv=>(n,v)))++[(n,x)]:=by
  rw[A4z hm,B2z,hx,C5z];rfl
 have hz:(w4.setCell ⟨w.heap.size+1,1,none⟩ (.slice (some ⟨gg,0,none⟩) (N+1) cap)).heap.size=w4.heap.size:=by simp[World.setCell]
 refine⟨⟨by rw[e];exact r1,?_,?_⟩,r2,r3,r4⟩
 ·refine h.s.keep (by omega) (λg hg=>?_);obtain⟨k1,k2,k3⟩:=h.k g hg;rw[heap_setCell_other _ _ _ _ (show g≠w.heap.size+1 by omega),r5 g k3 k1]
 ·intro g hg;obtain⟨k1,k2,k3⟩:=h.k g hg;refine⟨?_,k2,by omega⟩;rcases hat with e1|e1
  ·rw[e1]at k1;simpa[Value.ownBlock]using k1
  ·simp[Value.ownBlock];omega
theorem CpI.below{w0 w:World}{V0:Value}{q:Array Value}{st:Int}{b:By}{fs:List Prm}{n:By}{vals:List By}{va:Oa}{m:Nat}{vv:Value}{wr w':World}(h:CpI w0 w V0 q st b fs n vals va m vv wr)(hb:Bw wr w'):CpI w0 w V0 q st b fs n vals va m vv w':=
 ⟨h.i.below hb,h.s.below hb,λg hg=>⟨(h.k g hg).1,(h.k g hg).2.1,Af (h.k g hg).2.2 hb.size⟩⟩
theorem c0T{w0 w:World}{V0:Value}{q:Array Value}{st:Int}{b:By}{fs:List Prm}{vals:List By}{va:Oa}{vc:Nat}{vv:Value}{wr w4:World}(n:By)(h:ArI w0 w V0 q st b fs vv wr)(hb:Bw wr w4)(ho:w4.ownsRow wr.heap.size 9 1 (.slice va vals.length vc) vals.length (vals.map Value.string)):CpI w0 w V0 q st b fs n vals va 0 vv w4:=by
 refine⟨by simpa using h.below hb,Dg.of_sl ho,λg hg=>?_⟩;have h1:=Bx ho g (Xw hg);have h2:=De ho g (Xw hg);have h3:=h.lt;exact⟨λe=>by have:=De h.o g e;omega,by omega,h2⟩
theorem b7O(n v:By)(l:Int)(qf:List Prm)(a:An):Ip ⟨0,n,v,l⟩ qf (some a)=some ⟨a.st,a.fs++[(n,v)],a.b⟩:=if_pos rfl
theorem b2I(n v:By)(l:Int)(qf:List Prm)(a:An):Ip ⟨4,n,v,l⟩ qf (some a)=some ⟨a.st,a.fs++(Bf qf n.data.toList).map (λv=>(n,v)),a.b⟩:=rfl
theorem b2J(n v:By)(l:Int)(qf:List Prm):Ip ⟨3,n,v,l⟩ qf none=some ⟨500,[],Id⟩:=rfl
theorem b2K(k:Int)(n v:By)(l:Int)(qf:List Prm)(h:k≠3):Ip ⟨k,n,v,l⟩ qf none=none:=by
 unfold Ip;simp only[Option.map_none];rw[if_neg h]
 split
 ·rfl
 ·split<;>rfl
theorem b2L(k:Int)(n v:By)(l:Int)(qf:List Prm)(a:An)(h:k≠0)(h4:k≠4):Ip ⟨k,n,v,l⟩ qf (some a)=some a:=by
 unfold Ip;simp only;rw[if_neg h,if_neg h4]
 split<;>rfl
theorem c0U{q:Array Value}{st:Int}{b:By}{f0:List Prm}{v0:Value}{up:Bool}{G:Option An}{w0 w W:World}(I0:ArI w0 w v0 q st b f0 v0 W)(hG:G=if up=true then none else some ⟨st,f0,b⟩)(hup:up=true->st=0/\b=⟨#[]⟩/\f0=[]/\v0=.slice none 0 0):ArG w0 w v0 q G (.bool up) W:=by
 rw[hG]
 cases up with
 |true=>
  obtain⟨rfl,rfl,rfl,e⟩:=hup rfl;subst e;exact⟨rfl,I0⟩
 |false=>exact⟨rfl,_,I0⟩
theorem a3F(ws:List Wr)(a:Oa)(c:Nat)(qm qt qb:By)(fs:List Prm)(fa:Oa)(fc:Nat)(st:Int)(b:By)(f0:List Prm)(v0:Value)(up:Bool)(G:Option An)(w0 w:World)(hw:Bw w0 w)(ho:w.ownsRow w0.heap.size 131 2 v0 f0.length (Bg f0))
  (hG:G=if up=true then none else some ⟨st,f0,b⟩) (hup:up=true->st=0/\b=⟨#[]⟩/\f0=[]/\v0=.slice none 0 0)
  (hm:Da 4 Wr.cells ws a w0) (hwl:ws.length<=1000000) (hf:Nc fs fa w0) (hl:fs.length<=1000000) (hz:∀i (h:i<fs.length),fs[i].1.size<=maxLen) (hwn:∀x∈ws,x.n.size<=maxLen) (hbig:∀k a,Ha fs G (ws.drop k)=some a->a.fs.length<=50000000) :
  Calls prog 265 #[.slice a ws.length c,.agg #[.string qm,.string qt,.slice fa fs.length fc,.string qb],.agg #[.int .i64 st,v0,.string b,.bool false],.bool up] w (c3L (Ha fs G ws) w0 w v0):=by
 obtain⟨i0,hi,hz0,hz1,hz2⟩:=info_parts b5S;have I0:=c0S #[.string qm,.string qt,.slice fa fs.length fc,.string qb] st b f0 v0 w0 w hw ho;obtain⟨av,cv,rfl⟩:=Ce ho;have HG0:=hid (c0U I0 hG hup);rw[show G=Ha fs G (ws.drop ws.length) by rw[List.drop_length,Ha]]at HG0;generalize hV0:Value.slice av f0.length cv=V0 at *
 have hGF:Ha fs G ws=Ha fs G (ws.drop 0):=by rw[D6z]
 rw[hGF];have HW:=hid hm;have HF:=hid hf;have HZ:=hid hz;have HWN:=hid hwn;have HBG:=hid hbig;have HAT:=hid (c3K fs G ws);clear hm hf hz hwn hG hup hbig hGF I0 ho;subst hV0;go_enter func265,ntmps265;go_wp2_with fail;generalize ((w.alloc (.cells #[.string qm,.string qt,.slice fa fs.length fc,.string qb] 47)).alloc (.cells #[.int .i64 st,.slice av f0.length cv,.string b,.bool false] 49)).alloc (.cells #[.int .i64 0,.slice none 0 0,.string ⟨#[]⟩,.bool false] 49)=w1 at *
 generalize Value.slice av f0.length cv=V0 at *
 go_loopw [10,3,11,12] (λi u _ _ wr=>∃j:Nat,j<=ws.length/\i=.int .i64 ((j:Int)-1)/\Hid (ArG w0 w V0 #[.string qm,.string qt,.slice fa fs.length fc,.string qb] (Ha fs G (ws.drop j)) u wr)) (λi _ _ _ _=>(intOf i+1).toNat)
 case atStart=>exact⟨ws.length,Ac _,by go_num,HG0⟩
 case round=>
  clear HG0;obtain⟨j,hj,rfl,HA⟩:=hrel
  cases j with
  |zero=>
   generalize Ha fs G (ws.drop 0)=H at *
   have hne:¬(0:Int)<=((0:Nat):Int)-1:=by omega
   cases H with
   |none=>
    obtain⟨rfl,I⟩:=HA.out;obtain⟨x0,x1,x2,x3⟩:=I.a.cells;obtain⟨c0,c1,c2,c3⟩:=I.r.cells;have f0:=I.r.free 0;have f1:=I.r.free 1;have f2:=I.r.free 2;have f3:=I.r.free 3;have lr:=I.r.lt;have la:=I.a.lt;obtain⟨d0,d1,d2,d3⟩:=(I.r.set 0 (.slice none 0 0) ⟨#[]⟩ false).cells;have hB:=I.hB;have HBZ:=hid (And.intro (Bm (g:=w.heap.size+1+1) (st:=0) (vv:=.slice none 0 0) (b:=⟨#[]⟩) (cl:=false) I.bl (by omega)) (And.intro (show w.heap.size<=(setA (w.heap.size+1+1) 0 (.slice none 0 0) ⟨#[]⟩ false wr).heap.size by simp[setA,World.setCell];omega) (λg (hg:g<w.heap.size) hn=>(Em (st:=0) (vv:=.slice none 0 0) (bb:=⟨#[]⟩) (cl:=false) (show g≠w.heap.size+1+1 by omega)).trans (I.kp g hg hn))));unfold setA at d0 d1 d2 d3 HBZ;clear I HA HW HF HZ HWN HBG HAT;go_wp2_with fail;refine Ae (v:=.tuple #[.agg #[.int .i64 0,.slice none 0 0,.string ⟨#[]⟩,.bool false],.bool true]) (by simp[results,results265,go_sem,d0,d1,d2,d3]) rfl ?_;exact⟨rfl,HBZ.out⟩
   |some an=>
    obtain⟨rfl,vv,I⟩:=HA.out;obtain⟨ak,ck,rfl⟩:=Ce I.o;obtain⟨x0,x1,x2,x3⟩:=I.a.cells;obtain⟨c0,c1,c2,c3⟩:=I.r.cells;have f0:=I.r.free 0;have f1:=I.r.free 1;have f2:=I.r.free 2;have f3:=I.r.free 3;have lr:=I.r.lt;have la:=I.a.lt;obtain⟨d0,d1,d2,d3⟩:=(I.r.set an.st (.slice ak an.fs.length ck) an.b false).cells;have hB:=I.hB;have HBZ:=hid (And.intro (Bm (g:=w.heap.size+1+1) (st:=an.st) (vv:=.slice ak an.fs.length ck) (b:=an.b) (cl:=false) I.bl (by omega)) (And.intro (show w.heap.size<=(setA (w.heap.size+1+1) an.st (.slice ak an.fs.length ck) an.b false wr).heap.size by simp[setA,World.setCell];omega) (λg (hg:g<w.heap.size) hn=>(Em (st:=an.st) (vv:=.slice ak an.fs.length ck) (bb:=an.b) (cl:=false) (show g≠w.heap.size+1+1 by omega)).trans (I.kp g hg hn))));have HOZ:=hid (Cg (g:=w.heap.size+1+1) (st:=an.st) (vv:=.slice ak an.fs.length ck) (b:=an.b) (cl:=false) I.o I.n2);have HNK:=hid I.nk;unfold setA at d0 d1 d2 d3 HBZ HOZ;clear I HA HW HF HZ HWN HBG HAT;go_wp2_with fail;refine Ae (v:=.tuple #[.agg #[.int .i64 an.st,.slice ak an.fs.length ck,.string an.b,.bool false],.bool false]) (by simp[results,results265,go_sem,d0,d1,d2,d3]) rfl ?_;exact⟨⟨_,rfl,HOZ.out,HNK.out⟩,HBZ.out⟩
  |succ k=>
   have hlt:k<ws.length:=by omega
   have hat:=HAT.out k hlt;have hbg:=HBG.out (k+1);have hbg2:=HBG.out k;generalize Ha fs G (ws.drop (k+1))=H at *
   generalize hH2:Ha fs G (ws.drop k)=H2 at *
   have HE2:=hid hH2;have HL:=hid hbg;clear hH2;have HL2:=hid hbg2;clear HAT HBG hbg hbg2;have hkk:((k+1:Nat):Int)-1=(k:Int):=by omega
   rw[hkk];obtain⟨g,o,rfl,hg0,p0,p1,p2,p3⟩:=Ky HW.out hlt;have hnk:=HWN.out _ (As hlt);generalize ws[k]=x at *
   obtain⟨xk,xn,xv,xl⟩:=x;simp only at *
   cases H with
   |none=>
    obtain⟨rfl,I⟩:=HA.out;have c0:=Aa I.bl p0;have hg:g<wr.heap.size:=Af hg0 I.bl.size;obtain⟨x0,x1,x2,x3⟩:=I.a.cells;have f0:=I.a.free 0;have f1:=I.a.free 1;have f2:=I.a.free 2;have f3:=I.a.free 3;have la:=I.a.lt;clear HA p0 p1 p2 p3 HL HL2;by_cases z3:xk=3
    ·subst z3;rw[b2J]at hat;subst hat;have HNX:Hid (ArG w0 w V0 #[.string qm,.string qt,.slice fa fs.length fc,.string qb] (some ⟨500,[],Id⟩) (.bool false) _):=⟨rfl,_,I.set⟩;unfold setA Id at HNX;clear I;go_wp2_with fail;exact⟨⟨k,by omega,by go_num,by rw[HE2.out];exact HNX⟩,by simp[intOf]⟩
    ·rw[b2K _ _ _ _ _ z3]at hat;subst hat;have u3:(xk==3)=false:=by simpa using z3
     have HNX:Hid (ArG w0 w V0 #[.string qm,.string qt,.slice fa fs.length fc,.string qb] none (.bool true) wr):=⟨rfl,I⟩;clear I z3;go_wp2_with fail;exact⟨⟨k,by omega,by go_num,by rw[HE2.out];exact HNX⟩,by simp[intOf]⟩
   |some an=>
    obtain⟨rfl,vv,I⟩:=HA.out;have c0:=Aa I.bl p0;have c1:=Aa I.bl p1;have c2:=Aa I.bl p2;have hg:g<wr.heap.size:=Af hg0 I.bl.size;have hfz:=HL.out an rfl;clear HA p0 p2 p3;by_cases z0:xk=0
    ·subst z0;rw[b7O]at hat;subst hat;obtain⟨an_st,an_fs,an_b⟩:=an;simp only at *
     obtain⟨ak,ck,rfl⟩:=Ce I.o;obtain⟨x0,x1,x2,x3⟩:=I.a.cells;have la:=I.a.lt;have ow:=I.o;have hBr:=I.bl.size;have ID:=I.below (Ad wr.heap.size wr).drew;have HN:=hid (λN gg cap w4 E hN hgrow hown hat=>ID.next (n:=xn) (x:=xv) (N:=N) (gg:=gg) (cap:=cap) (w4:=w4) (E:=E) hN hgrow hown hat);clear I ID;go_wp2_with fail
     go_region_law
      (first
       |(refine step_append_lies _ (by rfl) _ _ _ (by rfl) w0.heap.size 131 i0 _ 2 32 underlying45 hi hz0 hz1 hz2 rfl (by omega) (.slice ak an_fs.length ck) an_fs.length (Bg an_fs) (by rfl) (ow.drew.alloc _) ⟨wr.heap.size,0,none⟩ 1 1 [.string xn,.string xv] (by rfl) (by rfl) (World.news_of_block (cs:=#[.string xn,.string xv]) (t:=131) (fr:=(0,0)) (Ag wr.drew _)) (by simp[Value.oneCell']) (by omega) (by unfold maxLen;omega) (by omega) (by simp;omega) (wr.heap.size+1) (by simp) ?_;intro gg cap w5 hown5 hgrow hat5 hlt5;obtain⟨r1,r2,r3,r4,r5,r6⟩:=HN.out _ gg cap w5 _ rfl hgrow hown5 (hat5.imp_right (λh=>by rw[h];simp));have HR1:=hid r1;clear r1 hown5 hgrow r5))
     all_goals
      have HNX:Hid (ArG w0 w V0 #[.string qm,.string qt,.slice fa fs.length fc,.string qb] (some ⟨an_st,an_fs++[(xn,xv)],an_b⟩) (.bool false) _):=⟨rfl,_,HR1.out⟩;clear HR1;go_wp2_with fail;exact⟨⟨k,by omega,by go_num,by rw[HE2.out];exact HNX⟩,by simp[intOf]⟩
    ·have u0:(xk==0)=false:=by simpa using z0
     by_cases z4:xk=4
     ·subst z4;rw[b2I]at hat;subst hat;have hfz2:=HL2.out _ rfl;obtain⟨an_st,an_fs,an_b⟩:=an;simp only at *
      have hLz:(Bf fs xn.data.toList).length<=50000000:=by
       simp only[A0z,A8z]at hfz2;omega
      have q2:wr.cell? ⟨w.heap.size,2,none⟩=some (.slice fa fs.length fc):=(I.q.cell 2).trans rfl;have lq:=I.q.lt;have HVL:=hid (λW (hW:Bw wr W)=>Yx fs fa fc xn W (HF.out.below (Bc I.bl hW)) (by omega) hnk HZ.out);generalize hLL:Bf fs xn.data.toList=L at *
      have HP1:=hid p1;have HI:=hid I;clear I hLL p1 HL HL2 z0 c2;go_upto_region 10 with fail
      go_region_held3 (λW=>W.cell? ⟨w.heap.size,2,none⟩=some (.slice fa fs.length fc)/\W.cell? ⟨g,o+k*4+1,none⟩=some (.string xn)) (first|go_keep)
       (first|(go_at_call 188;refine(HVL.out _ (Ad wr.heap.size wr).drew).mono ?_;rintro x w4 ⟨⟨a4,e4,rfl,st4⟩,hb4⟩;have hb4':=Bc (Ad wr.heap.size wr).drew hb4;have k1:=Aa hb4' c1;have k2:=Aa hb4' q2;have C4:=hid (c0T xn HI.out hb4' st4);clear st4 hb4))
      all_goals
       clear HI HVL hb4' q2 c0 c1 k1 k2 lq;go_wp2_with fail
       go_loopw [12] (λi wx=>∃(m:Nat) (vm:Value),m<=L.length/\i=.int .i64 m/\Hid (CpI w0 w V0 #[.string qm,.string qt,.slice fa fs.length fc,.string qb] an_st an_b an_fs xn L a4 m vm wx)) (λi _=>L.length-(intOf i).toNat)
       case atStart=>exact⟨0,_,Ah _,rfl,C4⟩
       case round=>
        clear C4;obtain⟨m,vm,hm,rfl,HC⟩:=hrel;have hBr:=HC.out.i.bl.size;have c1:=Aa HC.out.i.bl HP1.out;have hg2:g<wr.heap.size:=Af hg0 hBr;obtain⟨x0,x1,x2,x3⟩:=HC.out.i.a.cells;have la:=HC.out.i.a.lt;by_cases hml:m<L.length
        ·obtain⟨g2,rfl,hg3,hc⟩:=HC.out.s m hml;obtain⟨yv,hyv⟩:∃yv,L[m]=yv:=⟨_,rfl⟩;rw[hyv]at hc;have ow:=HC.out.i.o;have CD:=HC.out.below (Ad wr.heap.size wr).drew;have HN:=hid (λN gg cap w4 E hN hgrow hown hat=>CD.next (x:=yv) (N:=N) (gg:=gg) (cap:=cap) (w4:=w4) (E:=E) hml hyv hN hgrow hown hat);have hlen:(an_fs++(L.take m).map (λv=>(xn,v))).length<=50000000:=by
          simp only[A0z,A8z,B0z]at hfz2 ⊢;omega
         generalize an_fs++(L.take m).map (λv=>(xn,v))=FSs at *
         obtain⟨ak,ck,rfl⟩:=Ce ow;clear HC CD hyv;go_wp2_with fail
         go_region_law
          (first
           |(refine step_append_lies _ (by rfl) _ _ _ (by rfl) w0.heap.size 131 i0 _ 2 32 underlying45 hi hz0 hz1 hz2 rfl (by omega) (.slice ak FSs.length ck) FSs.length (Bg FSs) (by rfl) (ow.drew.alloc _) ⟨wr.heap.size,0,none⟩ 1 1 [.string xn,.string yv] (by rfl) (by rfl) (World.news_of_block (cs:=#[.string xn,.string yv]) (t:=131) (fr:=(0,0)) (Ag wr.drew _)) (by simp[Value.oneCell']) (by omega) (by unfold maxLen;omega) (by omega) (by simp;omega) (wr.heap.size+1) (by simp) ?_;intro gg cap w5 hown5 hgrow hat5 hlt5;obtain⟨r1,r2,r3,r4⟩:=HN.out _ gg cap w5 _ rfl hgrow hown5 (hat5.imp_right (λh=>by rw[h];simp));have HR1:=hid r1;clear r1 hown5 hgrow))
         all_goals
          clear HN ow;go_wp2_with fail;exact⟨⟨m+1,_,by omega,by go_num,HR1⟩,by simp[intOf];omega⟩
        ·have hne:¬(m:Int)<(L.length:Int):=by omega
         have hI:=HC.out.i;rw[Aq (by omega)]at hI;have HNX:Hid (ArG w0 w V0 #[.string qm,.string qt,.slice fa fs.length fc,.string qb] (some ⟨an_st,an_fs++L.map (λv=>(xn,v)),an_b⟩) (.bool false) wr):=⟨rfl,_,hI⟩;clear HC hI;go_wp2_with fail;exact⟨⟨k,by omega,by go_num,by rw[HE2.out];exact HNX⟩,by simp[intOf]⟩
     ·have u4:(xk==4)=false:=by simpa using z4
      rw[b2L _ _ _ _ _ _ z0 z4]at hat;subst hat;have HNX:Hid (ArG w0 w V0 #[.string qm,.string qt,.slice fa fs.length fc,.string qb] (some an) (.bool false) wr):=⟨rfl,_,I⟩;clear I z0 z4;go_wp2_with fail;exact⟨⟨k,by omega,by go_num,by rw[HE2.out];exact HNX⟩,by simp[intOf]⟩
end Go.Proofs.YtbiggccolpchcaaGreatDoor
