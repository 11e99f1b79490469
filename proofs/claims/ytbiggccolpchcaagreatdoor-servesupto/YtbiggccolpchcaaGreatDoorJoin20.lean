/- Joined. -/
import Derived.Test.YtbiggccolpchcaaGreatDoorJoin19
import Derived.Defers
import Derived.Recover
import Derived.RegionDies
set_option maxRecDepth 100000
set_option maxHeartbeats 8000000
namespace Go.Proofs.YtbiggccolpchcaaGreatDoor
open Go.RowKit _root_.Go.Proofs.Tryz
theorem b5S:(prog.info? 131).map (λi=>(i.zero,i.size,i.bytes))=some (some (.agg #[.string ⟨#[]⟩,.string ⟨#[]⟩]),2,32):=by kernel_rfl
theorem AnB.set1{g:Nat}{st:Int}{vv:Value}{b:By}{cl:Bool}{w:World}(h:AnB g st vv b cl w)(v':Value):AnB g st v' b cl (w.setCell ⟨g,1,none⟩ v'):=by
 unfold AnB at *
 rw[heap_setCell_same _ g 1 _ _ _ h];rfl
theorem AnB.keep{g:Nat}{st:Int}{vv:Value}{b:By}{cl:Bool}{w w':World}(h:AnB g st vv b cl w)(hk:w'.heap[g]?=w.heap[g]?):AnB g st vv b cl w':=by
 unfold AnB at *;rw[hk];exact h
theorem Dg.keep{l:List By}{a:Oa}{w w':World}(h:Dg l a w)(hz:w.heap.size<=w'.heap.size)(hk:∀g,a=some ⟨g,0,none⟩->w'.heap[g]?=w.heap[g]?):Dg l a w':=λi hi=>by
 obtain⟨g,h1,h2,h3⟩:=h i hi;exact⟨g,h1,Af h2 hz,by rw[Au (hk g h1)];exact h3⟩
structure WfI(st:Int)(b n:By)(cl:Bool)(fs:List Prm)(vals:List By)(va:Oa)(B:Nat)(w:World)(k:Nat)(vk:Value)(wr:World):Prop where
 a:AnB w.heap.size st vk b cl wr
 r:AnB (w.heap.size+1) 0 (.slice none 0 0) ⟨#[]⟩ false wr
 o:wr.ownsRow B 131 2 vk (fs++(vals.take k).map (λv=>(n,v))).length (Bg (fs++(vals.take k).map (λv=>(n,v))))
 n1:vk.ownBlock≠some w.heap.size
 n2:vk.ownBlock≠some (w.heap.size+1)
 nv:∀g,va=some ⟨g,0,none⟩->vk.ownBlock≠some g
 s:Dg vals va wr
 bl:Below B w wr
theorem WfI.next{st:Int}{b n:By}{cl:Bool}{fs:List Prm}{vals:List By}{va:Oa}{B:Nat}{w:World}{k:Nat}{vk:Value}{wr w4:World}{gg cap N:Nat}{x:By}(h:WfI st b n cl fs vals va B w k vk wr)(hk:k<vals.length)(hx:vals[k]=x)(hlv:∀g,va=some ⟨g,0,none⟩->g<w.heap.size)(hB:B<=w.heap.size){E:Obj}
  (hN:N=(fs++(vals.take k).map (λv=>(n,v))).length) (hgrow:(wr.alloc E).grownBy w4 vk.ownBlock)
  (hown:w4.ownsRow B 131 2 (.slice (some ⟨gg,0,none⟩) (N+1) cap) (N+1) (Bg (fs++(vals.take k).map (λv=>(n,v)))++[.string n,.string x])) (hat:vk.ownBlock=some gg\/gg=wr.heap.size+1) :
  WfI st b n cl fs vals va B w (k+1) (.slice (some ⟨gg,0,none⟩) (N+1) cap) (w4.setCell ⟨w.heap.size,1,none⟩ (.slice (some ⟨gg,0,none⟩) (N+1) cap))/\w4.cell? ⟨w.heap.size,1,none⟩=some vk/\w4.frozen? ⟨w.heap.size,1,none⟩=false/\w.heap.size<w4.heap.size:=by
 have hb3:Bw wr (wr.alloc E):=bA _ E;have la:=h.a.lt;have lr:=h.r.lt;have z2:=hb3.size;have z3:=hgrow.size;have zz:(wr.alloc E).heap.size=wr.heap.size+1:=by simp
 have blk:∀g,g<wr.heap.size->vk.ownBlock≠some g->w4.heap[g]?=wr.heap[g]?:=λg hg hn=>by
  rw[hgrow.block g (by omega) (λe=>hn e.symm),hb3.block g hg]
 have a4:=h.a.keep (blk _ la h.n1);have r4:=h.r.keep (blk _ lr h.n2);have hne:gg≠w.heap.size:=by
  rcases hat with e|e
  ·intro e2;rw[e2]at e;exact h.n1 e
  ·omega
 have oth:∀g,g≠w.heap.size->(w4.setCell ⟨w.heap.size,1,none⟩ (.slice (some ⟨gg,0,none⟩) (N+1) cap)).heap[g]?=w4.heap[g]?:=λg hg=>heap_setCell_other w4 ⟨w.heap.size,1,none⟩ g _ hg;have e:fs++(vals.take (k+1)).map (λv=>(n,v))=(fs++(vals.take k).map (λv=>(n,v)))++[(n,x)]:=by
  rw[A4z hk,B2z,hx,C5z];rfl
 refine⟨⟨a4.set1 _,r4.keep (oth _ (by omega)),?_,by simp[Value.ownBlock,hne],?_,?_,?_,?_⟩,a4.cells.2.1,a4.free 1,a4.lt⟩
 ·rw[e,A0z,Gh,<-hN];exact Bv hown (by simp[Value.ownBlock,hne]) 1 _
 ·rcases hat with q|q
  ·have:=h.n2;rw[q]at this;simpa[Value.ownBlock]using this
  ·simp[Value.ownBlock];omega
 ·intro g hg;rcases hat with q|q
  ·have:=h.nv g hg;rw[q]at this;simpa[Value.ownBlock]using this
  ·have:=hlv g hg;simp[Value.ownBlock];omega
 ·refine h.s.keep (by simp;omega) (λg hg=>?_);have hl:=hlv g hg;rw[oth g (by omega),blk g (by omega) (h.nv g hg)]
 ·exact((h.bl.trans (hb3.mono (by have:=h.bl.size;omega))).grown hgrow (by have:=h.bl.size;omega) (λr hr=>Bx h.o r hr)).setCell hB _
theorem Tl(st:Int)(fs:List Prm)(vv:Value)(b n:By)(cl:Bool)(vals:List By)(va:Oa)(vc B:Nat)(w:World)(ho:w.ownsRow B 131 2 vv fs.length (Bg fs))(hB:B<=w.heap.size)(hv:Dg vals va w)(hlv:∀g,va=some ⟨g,0,none⟩->g<w.heap.size)(hvb:∀g,va=some ⟨g,0,none⟩->vv.ownBlock≠some g)(hl:fs.length+vals.length<=100000000):
  Calls prog 351 #[.agg #[.int .i64 st,vv,.string b,.bool cl],.string n,.slice va vals.length vc] w λx w'=>(∃vv',x=.returned (.agg #[.int .i64 st,vv',.string b,.bool cl])/\w'.ownsRow B 131 2 vv' (fs++vals.map (λv=>(n,v))).length (Bg (fs++vals.map (λv=>(n,v)))))/\Below B w w':=by
 obtain⟨i0,hi,hz0,hz1,hz2⟩:=info_parts b5S;have hA1:=bA w (.cells #[.int .i64 st,vv,.string b,.bool cl] 49);have hA:=hA1.alloc hA1.size (.cells #[.int .i64 0,.slice none 0 0,.string ⟨#[]⟩,.bool false] 49);have z1:(w.alloc (.cells #[.int .i64 st,vv,.string b,.bool cl] 49)).heap.size=w.heap.size+1:=by simp
 have g0:AnB w.heap.size st vv b cl (w.alloc (.cells #[.int .i64 st,vv,.string b,.bool cl] 49)):=Ag w _;have g1:=g0.below (bA _ (.cells #[.int .i64 0,.slice none 0 0,.string ⟨#[]⟩,.bool false] 49));have h0:AnB (w.heap.size+1) 0 (.slice none 0 0) ⟨#[]⟩ false ((w.alloc (.cells #[.int .i64 st,vv,.string b,.bool cl] 49)).alloc (.cells #[.int .i64 0,.slice none 0 0,.string ⟨#[]⟩,.bool false] 49)):=by
  rw[<-z1];exact Ag _ _
 have I0:Hid (WfI st b n cl fs vals va B w 0 vv ((w.alloc (.cells #[.int .i64 st,vv,.string b,.bool cl] 49)).alloc (.cells #[.int .i64 0,.slice none 0 0,.string ⟨#[]⟩,.bool false] 49))):=
  ⟨g1,h0,by simpa using Be ho hA,λe=>by have:=(De ho _ e);omega,λe=>by have:=(De ho _ e);omega,hvb,hv.below hA,hA.mono hB⟩
 have HLV:=hid hlv;clear g0 g1 h0 z1 ho hv hvb hA1 hlv;obtain⟨av,cv,hvv⟩:∃a c,vv=.slice a fs.length c:=by
  have:=I0.out.o;simp only[List.take_zero,E0z,D9z]at this;exact Ce this
 subst hvv;go_enter func351,ntmps351;go_wp2_with fail;generalize (w.alloc (.cells #[.int .i64 st,.slice av fs.length cv,.string b,.bool cl] 49)).alloc (.cells #[.int .i64 0,.slice none 0 0,.string ⟨#[]⟩,.bool false] 49)=w1 at *
 go_loopw [11] (λi wr=>∃(k:Nat) (vk:Value),k<=vals.length/\i=.int .i64 k/\Hid (WfI st b n cl fs vals va B w k vk wr)) (λi _=>vals.length-(intOf i).toNat)
 case atStart=>exact⟨0,_,Ah _,rfl,I0⟩
 case round=>
  clear I0;obtain⟨k,vk,hk,rfl,I⟩:=hrel;have la:=I.out.a.lt;obtain⟨x0,x1,x2,x3⟩:=I.out.a.cells;by_cases hlt:k<vals.length
  ·obtain⟨g,rfl,hg,hc⟩:=I.out.s k hlt;obtain⟨xv,hxv⟩:∃xv,vals[k]=xv:=⟨_,rfl⟩;rw[hxv]at hc;have HN:=hid (λN gg cap w4 E hN hgrow hown hat=>I.out.next (x:=xv) (N:=N) (gg:=gg) (cap:=cap) (w4:=w4) (E:=E) hlt hxv HLV.out hB hN hgrow hown hat);have ow:=I.out.o;have hlen:(fs++(vals.take k).map (λv=>(n,v))).length=fs.length+k:=by simp;omega
   generalize hFS:fs++(vals.take k).map (λv=>(n,v))=FSs at *
   have hfz:FSs.length<=100000000:=by omega
   obtain⟨ak,ck,rfl⟩:=Ce ow;have hbz:=I.out.bl.size;have hBr:B<=wr.heap.size:=by omega
   clear I hxv hlen;go_wp2_with (at_builtin;refine wpList_append_lies _ rfl _ _ 45 rfl B 131 i0 _ 2 32 underlying45 hi hz0 hz1 hz2 rfl (by omega) (.slice ak FSs.length ck) FSs.length (Bg FSs) rfl (ow.alloc _) ⟨wr.heap.size,0,none⟩ 1 1 [.string n,.string xv] rfl rfl (World.news_of_block (cs:=#[.string n,.string xv]) (t:=131) (fr:=(0,0)) (Ag wr _)) (by simp[Value.oneCell']) (by omega) (by unfold maxLen;omega) (by omega) (by simp;omega) _ rfl ?_);intro gg cap wn hown hgrow hat hltn;obtain⟨r1,r2,r3,r4⟩:=HN.out _ gg cap wn _ rfl hgrow hown (hat.imp_right (λh=>by rw[h];all_goals simp));have HR1:=hid r1;clear r1 hown hgrow HN ow;go_wp2_with fail;exact⟨⟨k+1,_,by omega,by go_num,HR1⟩,by simp[intOf];omega⟩
  ·have hne:¬(k:Int)<(vals.length:Int):=by omega
   have hkk:vals.take k=vals:=Aq (by omega);have ow:=I.out.o;rw[hkk]at ow;obtain⟨ak,ck,rfl⟩:=Ce ow;have hr:=I.out.r;obtain⟨c0,c1,c2,c3⟩:=hr.cells;have f0:=hr.free 0;have f1:=hr.free 1;have f2:=hr.free 2;have f3:=hr.free 3;have l1:=hr.lt;have HF:Hid ((setA (w.heap.size+1) st (.slice ak (fs++vals.map (λv=>(n,v))).length ck) b cl wr).ownsRow B 131 2 (.slice ak (fs++vals.map (λv=>(n,v))).length ck) (fs++vals.map (λv=>(n,v))).length (Bg (fs++vals.map (λv=>(n,v))))/\Below B w (setA (w.heap.size+1) st (.slice ak (fs++vals.map (λv=>(n,v))).length ck) b cl wr)):=⟨Cg ow I.out.n2,Bm I.out.bl (by omega)⟩;obtain⟨d0,d1,d2,d3⟩:=(hr.set st (.slice ak (fs++vals.map (λv=>(n,v))).length ck) b cl).cells;unfold setA at d0 d1 d2 d3;generalize hF2:(fs++vals.map (λv=>(n,v)))=FSs at *
   have HF2:=hid hF2;clear hF2;clear I ow hr;go_wp2_with fail;refine Ae (v:=.agg #[.int .i64 st,.slice ak FSs.length ck,.string b,.bool cl]) (by simp[results,results351,go_sem,d0,d1,d2,d3]) rfl ?_;refine⟨⟨_,rfl,?_⟩,HF.out.2⟩;have h:=HF.out.1;have e:=HF2.out
   first
    |exact h
    |(subst e;simp only[A0z,A8z]at h ⊢;exact h)
def a9A(G:Option An):Option An:=match G with
 |none=>some ⟨500,[],Id⟩
 |some a=>some a
theorem Rf(g:Nat)(st:Int)(vv:Value)(b:By)(cl:Bool)(u:TypeId)(pv:Value)(older:List PanicEntry)(w:World)(h:AnB g st vv b cl w):
  CallsD prog 369 #[.pointer (some ⟨g,0,none⟩)] (.panicking ({v:=.iface u pv,recovered:=false}::older)) w λe u' w'=>
   e=.returned (.tuple #[])/\u'=.panicking ({v:=.iface u pv,recovered:=true}::older)/\w'=setA g 500 (.slice none 0 0) Id false w:=by
 obtain⟨c0,c1,c2,c3⟩:=h.cells;have f0:=h.free 0;have f1:=h.free 1;have f2:=h.free 2;have f3:=h.free 3;have hs:setA g 500 (.slice none 0 0) Id false w=(((w.setCell ⟨g,0,none⟩ (.int .i64 500)).setCell ⟨g,1,none⟩ (.slice none 0 0)).setCell ⟨g,2,none⟩ (.string ⟨#[115,97,118,101,100]⟩)).setCell ⟨g,3,none⟩ (.bool false):=rfl;rw[hs];refine callsD_of_wpS func369 rfl λc₀ cs hu=>?_;apply wpS_seq;apply wpS_region;simp[wpOpsS,go_sem,recoverD,hu,ntmps369,Exit.thenS];refine wpS_cond (t:=true) (by simp[Act.eval,Array.replicate]) ?_;simp only[if_true];refine wpS_of_wp ?_;simp[Array.replicate];clear hs;go_wp2;simp[bodyPostS,results,results369]
theorem a6C(p:Addr)(w:World):
  CallsD prog 369 #[.pointer (some p)] .returning w λe u' w'=>e=.returned (.tuple #[])/\u'=.returning/\w'=w:=by
 refine callsD_of_wpS func369 rfl λc₀ cs hu=>?_;apply wpS_seq;apply wpS_region;simp[wpOpsS,go_sem,recoverD,hu,ntmps369,Exit.thenS];refine wpS_cond (t:=false) (by simp[Act.eval,Array.replicate]) ?_;simp only[C6z,if_false];refine wpS_of_wp (wp_skip ?_)
 cases c₀
 simp_all [bodyPostS,results,results369]
theorem b5T(p1 p2:Addr)(G:Option An)(w:World)(HIN:∀W,Bw w W->Calls prog 310 #[.pointer (some p1),.pointer (some p2)] W (Cz G W)):
  Calls prog 352 #[.func (.func 310) #[] #[.pointer (some p1),.pointer (some p2)]] w (Cz (a9A G) w):=by
 have hmf:∀(fn:Fn) (first cap:Array Value) (w:World),(Instr.makeFunc fn first cap).run prog w=.ok (.func fn first cap) w:=λ_ _ _ _=>rfl;have hA:=bA w (.cells #[.int .i64 0,.slice none 0 0,.string ⟨#[]⟩,.bool false] 49);have A0:AnB w.heap.size 0 (.slice none 0 0) ⟨#[]⟩ false (w.alloc (.cells #[.int .i64 0,.slice none 0 0,.string ⟨#[]⟩,.bool false] 49)):=Ag w _;have HI:=hid HIN;clear HIN
 go_enter_defers func352,ntmps352
 go_wp2_with fail;generalize w.alloc (.cells #[.int .i64 0,.slice none 0 0,.string ⟨#[]⟩,.bool false] 49)=w1 at *
 refine(HI.out _ hA).mono ?_
 cases G with
 |none=>
  rintro x w2 ⟨rfl,hb2⟩;have A2:=A0.below hb2;have hB2:=Bc hA hb2;have A3:=A2.set 500 (.slice none 0 0) Id false;obtain⟨d0,d1,d2,d3⟩:=A3.cells;refine leaves_cons (f:=369) (args:=#[.pointer (some ⟨w.heap.size,0,none⟩)]) (by simp) (by simp[go_sem]) ?_;refine(Rf w.heap.size 0 _ _ _ _ _ [] w2 A2).mono ?_;rintro e u' w'' ⟨rfl,rfl,rfl⟩;simp[Leaves,settle,results,results352,go_sem,d0,d1,d2,d3];exact⟨⟨_,rfl,Am _ _ _ _⟩,Bm hB2 (Ac _)⟩
 |some a=>
  rintro x w2 ⟨⟨vv,rfl,ow⟩,hb2⟩;have A2:=A0.below hb2;have hB2:=Bc hA hb2;have l0:=A0.lt;have hno:vv.ownBlock≠some w.heap.size:=λe=>by have:=Bx ow _ e;omega
  have HO:=hid (Bt ow hA.size);obtain⟨ax,cx,rfl⟩:=Ce ow;obtain⟨c0,c1,c2,c3⟩:=A2.cells;have f0:=A2.free 0;have f1:=A2.free 1;have f2:=A2.free 2;have f3:=A2.free 3;have l2:=A2.lt;obtain⟨d0,d1,d2,d3⟩:=(A2.set a.st (.slice ax a.fs.length cx) a.b false).cells;have HF:Hid ((setA w.heap.size a.st (.slice ax a.fs.length cx) a.b false w2).ownsRow w.heap.size 131 2 (.slice ax a.fs.length cx) a.fs.length (Bg a.fs)/\Bw w (setA w.heap.size a.st (.slice ax a.fs.length cx) a.b false w2)):=⟨Cg HO.out hno,Bm hB2 (Ac _)⟩;unfold setA at d0 d1 d2 d3;clear ow HO A0 HI;go_wp2_with fail;refine leaves_cons (f:=369) (args:=#[.pointer (some ⟨w.heap.size,0,none⟩)]) (by simp) (by simp[go_sem]) ?_;refine(a6C ⟨w.heap.size,0,none⟩ _).mono ?_;rintro e u' w'' ⟨rfl,rfl,rfl⟩;simp[Leaves,settle,results,results352,go_sem,d0,d1,d2,d3];exact⟨⟨_,rfl,HF.out.1⟩,HF.out.2⟩
def Vd(g:Nat)(x:Wr)(w:World):Prop:=w.heap[g]?=some (.cells #[.int .i64 x.k,.string x.n,.string x.v,.int .i64 x.lim] 241 (0,0))
theorem Vd.cells{g:Nat}{x:Wr}{w:World}(h:Vd g x w):w.cell? ⟨g,0,none⟩=some (.int .i64 x.k)/\w.cell? ⟨g,1,none⟩=some (.string x.n)/\w.cell? ⟨g,2,none⟩=some (.string x.v)/\w.cell? ⟨g,3,none⟩=some (.int .i64 x.lim):=by
 refine⟨?_,?_,?_,?_⟩<;>(rw[Ab h];rfl)
theorem Vd.lt{g:Nat}{x:Wr}{w:World}(h:Vd g x w):g<w.heap.size:=Ap h.cells.1
theorem Vd.below{g:Nat}{x:Wr}{w w':World}(h:Vd g x w)(hb:Bw w w'):Vd g x w':=by
 have:=hb.block g h.lt;unfold Vd at *;rw[this];exact h
theorem Qo(l:List By)(a:Oa)(c:Nat)(x:By)(w:World)(h:Dg l a w)(hl:l.length<=1000000):
  Calls prog 254 #[.slice a l.length c,.string x] w λe w'=>e=.returned (.bool (decide (x.data.toList∈l.map λb=>b.data.toList)))/\w'=w:=by
 by_cases hz:l=[]
 ·subst hz;exact(Tryz.slices_Contains_string_empty a c x w).mono λe w' ⟨h1,h2⟩=>⟨by rw[h1];simp,h2⟩
 ·obtain⟨g,rfl,-,-⟩:=h 0 (List.length_pos_iff.2 hz);refine(Tryz.slices_Contains_string g 0 l.length c l x w (by simp) (by omega) (λj hj=>?_)).mono λe w' ⟨h1,h2⟩=>⟨?_,h2⟩
  ·obtain⟨g',e,-,hc⟩:=h j hj;simp only[Option.some.injEq,Addr.mk.injEq,and_true]at e;subst e;rw[C1z,hc];simp[List.getD,hj]
  ·rw[h1,Aq (by simp)];have key:Lib.containsS l x=decide (x.data.toList∈l.map λb=>b.data.toList):=by
    rw[B9z,Lib.containsS_iff,decide_eq_true_iff,E5z];constructor
    ·intro h;exact⟨x,h,rfl⟩
    ·rintro⟨b,hb,e⟩;have:b=x:=by
      cases b;cases x
      simp only at e;rw[Array.toList_inj.1 e]
     rw[<-this];exact hb
   rw[key]
theorem Jx(r:Rn)(x:Wr)(w:World):Bw w (((w.alloc (.cells r.vals 330)).alloc (.cells #[.int .i64 x.k,.string x.n,.string x.v,.int .i64 x.lim] 241)).alloc (.cells #[.int .i64 0,.slice none 0 0,.string ⟨#[]⟩,.bool false] 49))/\RnB w.heap.size r (((w.alloc (.cells r.vals 330)).alloc (.cells #[.int .i64 x.k,.string x.n,.string x.v,.int .i64 x.lim] 241)).alloc (.cells #[.int .i64 0,.slice none 0 0,.string ⟨#[]⟩,.bool false] 49))/\Vd (w.heap.size+1) x (((w.alloc (.cells r.vals 330)).alloc (.cells #[.int .i64 x.k,.string x.n,.string x.v,.int .i64 x.lim] 241)).alloc (.cells #[.int .i64 0,.slice none 0 0,.string ⟨#[]⟩,.bool false] 49))/\AnB (w.heap.size+1+1) 0 (.slice none 0 0) ⟨#[]⟩ false (((w.alloc (.cells r.vals 330)).alloc (.cells #[.int .i64 x.k,.string x.n,.string x.v,.int .i64 x.lim] 241)).alloc (.cells #[.int .i64 0,.slice none 0 0,.string ⟨#[]⟩,.bool false] 49)):=by
 have hA1:=bA w (.cells r.vals 330);have hA2:=hA1.alloc hA1.size (.cells #[.int .i64 x.k,.string x.n,.string x.v,.int .i64 x.lim] 241);have hA:=hA2.alloc hA2.size (.cells #[.int .i64 0,.slice none 0 0,.string ⟨#[]⟩,.bool false] 49);have z1:(w.alloc (.cells r.vals 330)).heap.size=w.heap.size+1:=by simp
 have z2:((w.alloc (.cells r.vals 330)).alloc (.cells #[.int .i64 x.k,.string x.n,.string x.v,.int .i64 x.lim] 241)).heap.size=w.heap.size+1+1:=by simp
 have b1:Below (w.alloc (.cells r.vals 330)).heap.size (w.alloc (.cells r.vals 330)) ((w.alloc (.cells r.vals 330)).alloc (.cells #[.int .i64 x.k,.string x.n,.string x.v,.int .i64 x.lim] 241)):=bA _ _;have b2:Below ((w.alloc (.cells r.vals 330)).alloc (.cells #[.int .i64 x.k,.string x.n,.string x.v,.int .i64 x.lim] 241)).heap.size ((w.alloc (.cells r.vals 330)).alloc (.cells #[.int .i64 x.k,.string x.n,.string x.v,.int .i64 x.lim] 241)) (((w.alloc (.cells r.vals 330)).alloc (.cells #[.int .i64 x.k,.string x.n,.string x.v,.int .i64 x.lim] 241)).alloc (.cells #[.int .i64 0,.slice none 0 0,.string ⟨#[]⟩,.bool false] 49)):=bA _ _;have R0:RnB w.heap.size r (w.alloc (.cells r.vals 330)):=Ag w _;have X0:Vd (w.heap.size+1) x ((w.alloc (.cells r.vals 330)).alloc (.cells #[.int .i64 x.k,.string x.n,.string x.v,.int .i64 x.lim] 241)):=by
  have h:=Ag (w.alloc (.cells r.vals 330)) (.cells #[.int .i64 x.k,.string x.n,.string x.v,.int .i64 x.lim] 241);rw[z1]at h;exact h
 have A0:AnB (w.heap.size+1+1) 0 (.slice none 0 0) ⟨#[]⟩ false (((w.alloc (.cells r.vals 330)).alloc (.cells #[.int .i64 x.k,.string x.n,.string x.v,.int .i64 x.lim] 241)).alloc (.cells #[.int .i64 0,.slice none 0 0,.string ⟨#[]⟩,.bool false] 49)):=by
  have h:=Ag ((w.alloc (.cells r.vals 330)).alloc (.cells #[.int .i64 x.k,.string x.n,.string x.v,.int .i64 x.lim] 241)) (.cells #[.int .i64 0,.slice none 0 0,.string ⟨#[]⟩,.bool false] 49);rw[z2]at h;exact h
 exact⟨hA,(R0.below b1).below b2,X0.below b2,A0⟩
theorem Jy(r:Rn)(x:Wr)(p1 p2:Addr)(G:Option An)(w:World)(hk:x.k=2\/x.k=3\/(x.k≠0/\x.k≠1/\x.k≠2/\x.k≠3/\x.k≠4))(HIN:∀W,Bw w W->Calls prog 310 #[.pointer (some p1),.pointer (some p2)] W (Cz G W)):
  Calls prog 309 #[.agg r.vals,.agg #[.int .i64 x.k,.string x.n,.string x.v,.int .i64 x.lim],.func (.func 310) #[] #[.pointer (some p1),.pointer (some p2)]] w (Cz (Eh x r.fs r.qb G) w):=by
 obtain⟨hA,R1,X1,A1⟩:=Jx r x w;have HI:=hid HIN;have hG:Eh x r.fs r.qb G=if x.k=0 then G.map λa=>⟨a.st,a.fs++[(x.n,x.v)],a.b⟩
  else if x.k=1 then(if x.v.data.toList∈(Bf r.fs x.n.data.toList).map (λb=>b.data.toList)then G else some ⟨403,[],⟨#[]⟩⟩)
  else if x.k=2 then(if x.lim<(r.qb.size:Int)then some ⟨413,[],⟨#[]⟩⟩else G)
  else if x.k=3 then a9A G
  else if x.k=4 then G.map λa=>⟨a.st,a.fs++(Bf r.fs x.n.data.toList).map (λv=>(x.n,v)),a.b⟩
  else G:=by unfold Eh a9A;rfl
 generalize Eh x r.fs r.qb G=GG at *
 have HG:=hid hG;obtain⟨r0,r1,r2,r3,r4,r5,r6,r7,r8⟩:=R1.cells;obtain⟨x0,x1,x2,x3⟩:=X1.cells;have lr:=R1.lt;have lx:=X1.lt;clear HIN hG R1 X1;obtain⟨qm,qt,qb,fs,fa,fc,ps,pa,pc,⟨hk',hst,ht,hn⟩⟩:=r;obtain⟨xk,xn,xv,xl⟩:=x;simp only[Rn.vals]at *
 go_enter func309,ntmps309;go_upto_region 1 with fail;generalize ((w.alloc (.cells #[.string qm,.string qt,.slice fa fs.length fc,.string qb,.slice pa ps.length pc,.int .i64 hk',.int .i64 hst,.string ht,.string hn] 330)).alloc (.cells #[.int .i64 xk,.string xn,.string xv,.int .i64 xl] 241)).alloc (.cells #[.int .i64 0,.slice none 0 0,.string ⟨#[]⟩,.bool false] 49)=w1 at *
 have HEND:=hid (HI.out w1 hA);have HSAVE:=hid (b5T p1 p2 G w1 (λW hW=>HI.out W (Bc hA hW)));have la:=A1.lt;rcases hk with rfl|rfl|⟨n0,n1,n2,n3,n4⟩
 ·have hg:=HG.out;simp at hg;by_cases hl:xl<(qb.size:Int)
  ·rw[if_pos hl]at hg;subst hg;obtain⟨c0,c1,c2,c3⟩:=A1.cells;have f0:=A1.free 0;have f1:=A1.free 1;have f2:=A1.free 2;have f3:=A1.free 3;obtain⟨d0,d1,d2,d3⟩:=(A1.set 413 (.slice none 0 0) ⟨#[]⟩ false).cells;unfold setA at d0 d1 d2 d3;clear HG HEND HSAVE HI;go_wp2_with fail;refine Ae (v:=.agg #[.int .i64 413,.slice none 0 0,.string ⟨#[]⟩,.bool false]) (by simp[results,results309,go_sem,d0,d1,d2,d3]) rfl ?_;exact⟨⟨_,rfl,Am _ _ _ _⟩,Bm hA (by omega)⟩
  ·rw[if_neg hl]at hg;subst hg;clear HG HSAVE HI;go_wp2_with fail;refine HEND.out.mono ?_
   cases GG with
   |none=>
    rintro x w2 ⟨rfl,hb2⟩;exact⟨rfl,rfl,Bc hA hb2⟩
   |some a=>
    rintro x w2 ⟨⟨vv,rfl,ow⟩,hb2⟩;have A2:=A1.below hb2;have hB2:=Bc hA hb2;have hno:vv.ownBlock≠some (w.heap.size+1+1):=λe=>by have:=Bx ow _ e;omega
    have HO:=hid (Bt ow hA.size);obtain⟨ax,cx,rfl⟩:=Ce ow;obtain⟨c0,c1,c2,c3⟩:=A2.cells;have f0:=A2.free 0;have f1:=A2.free 1;have f2:=A2.free 2;have f3:=A2.free 3;have l2:=A2.lt;obtain⟨d0,d1,d2,d3⟩:=(A2.set a.st (.slice ax a.fs.length cx) a.b false).cells;have HF:Hid ((setA (w.heap.size+1+1) a.st (.slice ax a.fs.length cx) a.b false w2).ownsRow w.heap.size 131 2 (.slice ax a.fs.length cx) a.fs.length (Bg a.fs)/\Bw w (setA (w.heap.size+1+1) a.st (.slice ax a.fs.length cx) a.b false w2)):=⟨Cg HO.out hno,Bm hB2 (by omega)⟩;unfold setA at d0 d1 d2 d3;clear ow HO A1;go_wp2_with fail;refine Ae (v:=.agg #[.int .i64 a.st,.slice ax a.fs.length cx,.string a.b,.bool false]) (by simp[results,results309,go_sem,d0,d1,d2,d3]) rfl ?_;exact⟨⟨_,rfl,HF.out.1⟩,HF.out.2⟩
 ·have hg:=HG.out;simp at hg;subst hg;clear HG HEND HI;go_wp2_with fail;refine HSAVE.out.mono ?_;generalize a9A G=G at *
  cases G with
  |none=>
   rintro x w2 ⟨rfl,hb2⟩;exact⟨rfl,rfl,Bc hA hb2⟩
  |some a=>
   rintro x w2 ⟨⟨vv,rfl,ow⟩,hb2⟩;have A2:=A1.below hb2;have hB2:=Bc hA hb2;have hno:vv.ownBlock≠some (w.heap.size+1+1):=λe=>by have:=Bx ow _ e;omega
   have HO:=hid (Bt ow hA.size);obtain⟨ax,cx,rfl⟩:=Ce ow;obtain⟨c0,c1,c2,c3⟩:=A2.cells;have f0:=A2.free 0;have f1:=A2.free 1;have f2:=A2.free 2;have f3:=A2.free 3;have l2:=A2.lt;obtain⟨d0,d1,d2,d3⟩:=(A2.set a.st (.slice ax a.fs.length cx) a.b false).cells;have HF:Hid ((setA (w.heap.size+1+1) a.st (.slice ax a.fs.length cx) a.b false w2).ownsRow w.heap.size 131 2 (.slice ax a.fs.length cx) a.fs.length (Bg a.fs)/\Bw w (setA (w.heap.size+1+1) a.st (.slice ax a.fs.length cx) a.b false w2)):=⟨Cg HO.out hno,Bm hB2 (by omega)⟩;unfold setA at d0 d1 d2 d3;clear ow HO A1;go_wp2_with fail;refine Ae (v:=.agg #[.int .i64 a.st,.slice ax a.fs.length cx,.string a.b,.bool false]) (by simp[results,results309,go_sem,d0,d1,d2,d3]) rfl ?_;exact⟨⟨_,rfl,HF.out.1⟩,HF.out.2⟩
 ·have hg:=HG.out;rw[if_neg n0,if_neg n1,if_neg n2,if_neg n3,if_neg n4]at hg;subst hg;have m0:(xk==0)=false:=by simpa using n0
  have m1:(xk==1)=false:=by simpa using n1
  have m2:(xk==2)=false:=by simpa using n2
  have m3:(xk==3)=false:=by simpa using n3
  have m4:(xk==4)=false:=by simpa using n4
  clear HG HSAVE HI n0 n1 n2 n3 n4;go_wp2_with fail;refine HEND.out.mono ?_
  cases GG with
  |none=>
   rintro x w2 ⟨rfl,hb2⟩;exact⟨rfl,rfl,Bc hA hb2⟩
  |some a=>
   rintro x w2 ⟨⟨vv,rfl,ow⟩,hb2⟩;have A2:=A1.below hb2;have hB2:=Bc hA hb2;have hno:vv.ownBlock≠some (w.heap.size+1+1):=λe=>by have:=Bx ow _ e;omega
   have HO:=hid (Bt ow hA.size);obtain⟨ax,cx,rfl⟩:=Ce ow;obtain⟨c0,c1,c2,c3⟩:=A2.cells;have f0:=A2.free 0;have f1:=A2.free 1;have f2:=A2.free 2;have f3:=A2.free 3;have l2:=A2.lt;obtain⟨d0,d1,d2,d3⟩:=(A2.set a.st (.slice ax a.fs.length cx) a.b false).cells;have HF:Hid ((setA (w.heap.size+1+1) a.st (.slice ax a.fs.length cx) a.b false w2).ownsRow w.heap.size 131 2 (.slice ax a.fs.length cx) a.fs.length (Bg a.fs)/\Bw w (setA (w.heap.size+1+1) a.st (.slice ax a.fs.length cx) a.b false w2)):=⟨Cg HO.out hno,Bm hB2 (by omega)⟩;unfold setA at d0 d1 d2 d3;clear ow HO A1;go_wp2_with fail;refine Ae (v:=.agg #[.int .i64 a.st,.slice ax a.fs.length cx,.string a.b,.bool false]) (by simp[results,results309,go_sem,d0,d1,d2,d3]) rfl ?_;exact⟨⟨_,rfl,HF.out.1⟩,HF.out.2⟩
theorem a6D(r:Rn)(g1 g2 g o:Nat)(G:Option An)(w:World)(R:RnB g1 r w)(hs:w.cell? ⟨g2,0,none⟩=some (.slice (some ⟨g,o,none⟩) 1 1))(HIN:∀W,Bw w W->Calls prog 256 #[.agg r.vals,.slice (some ⟨g,o,none⟩) 0 0] W (Cz G W)):
  Calls prog 310 #[.pointer (some ⟨g1,0,none⟩),.pointer (some ⟨g2,0,none⟩)] w (Cz G w):=by
 have hA:=bA w (.cells #[.int .i64 0,.slice none 0 0,.string ⟨#[]⟩,.bool false] 49);have A1:AnB w.heap.size 0 (.slice none 0 0) ⟨#[]⟩ false (w.alloc (.cells #[.int .i64 0,.slice none 0 0,.string ⟨#[]⟩,.bool false] 49)):=Ag w _;have R1:=R.below hA;have s1:=Aa hA hs;have HI:=hid HIN;obtain⟨r0,r1,r2,r3,r4,r5,r6,r7,r8⟩:=R1.cells;have lr:=R1.lt;have lr0:=R.lt;have ls:=Ap s1;have ls0:=Ap hs;clear HIN R1 R hs;obtain⟨qm,qt,qb,fs,fa,fc,ps,pa,pc,⟨hk',hst,ht,hn'⟩⟩:=r;simp only[Rn.vals]at *
 go_enter func310,ntmps310;go_upto_region 1 with fail;generalize w.alloc (.cells #[.int .i64 0,.slice none 0 0,.string ⟨#[]⟩,.bool false] 49)=w1 at *
 have la:=A1.lt;have HI1:=hid (λW (hW:Bw w1 W)=>HI.out W (Bc hA hW));have HA1:=hid A1;have hb1:=Ad w1.heap.size w1;clear HI
 cases G with
 |none=>
  go_region_dies
  all_goals go_wp2_with (go_at_call 256;refine(HI1.out _ hb1.drew).mono ?_;rintro x wA ⟨rfl,hbA⟩;exact⟨rfl,rfl,Bc hA (Bc hb1.drew hbA)⟩)
 |some a=>
  have nr:g1≠w.heap.size:=by omega
  have ns:g2≠w.heap.size:=by omega
  have HE:=hid (λ(ax:Oa) (cx:Nat) (w3:World) (o3:w3.ownsRow w1.heap.size 131 2 (.slice ax a.fs.length cx) a.fs.length (Bg a.fs)) (hb3:Bw w1 w3)=>(And.intro (Cg (st:=a.st) (vv:=.slice ax a.fs.length cx) (b:=a.b) (cl:=false) (Bt o3 hA.size) (λe=>by have:=Bx o3 _ e;omega)) (Bm (st:=a.st) (vv:=.slice ax a.fs.length cx) (b:=a.b) (cl:=false) (Bc hA hb3) (Ac w.heap.size)):(setA w.heap.size a.st (.slice ax a.fs.length cx) a.b false w3).ownsRow w.heap.size 131 2 (.slice ax a.fs.length cx) a.fs.length (Bg a.fs)/\Bw w (setA w.heap.size a.st (.slice ax a.fs.length cx) a.b false w3)));have HKP:Hid (∀(w3 w4:World),(∃vv,w4=setA w.heap.size a.st vv a.b false w3)->Bw w1 w3->w4.cell? ⟨g2,0,none⟩=some (.slice (some ⟨g,o,none⟩) 1 1)/\w4.cell? ⟨g1,0,none⟩=some (.string qm)/\w4.cell? ⟨g1,1,none⟩=some (.string qt)/\w4.cell? ⟨g1,2,none⟩=some (.slice fa fs.length fc)/\w4.cell? ⟨g1,3,none⟩=some (.string qb)/\w4.cell? ⟨g1,4,none⟩=some (.slice pa ps.length pc)/\w4.cell? ⟨g1,5,none⟩=some (.int .i64 hk')/\w4.cell? ⟨g1,6,none⟩=some (.int .i64 hst)/\w4.cell? ⟨g1,7,none⟩=some (.string ht)/\w4.cell? ⟨g1,8,none⟩=some (.string hn')):=by
   rintro w3 w4 ⟨vv,rfl⟩ hb;exact⟨(Bh ns).trans (Aa hb s1),(Bh nr).trans (Aa hb r0),(Bh nr).trans (Aa hb r1),(Bh nr).trans (Aa hb r2),(Bh nr).trans (Aa hb r3),(Bh nr).trans (Aa hb r4),(Bh nr).trans (Aa hb r5),(Bh nr).trans (Aa hb r6),(Bh nr).trans (Aa hb r7),(Bh nr).trans (Aa hb r8)⟩
  go_region_held3 (λW=>W.cell? ⟨g2,0,none⟩=some (.slice (some ⟨g,o,none⟩) 1 1)/\W.cell? ⟨g1,0,none⟩=some (.string qm)/\W.cell? ⟨g1,1,none⟩=some (.string qt)/\W.cell? ⟨g1,2,none⟩=some (.slice fa fs.length fc)/\W.cell? ⟨g1,3,none⟩=some (.string qb)/\W.cell? ⟨g1,4,none⟩=some (.slice pa ps.length pc)/\W.cell? ⟨g1,5,none⟩=some (.int .i64 hk')/\W.cell? ⟨g1,6,none⟩=some (.int .i64 hst)/\W.cell? ⟨g1,7,none⟩=some (.string ht)/\W.cell? ⟨g1,8,none⟩=some (.string hn')) (first|go_keep|exact HKEEP.out)
   (first|(go_at_call 256;refine(HI1.out _ hb1.drew).mono ?_;rintro x w3 ⟨⟨vv,rfl,ow⟩,hb3⟩;obtain⟨ax,cx,rfl⟩:=Ce ow;have hbD:=Bc hb1.drew hb3;have o3:=Bt ow hb1.drew.size;have A3:=HA1.out.below hbD;obtain⟨c0,c1,c2,c3⟩:=A3.cells;have f0:=A3.free 0;have f1:=A3.free 1;have f2:=A3.free 2;have f3:=A3.free 3;have l3:=A3.lt;obtain⟨d0,d1,d2,d3⟩:=(A3.set a.st (.slice ax a.fs.length cx) a.b false).cells;have HF:=hid (HE.out ax cx w3 o3 hbD);have z0:=Aa hbD r0;have z1:=Aa hbD r1;have z2:=Aa hbD r2;have z3:=Aa hbD r3;have z4:=Aa hbD r4;have z5:=Aa hbD r5;have z6:=Aa hbD r6;have z7:=Aa hbD r7;have z8:=Aa hbD r8;have zs:=Aa hbD s1;have HKEEP:=hid (HKP.out w3 (setA w.heap.size a.st (.slice ax a.fs.length cx) a.b false w3) ⟨_,rfl⟩ hbD);unfold setA at d0 d1 d2 d3 HKEEP;clear ow o3))
  all_goals clear HI1 HE HKP A1
  all_goals go_wp2_with fail
  all_goals
   refine Ae (v:=.agg #[.int .i64 a.st,.slice ax a.fs.length cx,.string a.b,.bool false]) (by simp[results,results310,go_sem,d0,d1,d2,d3]) rfl ?_;exact⟨⟨_,rfl,HF.out.1⟩,HF.out.2⟩
theorem a1Q(r:Rn)(g1 g2 g o n c:Nat)(G:Option An)(w:World)(R:RnB g1 r w)(hs:w.cell? ⟨g2,0,none⟩=some (.slice (some ⟨g,o,none⟩) (n+1) c))(hc:n+1<=c)(hn:n<=1000000)(hc1:¬c=1)(HIN:∀W,Bw w W->Calls prog 256 #[.agg r.vals,.slice (some ⟨g,o+4,none⟩) n (c-1)] W (Cz G W)):
  Calls prog 310 #[.pointer (some ⟨g1,0,none⟩),.pointer (some ⟨g2,0,none⟩)] w (Cz G w):=by
 have hA:=bA w (.cells #[.int .i64 0,.slice none 0 0,.string ⟨#[]⟩,.bool false] 49);have A1:AnB w.heap.size 0 (.slice none 0 0) ⟨#[]⟩ false (w.alloc (.cells #[.int .i64 0,.slice none 0 0,.string ⟨#[]⟩,.bool false] 49)):=Ag w _;have R1:=R.below hA;have s1:=Aa hA hs;have HI:=hid HIN;obtain⟨r0,r1,r2,r3,r4,r5,r6,r7,r8⟩:=R1.cells;have lr:=R1.lt;have lr0:=R.lt;have ls:=Ap s1;have ls0:=Ap hs;have k1:(1:Int)<=(n:Int)+1:=by omega
 have k2:(n:Int)+1<=(c:Int):=by omega
 clear HIN R1 R hs;obtain⟨qm,qt,qb,fs,fa,fc,ps,pa,pc,⟨hk',hst,ht,hn'⟩⟩:=r;simp only[Rn.vals]at *
 go_enter func310,ntmps310;go_upto_region 1 with fail;generalize w.alloc (.cells #[.int .i64 0,.slice none 0 0,.string ⟨#[]⟩,.bool false] 49)=w1 at *
 have la:=A1.lt;have HI1:=hid (λW (hW:Bw w1 W)=>HI.out W (Bc hA hW));have HA1:=hid A1;have hb1:=Ad w1.heap.size w1;clear HI
 cases G with
 |none=>
  go_region_dies
  all_goals go_wp2_with (go_at_call 256;refine(HI1.out _ hb1.drew).mono ?_;rintro x wA ⟨rfl,hbA⟩;exact⟨rfl,rfl,Bc hA (Bc hb1.drew hbA)⟩)
 |some a=>
  have nr:g1≠w.heap.size:=by omega
  have ns:g2≠w.heap.size:=by omega
  have HE:=hid (λ(ax:Oa) (cx:Nat) (w3:World) (o3:w3.ownsRow w1.heap.size 131 2 (.slice ax a.fs.length cx) a.fs.length (Bg a.fs)) (hb3:Bw w1 w3)=>(And.intro (Cg (st:=a.st) (vv:=.slice ax a.fs.length cx) (b:=a.b) (cl:=false) (Bt o3 hA.size) (λe=>by have:=Bx o3 _ e;omega)) (Bm (st:=a.st) (vv:=.slice ax a.fs.length cx) (b:=a.b) (cl:=false) (Bc hA hb3) (Ac w.heap.size)):(setA w.heap.size a.st (.slice ax a.fs.length cx) a.b false w3).ownsRow w.heap.size 131 2 (.slice ax a.fs.length cx) a.fs.length (Bg a.fs)/\Bw w (setA w.heap.size a.st (.slice ax a.fs.length cx) a.b false w3)));have HKP:Hid (∀(w3 w4:World),(∃vv,w4=setA w.heap.size a.st vv a.b false w3)->Bw w1 w3->w4.cell? ⟨g2,0,none⟩=some (.slice (some ⟨g,o,none⟩) (n+1) c)/\w4.cell? ⟨g1,0,none⟩=some (.string qm)/\w4.cell? ⟨g1,1,none⟩=some (.string qt)/\w4.cell? ⟨g1,2,none⟩=some (.slice fa fs.length fc)/\w4.cell? ⟨g1,3,none⟩=some (.string qb)/\w4.cell? ⟨g1,4,none⟩=some (.slice pa ps.length pc)/\w4.cell? ⟨g1,5,none⟩=some (.int .i64 hk')/\w4.cell? ⟨g1,6,none⟩=some (.int .i64 hst)/\w4.cell? ⟨g1,7,none⟩=some (.string ht)/\w4.cell? ⟨g1,8,none⟩=some (.string hn')):=by
   rintro w3 w4 ⟨vv,rfl⟩ hb;exact⟨(Bh ns).trans (Aa hb s1),(Bh nr).trans (Aa hb r0),(Bh nr).trans (Aa hb r1),(Bh nr).trans (Aa hb r2),(Bh nr).trans (Aa hb r3),(Bh nr).trans (Aa hb r4),(Bh nr).trans (Aa hb r5),(Bh nr).trans (Aa hb r6),(Bh nr).trans (Aa hb r7),(Bh nr).trans (Aa hb r8)⟩
  go_region_held3 (λW=>W.cell? ⟨g2,0,none⟩=some (.slice (some ⟨g,o,none⟩) (n+1) c)/\W.cell? ⟨g1,0,none⟩=some (.string qm)/\W.cell? ⟨g1,1,none⟩=some (.string qt)/\W.cell? ⟨g1,2,none⟩=some (.slice fa fs.length fc)/\W.cell? ⟨g1,3,none⟩=some (.string qb)/\W.cell? ⟨g1,4,none⟩=some (.slice pa ps.length pc)/\W.cell? ⟨g1,5,none⟩=some (.int .i64 hk')/\W.cell? ⟨g1,6,none⟩=some (.int .i64 hst)/\W.cell? ⟨g1,7,none⟩=some (.string ht)/\W.cell? ⟨g1,8,none⟩=some (.string hn')) (first|go_keep|exact HKEEP.out)
   (first|(go_at_call 256;refine(HI1.out _ hb1.drew).mono ?_;rintro x w3 ⟨⟨vv,rfl,ow⟩,hb3⟩;obtain⟨ax,cx,rfl⟩:=Ce ow;have hbD:=Bc hb1.drew hb3;have o3:=Bt ow hb1.drew.size;have A3:=HA1.out.below hbD;obtain⟨c0,c1,c2,c3⟩:=A3.cells;have f0:=A3.free 0;have f1:=A3.free 1;have f2:=A3.free 2;have f3:=A3.free 3;have l3:=A3.lt;obtain⟨d0,d1,d2,d3⟩:=(A3.set a.st (.slice ax a.fs.length cx) a.b false).cells;have HF:=hid (HE.out ax cx w3 o3 hbD);have z0:=Aa hbD r0;have z1:=Aa hbD r1;have z2:=Aa hbD r2;have z3:=Aa hbD r3;have z4:=Aa hbD r4;have z5:=Aa hbD r5;have z6:=Aa hbD r6;have z7:=Aa hbD r7;have z8:=Aa hbD r8;have zs:=Aa hbD s1;have HKEEP:=hid (HKP.out w3 (setA w.heap.size a.st (.slice ax a.fs.length cx) a.b false w3) ⟨_,rfl⟩ hbD);unfold setA at d0 d1 d2 d3 HKEEP;clear ow o3))
  all_goals clear HI1 HE HKP A1
  all_goals go_wp2_with fail
  all_goals
   refine Ae (v:=.agg #[.int .i64 a.st,.slice ax a.fs.length cx,.string a.b,.bool false]) (by simp[results,results310,go_sem,d0,d1,d2,d3]) rfl ?_;exact⟨⟨_,rfl,HF.out.1⟩,HF.out.2⟩
theorem a6E(r:Rn)(g1 g2 g o n c:Nat)(G:Option An)(w:World)(R:RnB g1 r w)(hs:w.cell? ⟨g2,0,none⟩=some (.slice (some ⟨g,o,none⟩) (n+1) c))(hc:n+1<=c)(hn:n<=1000000)(HIN:∀W,Bw w W->Calls prog 256 #[.agg r.vals,.slice (if c=1 then some ⟨g,o,none⟩else some ⟨g,o+4,none⟩) n (c-1)] W (Cz G W)):
  Calls prog 310 #[.pointer (some ⟨g1,0,none⟩),.pointer (some ⟨g2,0,none⟩)] w (Cz G w):=by
 by_cases hc1:c=1
 ·subst hc1;obtain rfl:n=0:=by omega
  exact a6D r g1 g2 g o G w R hs HIN
 ·refine a1Q r g1 g2 g o n c G w R hs hc hn hc1 (λW hW=>?_);have:=HIN W hW;rw[if_neg hc1]at this;exact this
theorem Qp(r:Rn)(v:Value)(w:World):Bw w (((w.alloc (.cells r.vals 330)).alloc (.cells #[v] 42)).alloc (.cells #[.int .i64 0,.slice none 0 0,.string ⟨#[]⟩,.bool false] 49))/\RnB w.heap.size r (((w.alloc (.cells r.vals 330)).alloc (.cells #[v] 42)).alloc (.cells #[.int .i64 0,.slice none 0 0,.string ⟨#[]⟩,.bool false] 49))/\(((w.alloc (.cells r.vals 330)).alloc (.cells #[v] 42)).alloc (.cells #[.int .i64 0,.slice none 0 0,.string ⟨#[]⟩,.bool false] 49)).cell? ⟨w.heap.size+1,0,none⟩=some v/\AnB (w.heap.size+1+1) 0 (.slice none 0 0) ⟨#[]⟩ false (((w.alloc (.cells r.vals 330)).alloc (.cells #[v] 42)).alloc (.cells #[.int .i64 0,.slice none 0 0,.string ⟨#[]⟩,.bool false] 49)):=by
 have hA1:=bA w (.cells r.vals 330);have hA2:=hA1.alloc hA1.size (.cells #[v] 42);have hA:=hA2.alloc hA2.size (.cells #[.int .i64 0,.slice none 0 0,.string ⟨#[]⟩,.bool false] 49);have z1:(w.alloc (.cells r.vals 330)).heap.size=w.heap.size+1:=by simp
 have z2:((w.alloc (.cells r.vals 330)).alloc (.cells #[v] 42)).heap.size=w.heap.size+1+1:=by simp
 have b1:Below (w.alloc (.cells r.vals 330)).heap.size (w.alloc (.cells r.vals 330)) ((w.alloc (.cells r.vals 330)).alloc (.cells #[v] 42)):=bA _ _;have b2:Below ((w.alloc (.cells r.vals 330)).alloc (.cells #[v] 42)).heap.size ((w.alloc (.cells r.vals 330)).alloc (.cells #[v] 42)) (((w.alloc (.cells r.vals 330)).alloc (.cells #[v] 42)).alloc (.cells #[.int .i64 0,.slice none 0 0,.string ⟨#[]⟩,.bool false] 49)):=bA _ _;have R0:RnB w.heap.size r (w.alloc (.cells r.vals 330)):=Ag w _;have X0:((w.alloc (.cells r.vals 330)).alloc (.cells #[v] 42)).cell? ⟨w.heap.size+1,0,none⟩=some v:=by
  have h:=Ag (w.alloc (.cells r.vals 330)) (.cells #[v] 42);rw[z1]at h;rw[Ab h];rfl
 have A0:AnB (w.heap.size+1+1) 0 (.slice none 0 0) ⟨#[]⟩ false (((w.alloc (.cells r.vals 330)).alloc (.cells #[v] 42)).alloc (.cells #[.int .i64 0,.slice none 0 0,.string ⟨#[]⟩,.bool false] 49)):=by
  have h:=Ag ((w.alloc (.cells r.vals 330)).alloc (.cells #[v] 42)) (.cells #[.int .i64 0,.slice none 0 0,.string ⟨#[]⟩,.bool false] 49);rw[z2]at h;exact h
 exact⟨hA,(R0.below b1).below b2,Aa b2 X0,A0⟩
theorem a1R(r:Rn)(a:Oa)(c:Nat)(w:World)(hr:RnAt r w):
  Calls prog 256 #[.agg r.vals,.slice a 0 c] w (Cz (Ew r.h r.qb r.ps) w):=by
 obtain⟨hA,R1,s1,A1⟩:=Qp r (.slice a 0 c) w;have HH:=hid (λW (hW:Bw w W)=>a6B r W (hr.below hW));generalize Ew r.h r.qb r.ps=G at *
 obtain⟨r0,r1,r2,r3,r4,r5,r6,r7,r8⟩:=R1.cells;have lr:=R1.lt;clear hr R1;obtain⟨qm,qt,qb,fs,fa,fc,ps,pa,pc,⟨hk',hst,ht,hn⟩⟩:=r;simp only[Rn.vals]at *
 go_enter func256,ntmps256;go_upto_region 2 with fail;generalize ((w.alloc (.cells #[.string qm,.string qt,.slice fa fs.length fc,.string qb,.slice pa ps.length pc,.int .i64 hk',.int .i64 hst,.string ht,.string hn] 330)).alloc (.cells #[.slice a 0 c] 42)).alloc (.cells #[.int .i64 0,.slice none 0 0,.string ⟨#[]⟩,.bool false] 49)=w1 at *
 have HEND:=hid (HH.out w1 hA);have la:=A1.lt;clear HH;go_wp2_with fail;refine HEND.out.mono ?_
 cases G with
 |none=>
  rintro x w2 ⟨rfl,hb2⟩;exact⟨rfl,rfl,Bc hA hb2⟩
 |some a=>
  rintro x w2 ⟨⟨vv,rfl,ow⟩,hb2⟩;have A2:=A1.below hb2;have hB2:=Bc hA hb2;have hno:vv.ownBlock≠some (w.heap.size+1+1):=λe=>by have:=Bx ow _ e;omega
  have HO:=hid (Bt ow hA.size);obtain⟨ax,cx,rfl⟩:=Ce ow;obtain⟨c0,c1,c2,c3⟩:=A2.cells;have f0:=A2.free 0;have f1:=A2.free 1;have f2:=A2.free 2;have f3:=A2.free 3;have l2:=A2.lt;obtain⟨d0,d1,d2,d3⟩:=(A2.set a.st (.slice ax a.fs.length cx) a.b false).cells;have HF:Hid ((setA (w.heap.size+1+1) a.st (.slice ax a.fs.length cx) a.b false w2).ownsRow w.heap.size 131 2 (.slice ax a.fs.length cx) a.fs.length (Bg a.fs)/\Bw w (setA (w.heap.size+1+1) a.st (.slice ax a.fs.length cx) a.b false w2)):=⟨Cg HO.out hno,Bm hB2 (by omega)⟩;unfold setA at d0 d1 d2 d3;clear ow HO A1;go_wp2_with fail;refine Ae (v:=.agg #[.int .i64 a.st,.slice ax a.fs.length cx,.string a.b,.bool false]) (by simp[results,results256,go_sem,d0,d1,d2,d3]) rfl ?_;exact⟨⟨_,rfl,HF.out.1⟩,HF.out.2⟩
theorem b5U(cs:Array Value)(k:Nat)(v:Value)(h:cs[k]?=some v):cs.setIfInBounds k v=cs:=by
 apply Array.ext_getElem?;intro i;rw[Array.getElem?_setIfInBounds];by_cases e:k=i
 ·subst e;rw[if_pos rfl]
  split
  ·exact h.symm
  ·rename_i hn
   rw[Array.getElem?_eq_none (by omega)]at h;cases h
 ·rw[if_neg e]
theorem Tm{w:World}{g k:Nat}{cs:Array Value}{T:TypeId}{v:Value}(hb:w.heap[g]?=some (.cells cs T (0,0)))(hk:cs[k]?=some v)(b:Nat):(w.setCell ⟨g,k,none⟩ v).heap[b]?=w.heap[b]?:=by
 by_cases e:b=g
 ·subst e;rw[heap_setCell_same _ b k _ _ _ hb,hb,b5U cs k v hk]
 ·exact heap_setCell_other w ⟨g,k,none⟩ b v e
theorem Xu{w:World}{B:Nat}{T:TypeId}{vv:Value}{fs:List Prm}(h:w.ownsRow B T 2 vv fs.length (Bg fs))(hn:fs≠[]):∃(g cap:Nat) (cs:Array Value),vv=.slice (some ⟨g,0,none⟩) fs.length cap/\B<=g/\g<w.heap.size/\w.heap[g]?=some (.cells cs T (0,0))/\∀(j:Nat) (u:Value),(Bg fs)[j]?=some u->cs[j]?=some u:=by
 obtain⟨h1,h2⟩:=h;rcases h2 with⟨_,h0⟩|⟨g,cap,cur,hv,hB,hg,_,_,_,hc⟩
 ·exact absurd (Ay h0) hn
 ·refine⟨g,cap,cur,hv,hB,?_,hg,λj u hj=>?_⟩
  ·rcases B8z g w.heap.size with h'|h'
   ·exact h'
   ·simp[Array.getElem?_eq_none h']at hg
  ·have h3:(cur.toList.take (fs.length*2))[j]?=some u:=by rw[hc];exact hj
   rw[D0z]at h3
   split at h3
   ·simpa using h3
   ·cases h3
theorem Rq:∀(es:List Prm) (i:Nat) (h:i<es.length),(Bg es)[i*2]?=some (.string es[i].1)/\(Bg es)[i*2+1]?=some (.string es[i].2)
 |e::r,0,_=>by simp[Bg]
 |e::r,i+1,h=>by
  have:=Rq r i (by simpa using h);have e2:Bg (e::r)=.string e.1::.string e.2::Bg r:=by simp[Bg]
  rw[e2,show(i+1)*2=i*2+1+1 by omega];simpa using this
structure OwI(st:Int)(b:By)(cl:Bool)(fs:List Prm)(vv:Value)(B:Nat)(w wr:World):Prop where
 a:AnB w.heap.size st vv b cl wr
 r:AnB (w.heap.size+1) 0 (.slice none 0 0) ⟨#[]⟩ false wr
 o:wr.ownsRow B 131 2 vv fs.length (Bg fs)
 bl:Below B w wr
theorem OwI.next{st:Int}{b:By}{cl:Bool}{fs:List Prm}{vv:Value}{B:Nat}{w wr w2:World}{g cap k:Nat}(h:OwI st b cl fs vv B w wr)(hB:B<=w.heap.size)(hb:Bw wr w2)(hv:vv=.slice (some ⟨g,0,none⟩) fs.length cap)(hk:k<fs.length):
  OwI st b cl fs vv B w ((w2.setCell ⟨g,k*2,none⟩ (.string fs[k].1)).setCell ⟨g,k*2+1,none⟩ (.string fs[k].2)):=by
 have o2:=Be h.o hb;obtain⟨g',cap',cs,e,hBg,hlt,hg,hcs⟩:=Xu o2 (λe=>by rw[e]at hk;simp at hk);rw[hv]at e;simp only[Value.slice.injEq,Option.some.injEq,Addr.mk.injEq,and_true,true_and]at e;obtain⟨rfl,-⟩:=e;obtain⟨p1,p2⟩:=Rq fs k hk;have s1:=Tm hg (hcs _ _ p1);have s2:=Tm (by rw[s1];exact hg) (hcs _ _ p2);have s:∀q,((w2.setCell ⟨g,k*2,none⟩ (.string fs[k].1)).setCell ⟨g,k*2+1,none⟩ (.string fs[k].2)).heap[q]?=w2.heap[q]?:=λq=>(s2 q).trans (s1 q);exact⟨(h.a.below hb).keep (s _),(h.r.below hb).keep (s _),a0R o2 (λq _=>s q),((h.bl.trans (hb.mono (Aj hB (by have:=h.bl.size;omega)))).setCell hBg _).setCell hBg _⟩
theorem a1S(st:Int)(fs:List Prm)(vv:Value)(b:By)(cl:Bool)(B:Nat)(w:World)(ho:w.ownsRow B 131 2 vv fs.length (Bg fs))(hB:B<=w.heap.size)(hl:fs.length<=100000000)(hz:∀i (h:i<fs.length),fs[i].1.size<=281474976710656/\fs[i].2.size<=281474976710656)(hb:b.size<=281474976710656):
  Calls prog 216 #[.agg #[.int .i64 st,vv,.string b,.bool cl]] w λx w'=>x=.returned (.agg #[.int .i64 st,vv,.string b,.bool cl])/\w'.ownsRow B 131 2 vv fs.length (Bg fs)/\Below B w w':=by
 have hA1:=bA w (.cells #[.int .i64 st,vv,.string b,.bool cl] 49);have hA:=hA1.alloc hA1.size (.cells #[.int .i64 0,.slice none 0 0,.string ⟨#[]⟩,.bool false] 49);have z1:(w.alloc (.cells #[.int .i64 st,vv,.string b,.bool cl] 49)).heap.size=w.heap.size+1:=by simp
 have g0:AnB w.heap.size st vv b cl (w.alloc (.cells #[.int .i64 st,vv,.string b,.bool cl] 49)):=Ag w _;have g1:=g0.below (bA _ (.cells #[.int .i64 0,.slice none 0 0,.string ⟨#[]⟩,.bool false] 49));have h0:AnB (w.heap.size+1) 0 (.slice none 0 0) ⟨#[]⟩ false ((w.alloc (.cells #[.int .i64 st,vv,.string b,.bool cl] 49)).alloc (.cells #[.int .i64 0,.slice none 0 0,.string ⟨#[]⟩,.bool false] 49)):=by
  rw[<-z1];exact Ag _ _
 have I0:Hid (OwI st b cl fs vv B w ((w.alloc (.cells #[.int .i64 st,vv,.string b,.bool cl] 49)).alloc (.cells #[.int .i64 0,.slice none 0 0,.string ⟨#[]⟩,.bool false] 49))):=⟨g1,h0,Be ho hA,hA.mono hB⟩;have HZ:=hid hz;have hno:∀r,vv.ownBlock=some r->r<w.heap.size:=De ho;have HNO:=hid hno;obtain⟨av,cv,rfl⟩:=Ce ho;clear g0 g1 h0 z1 ho hA1 hA hz hno;go_enter func216,ntmps216;go_wp2_with fail;generalize (w.alloc (.cells #[.int .i64 st,.slice av fs.length cv,.string b,.bool cl] 49)).alloc (.cells #[.int .i64 0,.slice none 0 0,.string ⟨#[]⟩,.bool false] 49)=w1 at *
 go_loopw [8] (λi wr=>∃k:Nat,k<=fs.length/\i=.int .i64 k/\Hid (OwI st b cl fs (.slice av fs.length cv) B w wr)) (λi _=>fs.length-(intOf i).toNat)
 case atStart=>exact⟨0,Ah _,rfl,I0⟩
 case round=>
  clear I0;obtain⟨k,hk,rfl,I⟩:=hrel;by_cases hlt:k<fs.length
  ·obtain⟨g,cap,cs,e,hBg,hgl,hg,hcs⟩:=Xu I.out.o (λe=>by rw[e]at hlt;simp at hlt);have HNX:=hid (λ(w2:World) (hb:Bw wr w2)=>I.out.next hB hb e hlt);simp only[Value.slice.injEq,true_and]at e;obtain⟨rfl,rfl⟩:=e;obtain⟨p1,p2⟩:=Rq fs k hlt;have c1:wr.cell? ⟨g,k*2,none⟩=some (.string fs[k].1):=by rw[Ab hg];exact hcs _ _ p1
   have c2:wr.cell? ⟨g,k*2+1,none⟩=some (.string fs[k].2):=by rw[Ab hg];exact hcs _ _ p2
   obtain⟨x0,x1,x2,x3⟩:=I.out.a.cells;have la:=I.out.a.lt;have hng:g<w.heap.size:=HNO.out g rfl;obtain⟨zn,zv⟩:=HZ.out k hlt;have fz:=λj=>Ai hg j;have HG:=hid hg;generalize fs[k]=x at *
   obtain⟨xn,xv⟩:=x;simp only at c1 c2 zn zv HNX;clear I p1 p2 hcs hg;have n1:w.heap.size≠g:=by omega
   have n2:wr.heap.size≠g:=by omega
   have HKP:Hid (∀W:World,W.cell? ⟨w.heap.size,1,none⟩=some (.slice (some ⟨g,0,none⟩) fs.length cv)->W.cell? ⟨wr.heap.size,0,none⟩=some (.string xn)->W.cell? ⟨wr.heap.size,1,none⟩=some (.string xv)->((W.setCell ⟨g,k*2,none⟩ (.string xn)).setCell ⟨g,k*2+1,none⟩ (.string xv)).cell? ⟨w.heap.size,1,none⟩=some (.slice (some ⟨g,0,none⟩) fs.length cv)/\((W.setCell ⟨g,k*2,none⟩ (.string xn)).setCell ⟨g,k*2+1,none⟩ (.string xv)).cell? ⟨wr.heap.size,0,none⟩=some (.string xn)/\((W.setCell ⟨g,k*2,none⟩ (.string xn)).setCell ⟨g,k*2+1,none⟩ (.string xv)).cell? ⟨wr.heap.size,1,none⟩=some (.string xv)):=by
    intro W e0 e1 e2;have hx:∀(q j i:Nat) (u:Value) (V:World),q≠g->(V.setCell ⟨g,i,none⟩ u).cell? ⟨q,j,none⟩=V.cell? ⟨q,j,none⟩:=λq j i u V hq=>by
     rw[World.cell?_setCell_other _ _ _ _ (λe=>by simp only[Addr.mk.injEq]at e;first|exact hq e.1|exact hq e.1.symm)]
    rw[hx _ _ _ _ _ n1,hx _ _ _ _ _ n1,hx _ _ _ _ _ n2,hx _ _ _ _ _ n2,hx _ _ _ _ _ n2,hx _ _ _ _ _ n2];exact⟨e0,e1,e2⟩
   have hbF:=(bA wr (.cells #[.string xn,.string xv] 131)).drew;have HC:=hid (a8M xn xv (wr.alloc (.cells #[.string xn,.string xv] 131)).drew zn zv);have t0:(wr.alloc (.cells #[.string xn,.string xv] 131)).drew.cell? ⟨wr.heap.size,0,none⟩=some (.string xn):=by simp
   have t1:(wr.alloc (.cells #[.string xn,.string xv] 131)).drew.cell? ⟨wr.heap.size,1,none⟩=some (.string xv):=by simp
   have T0:=hid t0;have T1:=hid t1;have HFZ:=hid fz;have kb0:(0:Int)<=(k:Int):=by omega
   have kb1:(k:Int)<(fs.length:Int):=by omega
   clear t0 t1 fz HZ;go_upto_region 4 with fail
   go_region_held3 (λW=>W.cell? ⟨w.heap.size,1,none⟩=some (.slice (some ⟨g,0,none⟩) fs.length cv)/\W.cell? ⟨wr.heap.size,0,none⟩=some (.string xn)/\W.cell? ⟨wr.heap.size,1,none⟩=some (.string xv)) (first|exact HKEEP.out|go_keep)
    (first|(go_at_call 262;refine HC.out.mono ?_;rintro e w2 ⟨rfl,hb2⟩;have hbD:=Bc hbF hb2;have HW:=hid (HNX.out w2 hbD);have m0:=Aa hb2 T0.out;have m1:=Aa hb2 T1.out;have m2:=Aa hbD x1;have m3:=Aa hbD c1;have m4:=Aa hbD c2;have m5:g<w2.heap.size:=Ap m3;have hg2:=(hbD.block g hgl).trans HG.out;have fz0:=Ai hg2 (k*2);have fz1:=Ai hg2 (k*2+1);have HKEEP:=hid (HKP.out w2 m2 m0 m1);clear hg2))
   all_goals clear HC HKP HNX HG
   all_goals go_wp2_with fail
   all_goals exact⟨⟨k+1,by omega,by go_num,HW⟩,by simp[intOf];omega⟩
  ·have hne:¬(k:Int)<(fs.length:Int):=by omega
   have HC:=hid (Db b wr hb);obtain⟨x0,x1,x2,x3⟩:=I.out.a.cells;have la:=I.out.a.lt;have HEND:Hid (∀w2:World,Bw wr w2->AnB w.heap.size st (.slice av fs.length cv) b cl w2/\AnB w.heap.size st (.slice av fs.length cv) b cl (w2.setCell ⟨w.heap.size,2,none⟩ (.string b))/\AnB (w.heap.size+1) 0 (.slice none 0 0) ⟨#[]⟩ false (w2.setCell ⟨w.heap.size,2,none⟩ (.string b))/\(setA (w.heap.size+1) st (.slice av fs.length cv) b cl (w2.setCell ⟨w.heap.size,2,none⟩ (.string b))).ownsRow B 131 2 (.slice av fs.length cv) fs.length (Bg fs)/\Below B w (setA (w.heap.size+1) st (.slice av fs.length cv) b cl (w2.setCell ⟨w.heap.size,2,none⟩ (.string b)))):=by
    intro w2 hb2;have a2:=I.out.a.below hb2;have s:=Tm (k:=2) (v:=.string b) a2 rfl;refine⟨a2,a2.keep (s _),(I.out.r.below hb2).keep (s _),Cg (a0R (Be I.out.o hb2) (λq _=>s q)) (λe=>by have:=HNO.out _ e;omega),Bm ((I.out.bl.trans (hb2.mono (by have:=I.out.bl.size;omega))).setCell hB _) (by omega)⟩
   clear I HZ HNO;go_wp2_with (go_at_call 154;refine HC.out.mono ?_;rintro e w2 ⟨rfl,hb2⟩;obtain⟨a2,a3,r3,o3,b3⟩:=HEND.out w2 hb2;have l2:=a2.lt;obtain⟨v0,v1,v2,v3⟩:=a2.cells;have vf:=a2.free 2;obtain⟨y0,y1,y2,y3⟩:=a3.cells;obtain⟨c0,c1,c2,c3⟩:=r3.cells;have f0:=r3.free 0;have f1:=r3.free 1;have f2:=r3.free 2;have f3:=r3.free 3;have l3:=r3.lt;obtain⟨d0,d1,d2,d3⟩:=(r3.set st (.slice av fs.length cv) b cl).cells;unfold setA at d0 d1 d2 d3;have HF:=hid (And.intro o3 b3);clear o3 b3 a2 a3 r3 HEND);refine Ae (v:=.agg #[.int .i64 st,.slice av fs.length cv,.string b,.bool cl]) (by simp[results,results216,go_sem,d0,d1,d2,d3]) rfl ?_;exact⟨rfl,HF.out.1,HF.out.2⟩
end Go.Proofs.YtbiggccolpchcaaGreatDoor
