/- A ware that adds a field. -/
import Derived.Test.YtbiggccolpchcaaGreatDoorJoin20
set_option maxRecDepth 100000
set_option maxHeartbeats 8000000
namespace Go.Proofs.YtbiggccolpchcaaGreatDoor
open Go.RowKit _root_.Go.Proofs.Tryz
theorem b5V{w:World}{x:By}{g:Nat}(h:w.cell? ⟨g,0,none⟩=some (.string x)):Dg [x] (some ⟨g,0,none⟩) w:=λi hi=>by
 have:i=0:=by simp at hi;omega
 subst this;exact⟨g,rfl,Ap h,h⟩
theorem b5W{L N:Nat}(h:L<N):∀g',(some ⟨L,0,none⟩:Oa)=some ⟨g',0,none⟩->g'<N:=λg' e=>by
 simp only[Option.some.injEq,Addr.mk.injEq,and_true]at e;omega
theorem b5X{vv:Value}{L:Nat}(h:vv.ownBlock≠some L):∀g',(some ⟨L,0,none⟩:Oa)=some ⟨g',0,none⟩->vv.ownBlock≠some g':=λg' e=>by
 simp only[Option.some.injEq,Addr.mk.injEq,and_true]at e;rw[<-e];exact h
theorem Xv(a:An)(vv:Value)(n:By)(vals:List By)(va:Oa)(vc:Nat)(w1 W:World)(ow:W.ownsRow w1.heap.size 131 2 vv a.fs.length (Bg a.fs))(hb:Bw w1 W)(hv:Dg vals va W)(hlv:∀g,va=some ⟨g,0,none⟩->g<W.heap.size)(hvb:∀g,va=some ⟨g,0,none⟩->vv.ownBlock≠some g)(hl:a.fs.length+vals.length<=100000000):
  Calls prog 351 #[.agg #[.int .i64 a.st,vv,.string a.b,.bool false],.string n,.slice va vals.length vc] W λx w'=>∃ax cx,x=.returned (.agg #[.int .i64 a.st,.slice ax (a.fs++vals.map (λv=>(n,v))).length cx,.string a.b,.bool false])/\w'.ownsRow w1.heap.size 131 2 (.slice ax (a.fs++vals.map (λv=>(n,v))).length cx) (a.fs++vals.map (λv=>(n,v))).length (Bg (a.fs++vals.map (λv=>(n,v))))/\Bw w1 w':=by
 refine(Tl a.st a.fs vv a.b n false vals va vc w1.heap.size W ow hb.size hv hlv hvb hl).mono ?_;rintro x w' ⟨⟨v',rfl,o'⟩,hb'⟩;obtain⟨ax,cx,rfl⟩:=Ce o';exact⟨ax,cx,rfl,o',hb.trans hb'⟩
theorem a1T{a:An}{fs:List Prm}{ax:Oa}{cx:Nat}{w w1 w3:World}(hA:Bw w w1)(la:w.heap.size+1+1<w1.heap.size)(A1:AnB (w.heap.size+1+1) 0 (.slice none 0 0) ⟨#[]⟩ false w1)(o3:w3.ownsRow w1.heap.size 131 2 (.slice ax fs.length cx) fs.length (Bg fs))(hb3:Bw w1 w3):
  AnB (w.heap.size+1+1) 0 (.slice none 0 0) ⟨#[]⟩ false w3/\(setA (w.heap.size+1+1) a.st (.slice ax fs.length cx) a.b false w3).ownsRow w.heap.size 131 2 (.slice ax fs.length cx) fs.length (Bg fs)/\Bw w (setA (w.heap.size+1+1) a.st (.slice ax fs.length cx) a.b false w3):=
 ⟨A1.below hb3,Cg (Bt o3 hA.size) (λe=>by have:=Bx o3 _ e;omega),Bm (Bc hA hb3) (by omega)⟩
theorem a6F(r:Rn)(x:Wr)(p1 p2:Addr)(G:Option An)(w:World)(hk:x.k=0)(hGl:∀a,G=some a->a.fs.length<=50000000)(HIN:∀W,Bw w W->Calls prog 310 #[.pointer (some p1),.pointer (some p2)] W (Cz G W)):
  Calls prog 309 #[.agg r.vals,.agg #[.int .i64 x.k,.string x.n,.string x.v,.int .i64 x.lim],.func (.func 310) #[] #[.pointer (some p1),.pointer (some p2)]] w (Cz (G.map λa=>⟨a.st,a.fs++[(x.n,x.v)],a.b⟩) w):=by
 obtain⟨hA,R1,X1,A1⟩:=Jx r x w;have HI:=hid HIN;obtain⟨r0,r1,r2,r3,r4,r5,r6,r7,r8⟩:=R1.cells;obtain⟨x0,x1,x2,x3⟩:=X1.cells;have lr:=R1.lt;have lx:=X1.lt;clear HIN R1 X1;obtain⟨qm,qt,qb,fs,fa,fc,ps,pa,pc,⟨hk',hst,ht,hn⟩⟩:=r;obtain⟨xk,xn,xv,xl⟩:=x;simp only[Rn.vals]at *
 subst hk;go_enter func309,ntmps309;go_upto_region 1 with fail;generalize ((w.alloc (.cells #[.string qm,.string qt,.slice fa fs.length fc,.string qb,.slice pa ps.length pc,.int .i64 hk',.int .i64 hst,.string ht,.string hn] 330)).alloc (.cells #[.int .i64 0,.string xn,.string xv,.int .i64 xl] 241)).alloc (.cells #[.int .i64 0,.slice none 0 0,.string ⟨#[]⟩,.bool false] 49)=w1 at *
 have la:=A1.lt;have HI1:=hid (λW (hW:Bw w1 W)=>HI.out W (Bc hA hW));have HA1:=hid A1;have hb1:=Ad w1.heap.size w1;have hbS:=hb1.alloc (Ac _) (.cells #[.string xv] 9);clear HI r0 r1 r2 r3 r4 r5 r6 r7 r8;go_upto_region 3 with fail
 cases G with
 |none=>
  go_region_dies
  all_goals go_wp2_with (first
    |(go_at_call 310;refine(HI1.out _ hb1.drew).mono ?_;rintro x wA ⟨rfl,hbA⟩;exact⟨rfl,rfl,Bc hA (Bc hb1.drew hbA)⟩)
    |(go_at_call 310;refine(HI1.out _ hbS.drew).mono ?_;rintro x wA ⟨rfl,hbA⟩;exact⟨rfl,rfl,Bc hA (Bc hbS.drew hbA)⟩))
 |some a=>
  have hlen:=hGl a rfl;have HW1:=hid (λ(wA:World) (vv:Value) (ow:wA.ownsRow w1.drew.heap.size 131 2 vv a.fs.length (Bg a.fs)) (hbA:Below w1.drew.heap.size w1.drew wA)=>Xv a vv xn [xv] (some ⟨wA.heap.size,0,none⟩) 1 w1 (wA.alloc (.cells #[.string xv] 9)) (Be ow (bA _ _)) (Bc (hb1.drew) (hbA.alloc hbA.size _)) (b5V (by rw[Ab (Ag wA _)];rfl)) (b5W (by simp)) (b5X (λe=>by have:=De ow _ e;omega)) (by simp;omega));have HW2:=hid (λ(wA:World) (vv:Value) (ow:wA.ownsRow (w1.alloc (.cells #[.string xv] 9)).drew.heap.size 131 2 vv a.fs.length (Bg a.fs)) (hbA:Below (w1.alloc (.cells #[.string xv] 9)).drew.heap.size (w1.alloc (.cells #[.string xv] 9)).drew wA)=>Xv a vv xn [xv] (some ⟨w1.heap.size,0,none⟩) 1 w1 wA (Bt ow hbS.drew.size) (Bc hbS.drew hbA) (b5V (Aa hbA (by show(w1.alloc (.cells #[.string xv] 9)).cell? _=_;rw[Ab (Ag w1 _)];rfl))) (b5W (by have:=(Bc hbS.drew hbA).size;have:=hbA.size;have e:(w1.alloc (.cells #[.string xv] 9)).drew.heap.size=w1.heap.size+1:=(by simp);omega)) (b5X (λe=>by have:=Bx ow _ e;have e:(w1.alloc (.cells #[.string xv] 9)).drew.heap.size=w1.heap.size+1:=(by simp);omega)) (by simp;omega));have HE:=hid (λ(fs:List Prm) (ax:Oa) (cx:Nat) (w3:World)=>a1T (a:=a) (fs:=fs) (ax:=ax) (cx:=cx) (w3:=w3) hA la HA1.out);generalize hFS:a.fs++[xv].map (λv=>(xn,v))=FSs at *
  have hFS2:a.fs++[(xn,xv)]=FSs:=hFS
  go_region_held3 (λW=>W.cell? ⟨w.heap.size+1,1,none⟩=some (.string xn)/\W.cell? ⟨w.heap.size+1,2,none⟩=some (.string xv)) (go_keep)
   (first
    |(go_at_call 310;refine(HI1.out _ hb1.drew).mono ?_;rintro x wA ⟨⟨vv,rfl,ow⟩,hbA⟩;have HW:=hid (HW1.out wA vv ow hbA);have e1:=Aa hbA x1;have e2:=Aa hbA x2;obtain⟨av,cv,rfl⟩:=Ce ow;clear ow)
    |(go_at_call 310;refine(HI1.out _ hbS.drew).mono ?_;rintro x wA ⟨⟨vv,rfl,ow⟩,hbA⟩;have HW:=hid (HW2.out wA vv ow hbA);have e1:=Aa (Bc hbS.drew hbA) x1;have e2:=Aa (Bc hbS.drew hbA) x2;obtain⟨av,cv,rfl⟩:=Ce ow;clear ow)
    |(go_at_call 351;refine HW.out.mono ?_;rintro x w3 ⟨ax,cx,rfl,o3,hb3⟩;obtain⟨A3,o4,hb4⟩:=HE.out FSs ax cx w3 o3 hb3;obtain⟨c0,c1,c2,c3⟩:=A3.cells;have f0:=A3.free 0;have f1:=A3.free 1;have f2:=A3.free 2;have f3:=A3.free 3;have l3:=A3.lt;obtain⟨d0,d1,d2,d3⟩:=(A3.set a.st (.slice ax FSs.length cx) a.b false).cells;unfold setA at d0 d1 d2 d3;have HF:=hid (And.intro o4 hb4);have e1:=Aa hb3 x1;have e2:=Aa hb3 x2;clear o3 o4))
  all_goals clear HW HW1 HW2 HE HI1 A1
  all_goals go_wp2_with fail
  all_goals
   refine Ae (v:=.agg #[.int .i64 a.st,.slice ax FSs.length cx,.string a.b,.bool false]) (by simp[results,results309,go_sem,d0,d1,d2,d3]) rfl ?_;have h1:=HF.out.1;have h2:=HF.out.2;clear HF hFS;subst hFS2;exact⟨⟨_,rfl,h1⟩,h2⟩
end Go.Proofs.YtbiggccolpchcaaGreatDoor
