/- Joined. -/
import Derived.Test.YtbiggccolpchcaaGreatDoorJoin34
import Derived.Deep.MidRow
set_option maxRecDepth 100000
set_option maxHeartbeats 8000000
namespace Go.Proofs.YtbiggccolpchcaaGreatDoor
open Go.RowKit Bn _root_.Go.Proofs.Tryz
section
variable{O:Nat->Nat}{wb:Nat}{V:Nat->Value}{l:Nat->List Value}{vs:Value}{tb:List Pr}{n:Nat}{w0 w:World}
end
def Zh(c n:Int):Int:=(if c<0 then -(c+1)else c) % n
theorem Wx(c n:Int)(w:World)(h1:-9223372036854775808<=c)(h2:c<=9223372036854775807)(hn:0<n)(hn2:n<=9223372036854775807):
  Calls prog 14 #[.int .i64 c,.int .i64 n] w λe w'=>e=.returned (.int .i64 (Zh c n))/\w'=w:=by
 unfold Zh;by_cases hc:c<0
 ·rw[if_pos hc];have w1:IntKind.i64.wrap (c+1)=c+1:=by simp[IntKind.wrap,IntKind.bits,IntKind.signed];omega
  have w2:IntKind.i64.wrap (-(c+1))=-(c+1):=by simp[IntKind.wrap,IntKind.bits,IntKind.signed];omega
  have hz:¬n=0:=by omega
  go_enter func14,ntmps14;go_wp2;go_ret;refine⟨?_,rfl⟩;rw[show -(c+1).tmod n=-(c+1) % n from by rw[<-Int.neg_tmod,Int.tmod_eq_emod_of_nonneg (by omega)]];rfl
 ·rw[if_neg hc];have hz:¬n=0:=by omega
  go_enter func14,ntmps14;go_wp2;go_ret;exact⟨rfl,rfl⟩
theorem a4C(c:Int)(n:Nat)(hn:0<n):∃k:Nat,k<n/\Zh c n=(k:Int):=by
 unfold Zh;have h:=Int.emod_nonneg (if c<0 then -(c+1)else c) (show(n:Int)≠0 by omega);have h2:=Int.emod_lt_of_pos (if c<0 then -(c+1)else c) (show(0:Int)<n by omega);exact⟨((if c<0 then -(c+1)else c) % n).toNat,by omega,by omega⟩
structure OpOk(o:OpV):Prop where
 on0:-9223372036854775808<=o.on
 on1:o.on<=9223372036854775807
 s:o.s.size<=1048576
 t:o.t.size<=1048576
section
variable{O:Nat->Nat}{wb:Nat}{V:Nat->Value}{l:Nat->List Value}{vs:Value}{tb:List Pr}{n:Nat}{w0 w:World}
end
abbrev wlZ:Array Value:=#[.slice none 0 0,.slice none 0 0,.slice none 0 0,.slice none 0 0,.slice none 0 0,.slice none 0 0,.slice none 0 0]
def opZ(k:Int)(s t:By):OpV:=⟨k,0,0,s,t,none,0,0,0,0,0,0,none,0,0,none,0,0,⟨#[]⟩,⟨#[]⟩,none,0,0,⟨#[]⟩,0,none,0,0,⟨#[]⟩,false⟩
def a8C(os:List OpV)(a:Oa)(w:World):Prop:=∀i (h:i<os.length),∃g o,a=some ⟨g,o,none⟩/\g<w.heap.size/\w.rangeAt g (o+i*20) (os[i]).cs.toList
theorem a8C.below{os:List OpV}{a:Oa}{w w':World}(h:a8C os a w)(hb:Bw w w'):a8C os a w':=λi hi=>by
 obtain⟨g,o,e1,e2,e3⟩:=h i hi;exact⟨g,o,e1,Af e2 hb.size,λj v hj=>Aa hb (e3 j v hj)⟩
theorem Ot(w:World)(t:TypeId):∀(vs pre suf:List Value),suf.length=vs.length->(w.alloc (.cells (pre++suf).toArray t)).setCells w.heap.size pre.length vs=w.alloc (.cells (pre++vs).toArray t)
 |[],pre,suf,h=>by
  have:suf=[]:=Ay h;subst this;rfl
 |v::r,pre,[],h=>by simp at h
 |v::r,pre,s::s',h=>by
  rw[World.setCells,World.setCell_alloc_new];have e:(pre++s::s').toArray.setIfInBounds pre.length v=((pre++[v])++s').toArray:=by simp
  have e2:pre.length+1=(pre++[v]).length:=by simp
  rw[e,e2,Ot w t r (pre++[v]) s' (by simpa using h)];simp
theorem Px{P:Program}{ops:Array Oper}{rest:List Oper}{op:Oper}{a:Act}{Q:Exit->Act->World->Prop}(hgd:op.guard=none)(ty:TypeId)(x y:Operand)(ho:op.op=.store ty x y)
  (w0:World) (t:TypeId) (z cells:Array Value) (hz:z.size=cells.size) (hx:a.eval x=.pointer (some ⟨w0.heap.size,0,none⟩)) (hy:a.eval y=.agg cells)
  (hi:(P.info? ty).map (·.size)=some cells.size) (h1:cells.all (·.oneCell')=true)
  (h:wpList P ops Q rest (a.put op.dst undef) (w0.alloc (.cells cells t))):wpList P ops Q (op::rest) a (w0.alloc (.cells z t)):=by
 refine wpList_store_mid hgd ty x y ho w0.heap.size 0 cells hx hy ?_ hi h1 ?_
 ·intro j hj;have hj':j<z.size:=by omega
  have hh:(w0.alloc (.cells z t)).heap[w0.heap.size]?=some (.cells z t):=Ag w0 _;refine⟨?_,?_⟩
  ·unfold World.cell?;simp only[hh];simp[hj']
  ·unfold World.frozen?;simp only[hh];simp
 ·have e:=Ot w0 t cells.toList [] z.toList (by simpa using hz);simp only[F4z,C0z,Array.toArray_toList]at e;rw[e];exact h
theorem c1G(o:OpV):o.cs.all (·.oneCell')=true:=by simp[OpV.cs,Value.oneCell']
section
def RdH(wb g n vc k ob:Nat)(px pr:Value)(on:Int)(cs:List Value)(W:World):Prop:=W.cell? ⟨wb,5,none⟩=some (.slice (some ⟨g,0,none⟩) n vc)/\W.cell? ⟨g,k*2,none⟩=some px/\W.cell? ⟨g,k*2+1,none⟩=some pr/\W.cell? ⟨ob,1,none⟩=some (.int .i64 on)/\W.rangeAt ob 0 cs
theorem b3K{wb g n vc k ob:Nat}{px pr:Value}{on:Int}{cs:List Value}{W W':World}(hb:Bw W W')(h:RdH wb g n vc k ob px pr on cs W):RdH wb g n vc k ob px pr on cs W':=
 ⟨Aa hb h.1,Aa hb h.2.1,Aa hb h.2.2.1,Aa hb h.2.2.2.1,λj v hj=>Aa hb (h.2.2.2.2 j v hj)⟩
theorem b8O(wb g vc k len:Nat)(px pr:Value)(kk on:Int)(x2 x3 x4 x5 x6 x7 x8 x9 x10 x11 x12 x13 x14 x15 x16 x17 x18 x19:Value)(Q:World->Prop)(w wB:World)(ob:Nat)(hwB:w.alloc (.cells #[.int .i64 kk,.int .i64 on,x2,x3,x4,x5,x6,x7,x8,x9,x10,x11,x12,x13,x14,x15,x16,x17,x18,x19] 51)=wB)(hob:w.heap.size=ob)(f0:wB.cell? ⟨ob,0,none⟩=some (.int .i64 kk))(e0:¬kk<20)(e1:(kk==20)=false)(e2:¬kk<30)(e3:(kk==30)=false)(e45:(kk==31)=true\/(kk==31)=false/\(kk==32)=true)(e7:(0:Int)<(len:Int))(e8:(k:Int)<(len:Int))(_lw:wb<wB.heap.size)
  (HPK:Hid (∀W,Calls prog 14 #[.int .i64 on,.int .i64 len] W λe w'=>e=.returned (.int .i64 (k:Int))/\w'=W))
  (HRD:Hid (RdH wb g len vc k ob px pr on [.int .i64 kk,.int .i64 on,x2,x3,x4,x5,x6,x7,x8,x9,x10,x11,x12,x13,x14,x15,x16,x17,x18,x19] wB))
  (HTB:Hid (∀W,Bw wB W->Calls prog 16 #[.pointer (some ⟨wb,0,none⟩),.agg #[px,pr],.agg #[.int .i64 kk,.int .i64 on,x2,x3,x4,x5,x6,x7,x8,x9,x10,x11,x12,x13,x14,x15,x16,x17,x18,x19]] W λr w'=>r=.returned (.bool true)/\RdH wb g len vc k ob px pr on [.int .i64 kk,.int .i64 on,x2,x3,x4,x5,x6,x7,x8,x9,x10,x11,x12,x13,x14,x15,x16,x17,x18,x19] w'/\Q w')) :
  Calls prog 8 #[.pointer (some ⟨wb,0,none⟩),.agg #[.int .i64 kk,.int .i64 on,x2,x3,x4,x5,x6,x7,x8,x9,x10,x11,x12,x13,x14,x15,x16,x17,x18,x19]] w λr w'=>r=.returned (.bool true)/\Q w' :=by
 obtain⟨r0,r1,r2,f1,-⟩:=HRD.out;have HRE:=hid (b3K ((Ad wB.heap.size wB).drew) HRD.out);have l1:=Ap f0;have l2:=Ap r1;have HWB:=hid hwB;have HOB:=hid hob;clear hwB hob;rcases e45 with e4|⟨e4,e5⟩
 all_goals
  go_enter func8,ntmps8;go_upto_region 1 with fail;rw[HWB.out,HOB.out];go_upto_region 10 with fail;have hcl:(prog.info? 51).map (·.size)=some ([.int .i64 kk,.int .i64 on,x2,x3,x4,x5,x6,x7,x8,x9,x10,x11,x12,x13,x14,x15,x16,x17,x18,x19]:List Value).length:=by kernel_rfl
  generalize [.int .i64 kk,.int .i64 on,x2,x3,x4,x5,x6,x7,x8,x9,x10,x11,x12,x13,x14,x15,x16,x17,x18,x19]=cs at *
  have HCL:=hid hcl;clear hcl;refine wp_region_held_drew (S:=λW=>W.cell? ⟨wb,5,none⟩=some (.slice (some ⟨g,0,none⟩) len vc)/\W.cell? ⟨g,k*2,none⟩=some px/\W.cell? ⟨g,k*2+1,none⟩=some pr/\W.cell? ⟨ob,1,none⟩=some (.int .i64 on)/\W.rangeAt ob 0 cs) (by kernel_rfl) HRE.out (λhHeld=>?_)
  refine' wpAnyH_take (i:=15) (oi:={dst:=some 87,op:=Op.load 51 (Operand.tmp 3),type:=51,pos:= "play.go:214",after:=#[],guard:=none}) (v:=_) rfl (by kernel_rfl) (by kernel_rfl) (by kernel_rfl) (λ_ _ _ h=>h) (yieldsIf_load_mid (by rfl) _ _ rfl _ _ rfl cs _ (λw hSw=>hSw.2.2.2.2) underlying51 rfl HCL.out) (by assumption) ?_
  (try simp only[Act.put,A2z,A7z,A5z])
  refine wpAnyH_take (i:=0) (oi:={dst:=some 72,op:=Op.move (Operand.tmp 0),type:=26,pos:= "play.go:214",after:=#[],guard:=none}) (v:=?_) rfl (by kernel_rfl) (by kernel_rfl) (by kernel_rfl) (λ_ _ _ h=>h) (Or.inl ⟨by rfl,?_⟩) (by assumption) ?_
  rotate_left
  ·intro w hSw;(try dsimp only at hSw);go_simp;(try with_reducible rfl)
  (try simp only[Act.put,A2z,A7z,A5z])
  refine wpAnyH_take (i:=1) (oi:={dst:=some 73,op:=Op.move (Operand.tmp 0),type:=26,pos:= "play.go:214",after:=#[],guard:=none}) (v:=?_) rfl (by kernel_rfl) (by kernel_rfl) (by kernel_rfl) (λ_ _ _ h=>h) (Or.inl ⟨by rfl,?_⟩) (by assumption) ?_
  rotate_left
  ·intro w hSw;(try dsimp only at hSw);go_simp;(try with_reducible rfl)
  (try simp only[Act.put,A2z,A7z,A5z])
  refine wpAnyH_take (i:=2) (oi:={dst:=some 74,op:=Op.nilCheck (Operand.tmp 73),type:=0,pos:= "play.go:214",after:=#[{on:=1,ground:=Ground.data}],guard:=none}) (v:=?_) rfl (by kernel_rfl) (by kernel_rfl) (by kernel_rfl) (λ_ _ _ h=>h) (Or.inl ⟨by rfl,?_⟩) (by assumption) ?_
  rotate_left
  ·intro w hSw;(try dsimp only at hSw);go_simp;(try with_reducible rfl)
  (try simp only[Act.put,A2z,A7z,A5z])
  refine wpAnyH_take (i:=3) (oi:={dst:=some 75,op:=Op.fieldAddr 37 (Operand.tmp 74) 2,type:=0,pos:= "play.go:214",after:=#[{on:=2,ground:=Ground.data}],guard:=none}) (v:=?_) rfl (by kernel_rfl) (by kernel_rfl) (by kernel_rfl) (λ_ _ _ h=>h) (Or.inl ⟨by rfl,?_⟩) (by assumption) ?_
  rotate_left
  ·intro w hSw;(try dsimp only at hSw);go_simp;(try with_reducible rfl)
  (try simp only[Act.put,A2z,A7z,A5z])
  refine wpAnyH_take (i:=4) (oi:={dst:=some 76,op:=Op.load 34 (Operand.tmp 75),type:=34,pos:= "play.go:214",after:=#[{on:=3,ground:=Ground.data}],guard:=none}) (v:=?_) rfl (by kernel_rfl) (by kernel_rfl) (by kernel_rfl) (λ_ _ _ h=>h) (Or.inl ⟨by rfl,?_⟩) (by assumption) ?_
  rotate_left
  ·intro w hSw;(try dsimp only at hSw);go_simp;(try with_reducible rfl)
  (try simp only[Act.put,A2z,A7z,A5z])
  refine wpAnyH_take (i:=5) (oi:={dst:=some 77,op:=Op.fieldAddr 51 (Operand.tmp 3) 1,type:=0,pos:= "play.go:214",after:=#[],guard:=none}) (v:=?_) rfl (by kernel_rfl) (by kernel_rfl) (by kernel_rfl) (λ_ _ _ h=>h) (Or.inl ⟨by rfl,?_⟩) (by assumption) ?_
  rotate_left
  ·intro w hSw;(try dsimp only at hSw);go_simp;(try with_reducible rfl)
  (try simp only[Act.put,A2z,A7z,A5z])
  refine wpAnyH_take (i:=6) (oi:={dst:=some 78,op:=Op.load 3 (Operand.tmp 77),type:=3,pos:= "play.go:214",after:=#[{on:=5,ground:=Ground.data}],guard:=none}) (v:=?_) rfl (by kernel_rfl) (by kernel_rfl) (by kernel_rfl) (λ_ _ _ h=>h) (Or.inl ⟨by rfl,?_⟩) (by assumption) ?_
  rotate_left
  ·intro w hSw;(try dsimp only at hSw);go_simp;(try with_reducible rfl)
  (try simp only[Act.put,A2z,A7z,A5z])
  refine wpAnyH_take (i:=7) (oi:={dst:=some 79,op:=Op.move (Operand.tmp 0),type:=26,pos:= "play.go:214",after:=#[],guard:=none}) (v:=?_) rfl (by kernel_rfl) (by kernel_rfl) (by kernel_rfl) (λ_ _ _ h=>h) (Or.inl ⟨by rfl,?_⟩) (by assumption) ?_
  rotate_left
  ·intro w hSw;(try dsimp only at hSw);go_simp;(try with_reducible rfl)
  (try simp only[Act.put,A2z,A7z,A5z])
  refine wpAnyH_take (i:=8) (oi:={dst:=some 80,op:=Op.nilCheck (Operand.tmp 79),type:=0,pos:= "play.go:214",after:=#[{on:=7,ground:=Ground.data}],guard:=none}) (v:=?_) rfl (by kernel_rfl) (by kernel_rfl) (by kernel_rfl) (λ_ _ _ h=>h) (Or.inl ⟨by rfl,?_⟩) (by assumption) ?_
  rotate_left
  ·intro w hSw;(try dsimp only at hSw);go_simp;(try with_reducible rfl)
  (try simp only[Act.put,A2z,A7z,A5z])
  refine wpAnyH_take (i:=9) (oi:={dst:=some 81,op:=Op.fieldAddr 37 (Operand.tmp 80) 2,type:=0,pos:= "play.go:214",after:=#[{on:=8,ground:=Ground.data}],guard:=none}) (v:=?_) rfl (by kernel_rfl) (by kernel_rfl) (by kernel_rfl) (λ_ _ _ h=>h) (Or.inl ⟨by rfl,?_⟩) (by assumption) ?_
  rotate_left
  ·intro w hSw;(try dsimp only at hSw);go_simp;(try with_reducible rfl)
  (try simp only[Act.put,A2z,A7z,A5z])
  refine wpAnyH_take (i:=10) (oi:={dst:=some 82,op:=Op.load 34 (Operand.tmp 81),type:=34,pos:= "play.go:214",after:=#[{on:=9,ground:=Ground.data}],guard:=none}) (v:=?_) rfl (by kernel_rfl) (by kernel_rfl) (by kernel_rfl) (λ_ _ _ h=>h) (Or.inl ⟨by rfl,?_⟩) (by assumption) ?_
  rotate_left
  ·intro w hSw;(try dsimp only at hSw);go_simp;(try with_reducible rfl)
  (try simp only[Act.put,A2z,A7z,A5z])
  refine wpAnyH_take (i:=11) (oi:={dst:=some 83,op:=Op.call {callee:=Callee.builtin Builtin.len,args:=#[Operand.tmp 82],argTypes:=#[34]},type:=3,pos:= "play.go:214",after:=#[{on:=10,ground:=Ground.data}],guard:=none}) (v:=?_) rfl (by kernel_rfl) (by kernel_rfl) (by kernel_rfl) (λ_ _ _ h=>h) (Or.inl ⟨by rfl,?_⟩) (by assumption) ?_
  rotate_left
  ·intro w hSw;(try dsimp only at hSw);go_simp;(try with_reducible rfl)
  (try simp only[Act.put,A2z,A7z,A5z])
  refine wpAnyH_ready (rs:=[12]) (by kernel_rfl) (by simp) ?_;refine AllReadyH.cons (o:={dst:=some 84,op:=Op.call {callee:=Callee.value (Operand.func 14),args:=#[Operand.tmp 78,Operand.tmp 83],argTypes:=#[3,3]},type:=3,pos:= "play.go:214",after:=#[{on:=6,ground:=Ground.data},{on:=11,ground:=Ground.data}],guard:=none}) rfl (λK hK=>?_) AllReadyH.nil;go_simp;refine(HPK.out _).mono ?_;rintro e w' ⟨rfl,hw'⟩;have hw2:=hw'.symm;subst hw2
  try go_wp2_with fail
  refine hK.out _ _ HRE.out (λhHeld2=>?_);clear hK K
  (try simp only[Act.put,A2z,A7z,A5z])
  refine wpAnyH_take (i:=13) (oi:={dst:=some 85,op:=Op.indexAddr 34 (Operand.tmp 76) (Operand.tmp 84),type:=0,pos:= "play.go:214",after:=#[{on:=4,ground:=Ground.data},{on:=12,ground:=Ground.data}],guard:=none}) (v:=?_) rfl (by kernel_rfl) (by kernel_rfl) (by kernel_rfl) (λ_ _ _ h=>h) (Or.inl ⟨by rfl,?_⟩) (by assumption) ?_
  rotate_left
  ·intro w hSw;(try dsimp only at hSw);go_simp;(try with_reducible rfl)
  (try simp only[Act.put,A2z,A7z,A5z])
  refine wpAnyH_take (i:=14) (oi:={dst:=some 86,op:=Op.load 66 (Operand.tmp 85),type:=66,pos:= "play.go:214",after:=#[{on:=13,ground:=Ground.data}],guard:=none}) (v:=?_) rfl (by kernel_rfl) (by kernel_rfl) (by kernel_rfl) (λ_ _ _ h=>h) (Or.inl ⟨by rfl,?_⟩) (by assumption) ?_
  rotate_left
  ·intro w hSw;(try dsimp only at hSw);go_simp;(try with_reducible rfl)
  (try simp only[Act.put,A2z,A7z,A5z])
  refine wpAnyH_ready (rs:=[16]) (by kernel_rfl) (by simp) ?_;refine AllReadyH.cons (o:={dst:=some 88,op:=Op.call {callee:=Callee.value (Operand.func 16),args:=#[Operand.tmp 72,Operand.tmp 86,Operand.tmp 87],argTypes:=#[26,66,51]},type:=4,pos:= "play.go:214",after:=#[{on:=0,ground:=Ground.data},{on:=14,ground:=Ground.data},{on:=15,ground:=Ground.data},{on:=12,ground:=Ground.chain}],guard:=none}) rfl (λK hK=>?_) AllReadyH.nil;go_simp;refine(HTB.out _ ((Ad _ _).drew)).mono ?_;rintro r w4 ⟨rfl,hS4,hX⟩;have HX:=hid hX;clear hX
  try go_wp2_with fail
  refine hK.out _ _ hS4 (λhHeld3=>?_);clear hK K
  (try simp only[Act.put,A2z,A7z,A5z])
  refine wpAnyH_take (i:=17) (oi:={dst:=some 4,op:=Op.assign (Operand.tmp 88),type:=4,pos:= "play.go:214",after:=#[{on:=16,ground:=Ground.data},{on:=16,ground:=Ground.chain},{on:=0,ground:=Ground.phase},{on:=1,ground:=Ground.phase},{on:=2,ground:=Ground.phase},{on:=3,ground:=Ground.phase},{on:=4,ground:=Ground.phase},{on:=5,ground:=Ground.phase},{on:=6,ground:=Ground.phase},{on:=7,ground:=Ground.phase},{on:=8,ground:=Ground.phase},{on:=9,ground:=Ground.phase},{on:=10,ground:=Ground.phase},{on:=11,ground:=Ground.phase},{on:=12,ground:=Ground.phase},{on:=13,ground:=Ground.phase},{on:=14,ground:=Ground.phase},{on:=15,ground:=Ground.phase},{on:=16,ground:=Ground.phase}],guard:=none}) (v:=?_) rfl (by kernel_rfl) (by kernel_rfl) (by kernel_rfl) (λ_ _ _ h=>h) (Or.inl ⟨by rfl,?_⟩) (by assumption) ?_
  rotate_left
  ·intro w hSw;(try dsimp only at hSw);go_simp;(try with_reducible rfl)
  (try simp only[Act.put,A2z,A7z,A5z])
  refine wpAnyH_done (by kernel_rfl) ?_ _;go_wp2_with fail;go_ret;exact⟨rfl,HX.out⟩
end
end Go.Proofs.YtbiggccolpchcaaGreatDoor
