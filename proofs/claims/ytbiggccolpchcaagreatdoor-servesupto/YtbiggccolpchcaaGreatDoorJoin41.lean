/- Joined. -/
import Derived.Test.YtbiggccolpchcaaGreatDoorJoin36
set_option maxRecDepth 100000
set_option maxHeartbeats 4000000
namespace Go.Proofs.YtbiggccolpchcaaGreatDoor
open Go.RowKit _root_.Go.Proofs.Tryz
theorem a7P{P:Program}{src e dst:TypeId}(hs:P.underlying src=some (.slice e))(he:P.underlying e=some (.int .u8))(hd:P.underlying dst=some .string){g o:Nat}{ds:L8}{w:World}(h:∀j (h:j<ds.length),w.cell? ⟨g,o+j,none⟩=some (.int .u8 (ds[j].toNat:Int)))(n cap:Nat)(hn:ds.length=n):
  (convert src dst (.slice (some ⟨g,o,none⟩) n cap)).run P w=.ok (.string ⟨ds.toArray⟩) w:=by
 have:=run_convert_bytes_arg (P:=P) w src e hs he g o n cap (ds.map (λc=>(c.toNat:Int))) (by rw[A8z,hn]) (λi hi=>by
  rw[h i (by omega)];simp[List.getD_eq_getElem?_getD,List.getElem?_map,Av (show i<ds.length by omega)]) dst hd
 rw[this]
 congr 2
 unfold strOfNums;rw[E6z]
 congr 2
 exact(List.map_congr_left (λc _=>by simp)).trans (List.map_id _)
theorem b7P{w:World}{g off n cap:Nat}{l:L8}(hn:l.length=n)(h:∀j (h:j<l.length),w.cell? ⟨g,off+j,none⟩=some (.int .u8 (l[j].toNat:Int))):(convert 211 9 (.slice (some ⟨g,off,none⟩) n cap)).run prog w=.ok (.string ⟨l.toArray⟩) w:=
 a7P underlying211 underlying5 underlying9 h n cap hn
theorem a3H{B:Nat}{w:World}{g off n cap:Nat}{l:L8}(h:Ex B 5 (.slice (some ⟨g,off,none⟩) n cap) (Lib.byteCells l) w)(k:Nat)(hk:k<=l.length):(convert 211 9 (.slice (some ⟨g,off,none⟩) k cap)).run prog w=.ok (.string ⟨(l.take k).toArray⟩) w:=by
 refine b7P (by rw[B0z];omega) (λj hj=>?_);rw[B0z]at hj;refine h.cell j _ ?_;unfold Lib.byteCells;rw[E3z,Av (by omega),List.getElem_take];rfl
theorem CnI.outs{V:Sv}{c:Nat}{vo v1 vo2:Value}{held:By}{out out2:L8}{rq:Nat}{cl:Bool}{w:World}(h:CnI V c vo held out rq cl w)(ho:Ex V.w1.heap.size 5 vo2 (Lib.byteCells out2) w)(hs:∀r,vo2.ownBlock=some r->vo.ownBlock=some r):(CnI V c vo2 held out2 rq cl (w.setCell ⟨c,2,none⟩ vo2)/\Kx [c] w (w.setCell ⟨c,2,none⟩ vo2))/\(CnI V c vo2 held out2 rq cl ((w.setCell ⟨c,2,none⟩ v1).setCell ⟨c,2,none⟩ vo2)/\Kx [c] w ((w.setCell ⟨c,2,none⟩ v1).setCell ⟨c,2,none⟩ vo2)):=by
 have k1:∀v (W:World),Kx [c] W (W.setCell ⟨c,2,none⟩ v):=λv W=>Kx.set _ _ (by simp);have hno:∀r,vo2.ownBlock=some r->r∉[c]:=λr hr hm=>by simp at hm;subst hm;exact h.o1 (hs _ hr)
 have o1:vo2.ownBlock≠some c:=λe=>h.o1 (hs _ e);have o2:vo2.ownBlock≠some V.s:=λe=>h.o2 (hs _ e);have o3:vo2.ownBlock≠some V.h:=λe=>h.o3 (hs _ e);have kk:=(k1 v1 w).trans (k1 vo2 _) (λ_ h=>.inl h);exact⟨⟨⟨Bj h.blk 2 vo2,ho.kx (k1 _ _) hno,h.ge,h.n1,h.n2,o1,o2,o3⟩,k1 _ _⟩,⟨⟨Bj (Bj h.blk 2 v1) 2 vo2,ho.kx kk hno,h.ge,h.n1,h.n2,o1,o2,o3⟩,kk⟩⟩
abbrev Lm(V:Sv)(c:Nat)(vo:Value)(held:By)(out:L8)(rq:Nat)(cl:Bool)(k:Nat)(w:World)(x:Ending)(w':World):Prop:=
 x=.returned (.tuple #[.string ⟨(out.take k).toArray⟩,.int .i64 0])/\∃vo2,CnI V c vo2 held (out.drop k) rq cl w'/\Kx [c] w w'/\(∀r,vo2.ownBlock=some r->vo.ownBlock=some r)/\(out.length<=k->vo2=.slice none 0 0)
theorem b7Q(V:Sv)(c:Nat)(g off cap:Nat)(held:By)(out:L8)(rq:Nat)(cl:Bool)(n:Int)(w:World)(J:CnI V c (.slice (some ⟨g,off,none⟩) out.length cap) held out rq cl w)(hn:(out.length:Int)<=n)(hc:out.length<=cap)(hm:cap<=maxLen):
  Calls prog 122 #[.pointer (some ⟨c,0,none⟩),.int .i64 n] w (Lm V c (.slice (some ⟨g,off,none⟩) out.length cap) held out rq cl out.length w):=by
 obtain⟨c0,c1,c2,c3,c4⟩:=J.cells;have lc:=J.lt;have z2:=Ai J.blk 2;have h0:¬n<0:=by omega
 have hmn:min n (out.length:Int)=(out.length:Int):=by omega
 have hlm:(out.length:Int)<=9223372036854775807:=by unfold maxLen at hm;omega
 have hlc:(out.length:Int)<=(cap:Int):=by omega
 have hcv:=a3H J.out out.length (Ac _);have HT:=hid (λv1=>(J.outs (v1:=v1) (out2:=[]) (Ex.nil V.w1.heap.size 5 w) (λr hr=>by simp[Value.ownBlock]at hr)).2);rw[E8z]at hcv;unfold Lm;rw[E8z,List.drop_length];clear J;go_enter func122,ntmps122;go_wp2
 all_goals
  refine Ae (results_tmp2 rfl _ _ _) rfl ?_;exact⟨rfl,_,(HT.out _).1,(HT.out _).2,λr hr=>by simp[Value.ownBlock]at hr,by first|rfl|exact λ_=>rfl⟩
theorem b2N(V:Sv)(c:Nat)(held:By)(rq:Nat)(cl:Bool)(n:Int)(w:World)(J:CnI V c (.slice none 0 0) held [] rq cl w)(hn:0<=n)(k:Nat):
  Calls prog 122 #[.pointer (some ⟨c,0,none⟩),.int .i64 n] w (Lm V c (.slice none 0 0) held [] rq cl k w):=by
 obtain⟨c0,c1,c2,c3,c4⟩:=J.cells;have lc:=J.lt;have z2:=Ai J.blk 2;have h0:¬n<0:=by omega
 have hmn:min n (0:Int)=(0:Int):=by omega
 have hcv:=run_convert_bytes_nil (P:=prog) w 211 5 underlying211 underlying5 0 0 9 underlying9;have HT:=hid (λv1=>(J.outs (v1:=v1) (out2:=[]) (Ex.nil V.w1.heap.size 5 w) (λr hr=>by simp[Value.ownBlock]at hr)).2);unfold Lm;rw[List.take_nil,List.drop_nil];clear J;go_enter func122,ntmps122;go_wp2
 all_goals
  refine Ae (results_tmp2 rfl _ _ _) rfl ?_;exact⟨rfl,_,(HT.out _).1,(HT.out _).2,λr hr=>by simp[Value.ownBlock]at hr,by first|rfl|exact λ_=>rfl⟩
theorem Ex.drop{B:Nat}{e:TypeId}{g off n cap:Nat}{xs:List Value}{w:World}(h:Ex B e (.slice (some ⟨g,off,none⟩) n cap) xs w)(k:Nat)(hk:k<=xs.length):Ex B e (.slice (some ⟨g,off+k,none⟩) (n-k) (cap-k)) (xs.drop k) w:=by
 rcases h with⟨h,_⟩|⟨g',off',cap',cur,h0,h1,h2,h3,h4,h5,h6⟩
 ·simp at h
 ·simp only[Value.slice.injEq,Option.some.injEq,Addr.mk.injEq,and_true]at h0;obtain⟨⟨rfl,rfl⟩,rfl,rfl⟩:=h0;refine .inr ⟨g,off+k,cap-k,cur,by rw[A6z],h1,h2,by rw[A6z];omega,by omega,by omega,?_⟩;rw[A6z,<-E2z]
  conv=>rhs;rw[<-h6]
  rw[List.drop_take]
theorem b2O(V:Sv)(c:Nat)(g off cap:Nat)(held:By)(out:L8)(rq:Nat)(cl:Bool)(k:Nat)(w:World)(J:CnI V c (.slice (some ⟨g,off,none⟩) out.length cap) held out rq cl w)(hn:k<out.length)(hc:out.length<=cap)(hm:cap<=maxLen):
  Calls prog 122 #[.pointer (some ⟨c,0,none⟩),.int .i64 k] w (Lm V c (.slice (some ⟨g,off,none⟩) out.length cap) held out rq cl k w):=by
 obtain⟨c0,c1,c2,c3,c4⟩:=J.cells;have lc:=J.lt;have z2:=Ai J.blk 2;have h0:¬(k:Int)<0:=by omega
 have hmn:min (k:Int) (out.length:Int)=(k:Int):=by omega
 have hlm:(out.length:Int)<=9223372036854775807:=by unfold maxLen at hm;omega
 have hlc:(k:Int)<=(cap:Int):=by omega
 have hl1:(k:Int)<=(out.length:Int):=by omega
 have hne:¬(cap=k):=by omega
 have hne2:¬(cap-k=0):=by omega
 have hnz:¬(out.length-k=0):=by omega
 have hnb:(((out.length-k:Nat):Int)==0)=false:=by simp;omega
 have hcv:=a3H J.out k (by omega);have bl:(Lib.byteCells out).drop k=Lib.byteCells (out.drop k):=by unfold Lib.byteCells;rw[List.map_drop]
 have HT:=hid (J.outs (v1:=.slice none 0 0) (vo2:=.slice (some ⟨g,off+k,none⟩) (out.length-k) (cap-k)) (out2:=out.drop k) (by rw[<-bl];exact J.out.drop k (by rw[Jl];omega)) (λr hr=>by simpa[Value.ownBlock]using hr)).1;clear J;go_enter func122,ntmps122;go_wp2;refine Ae (results_tmp2 rfl _ _ _) rfl ?_;exact⟨rfl,_,HT.out.1,HT.out.2,λr hr=>by simpa[Value.ownBlock]using hr,λh=>absurd h (by omega)⟩
theorem b7R(V:Sv)(c:Nat)(vo:Value)(held:By)(out:L8)(rq:Nat)(cl:Bool)(n:Int)(w:World)(J:CnI V c vo held out rq cl w)(hn:0<=n):
  Calls prog 122 #[.pointer (some ⟨c,0,none⟩),.int .i64 n] w (Lm V c vo held out rq cl n.toNat w):=by
 rcases J.out with⟨rfl,h⟩|⟨g,off,cap,cur,h0,h1,h2,h3,h4,h5,h6⟩
 ·have ho:out=[]:=by
   have:=congrArg List.length h;rw[Jl]at this;exact Ay this
  subst ho;exact b2N V c held rq cl n w J hn _
 ·rw[Jl]at h0 h3;subst h0;by_cases hk:n.toNat<out.length
  ·obtain⟨k,rfl⟩:∃k:Nat,n=k:=⟨n.toNat,by omega⟩;rw[Int.toNat_natCast]at hk ⊢;exact b2O V c g off cap held out rq cl k w J hk h3 h4
  ·have h:=b7Q V c g off cap held out rq cl n w J (by omega) h3 h4;unfold Lm at h ⊢;rw[E8z,List.drop_length]at h;rw[Aq (by omega),List.drop_of_length_le (by omega)];exact h.mono λx w' ⟨h1,vo2,h2,h3,h4,h5⟩=>⟨h1,vo2,h2,h3,h4,λ_=>h5 (Ac _)⟩
theorem c5D{c:Nat}{v1 v2 v3 v4:Value}{W W':World}(hk:W'.heap[c]?=W.heap[c]?)(h:W.cell? ⟨c,1,none⟩=some v1/\W.cell? ⟨c,2,none⟩=some v2/\W.cell? ⟨c,3,none⟩=some v3/\W.cell? ⟨c,4,none⟩=some v4):W'.cell? ⟨c,1,none⟩=some v1/\W'.cell? ⟨c,2,none⟩=some v2/\W'.cell? ⟨c,3,none⟩=some v3/\W'.cell? ⟨c,4,none⟩=some v4:=by
 rw[Au (w:=W) (a:=⟨c,1,none⟩) hk,Au (w:=W) (a:=⟨c,2,none⟩) hk,Au (w:=W) (a:=⟨c,3,none⟩) hk,Au (w:=W) (a:=⟨c,4,none⟩) hk];exact h
theorem a7Q(V:Sv)(c:Nat)(vo:Value)(held:By)(out:L8)(rq:Nat)(cl:Bool)(w:World)(J:CnI V c vo held out rq cl w):
  Calls prog 125 #[.pointer (some ⟨c,0,none⟩)] w λx w'=>x=.returned (.agg #[.int .i64 rq,.int .i64 held.size,.int .i64 out.length,.bool cl])/\Bw w w':=by
 have hA:=bA w (.cells #[.int .i64 0,.int .i64 0,.int .i64 0,.bool false] 124);have B1:=Ag w (.cells #[.int .i64 0,.int .i64 0,.int .i64 0,.bool false] 124);obtain⟨a,cp,e⟩:=J.out.sl;rw[Jl]at e;subst e;have J1:=J.below hA;obtain⟨c0,c1,c2,c3,c4⟩:=J1.cells;have lc:=J.lt;have lc1:=J1.lt;clear J J1;go_enter func125,ntmps125;go_upto_region 1 with fail;generalize w.alloc (.cells #[.int .i64 0,.int .i64 0,.int .i64 0,.bool false] 124)=w1 at *
 have d0:w1.cell? ⟨w.heap.size,0,none⟩=some (.int .i64 0):=by rw[Ab B1];rfl
 have d1:w1.cell? ⟨w.heap.size,1,none⟩=some (.int .i64 0):=by rw[Ab B1];rfl
 have d2:w1.cell? ⟨w.heap.size,2,none⟩=some (.int .i64 0):=by rw[Ab B1];rfl
 have d3:w1.cell? ⟨w.heap.size,3,none⟩=some (.bool false):=by rw[Ab B1];rfl
 have z0:=Ai B1 0;have z1:=Ai B1 1;have z2:=Ai B1 2;have z3:=Ai B1 3;have lq:=heap_lt B1;have hX:=a9J w.heap.size w1 (.int .i64 rq) (.int .i64 held.size) (.int .i64 out.length) (.bool cl);have BF:=Bj (Bj (Bj (Bj (show w1.heap[w.heap.size]?=some (.cells #[.int .i64 0,.int .i64 0,.int .i64 0,.bool false] 124 (0,0))from B1) 0 (.int .i64 rq)) 1 (.int .i64 held.size)) 2 (.int .i64 out.length)) 3 (.bool cl);have e0:=(Ab BF (j:=0)).trans (show _=some (Value.int .i64 rq)from rfl);have e1:=(Ab BF (j:=1)).trans (show _=some (Value.int .i64 held.size)from rfl);have e2:=(Ab BF (j:=2)).trans (show _=some (Value.int .i64 out.length)from rfl);have e3:=(Ab BF (j:=3)).trans (show _=some (Value.bool cl)from rfl);have hc0:c∉[w.heap.size]:=by simp;omega
 have HB:=hid (hA.trans (hX.below (B:=w.heap.size) (λb hb=>by simp at hb;omega) (F6z lq))).drew;have HX:=hid hX;clear BF hX B1
 go_region_held3 (λW=>W.cell? ⟨c,1,none⟩=some (.string held)/\W.cell? ⟨c,2,none⟩=some (.slice a out.length cp)/\W.cell? ⟨c,3,none⟩=some (.int .i64 rq)/\W.cell? ⟨c,4,none⟩=some (.bool cl)) (first|exact⟨c1,c2,c3,c4⟩|exact c5D (HX.out.2 c lc1 hc0) ⟨c1,c2,c3,c4⟩) (fail)
 go_wp2_with fail;refine Ae (v:=.agg #[.int .i64 rq,.int .i64 held.size,.int .i64 out.length,.bool cl]) (by simp[results,results125,go_sem,e0,e1,e2,e3]) rfl ?_;exact⟨rfl,HB.out⟩
theorem b2P(V:Sv)(c:Nat)(vo:Value)(held:By)(out:L8)(rq:Nat)(s:By)(w:World)(J:CnI V c vo held out rq true w):
  Calls prog 120 #[.pointer (some ⟨c,0,none⟩),.string s] w λx w'=>x=.returned (.int .i64 14)/\w'=w:=by
 obtain⟨c0,c1,c2,c3,c4⟩:=J.cells;have lc:=J.lt;clear J;go_enter func120,ntmps120;go_wp2_with fail
 go_step3
 go_wp2_with fail
 try rw[Exit.noGoto_ret]
 go_ret;exact⟨rfl,rfl⟩
end Go.Proofs.YtbiggccolpchcaaGreatDoor
namespace Go.Proofs.YtbiggccolpchcaaGreatDoor
open Go.RowKit Go.MuLone _root_.Go.Proofs.Tryz
theorem c3N(gs:Nat)(hd bd:Int)(hs:List Int)(n:Nat)(w2:World)(hn:n=hs.length):SvI ⟨w2.heap.size+1,gs,w2.heap.size,hd,bd,w2⟩ hs ((w2.alloc (.cells (hiC hs) 3)).alloc (.cells #[.int .i64 hd,.int .i64 bd,.pointer (some ⟨gs,0,none⟩),.int .i32 0,.int .u32 0,.slice (some ⟨w2.heap.size,0,none⟩) n n] 251)).drew:=by
 subst hn;have h1:=bA w2 (.cells (hiC hs) 3);have z1:(w2.alloc (.cells (hiC hs) 3)).heap.size=w2.heap.size+1:=by simp
 refine⟨(h1.alloc h1.size _).drew,?_,?_,Al _,Ac _,by show w2.heap.size+1≠w2.heap.size;omega⟩
 ·have:=Ag (w2.alloc (.cells (hiC hs) 3)) (.cells #[.int .i64 hd,.int .i64 bd,.pointer (some ⟨gs,0,none⟩),.int .i32 0,.int .u32 0,.slice (some ⟨w2.heap.size,0,none⟩) hs.length hs.length] 251);rw[z1]at this;exact this
 ·show((w2.alloc (.cells (hiC hs) 3)).alloc _).heap[w2.heap.size]?=_;rw[Ba _ _ _ (by rw[z1];omega)];exact Ag w2 _
theorem Wk(rs:List Rt):madeCells (Value.int .i64 0).cells rs.length=hiC (rs.map λ_=>0):=by
 apply Array.ext
 ·simp[madeCells]
 ·intro i h1 h2;simp[madeCells,Value.cells,Nat.mod_one]
theorem Yz:(prog.info? 3).map (λi=>(i.zero,i.size,i.bytes))=some (some (.int .i64 0),1,8):=by kernel_rfl
theorem b7S(V:Sv)(w:World):Calls prog 119 #[.pointer (some ⟨V.s,0,none⟩)] w λx w'=>x=.returned (.pointer (some ⟨w.heap.size,0,none⟩))/\w'=w.alloc (.cells (cnC V ⟨#[]⟩ (.slice none 0 0) 0 false) 255):=by
 go_enter func119,ntmps119;go_wp2;go_ret;exact⟨rfl,rfl⟩
theorem b2Q(V:Sv)(ps:Nat)(w:World)(hp:w.heap[ps]?=some (.cells #[.pointer (some ⟨V.s,0,none⟩)] 189 (0,0))):Calls prog 53 #[.pointer (some ⟨ps,0,none⟩)] w λx w'=>x=.returned (.pointer (some ⟨w.heap.size+1,0,none⟩))/\w'=(w.alloc (.cells (cnC V ⟨#[]⟩ (.slice none 0 0) 0 false) 255)).alloc (.cells #[.pointer (some ⟨w.heap.size,0,none⟩)] 206):=by
 have c0:w.cell? ⟨ps,0,none⟩=some (.pointer (some ⟨V.s,0,none⟩)):=by rw[Ab hp];rfl
 have lp:=heap_lt hp;clear hp;go_enter func53,ntmps53;go_wp2_with (go_at_call 119;refine(b7S V _).mono ?_;rintro x w' ⟨rfl,rfl⟩);go_ret;exact⟨by simp,rfl⟩
abbrev Lo(pc c:Nat)(w:World):Prop:=w.heap[pc]?=some (.cells #[.pointer (some ⟨c,0,none⟩)] 206 (0,0))
theorem a3I(pc c:Nat)(s:By)(e:Int)(Q:World->Prop)(w:World)(hp:Lo pc c w)(H:Calls prog 120 #[.pointer (some ⟨c,0,none⟩),.string s] w λx w'=>x=.returned (.int .i64 e)/\Q w'):Calls prog 55 #[.pointer (some ⟨pc,0,none⟩),.string s] w λx w'=>x=.returned (.int .i64 e)/\Q w':=by
 have c0:w.cell? ⟨pc,0,none⟩=some (.pointer (some ⟨c,0,none⟩)):=by rw[Ab hp];rfl
 have lp:=heap_lt hp;have HH:=hid H;clear hp H;go_enter func55,ntmps55;go_wp2_with (go_at_call 120;refine HH.out.mono ?_;rintro x w' ⟨rfl,hq⟩);go_ret;exact⟨rfl,hq⟩
theorem b7T(pc c:Nat)(n:Int)(t:By)(Q:World->Prop)(w:World)(hp:Lo pc c w)(H:Calls prog 122 #[.pointer (some ⟨c,0,none⟩),.int .i64 n] w λx w'=>x=.returned (.tuple #[.string t,.int .i64 0])/\Q w'):Calls prog 59 #[.pointer (some ⟨pc,0,none⟩),.int .i64 n] w λx w'=>x=.returned (.tuple #[.string t,.int .i64 0])/\Q w':=by
 have c0:w.cell? ⟨pc,0,none⟩=some (.pointer (some ⟨c,0,none⟩)):=by rw[Ab hp];rfl
 have lp:=heap_lt hp;have HH:=hid H;clear hp H;go_enter func59,ntmps59;go_wp2_with (go_at_call 122;refine HH.out.mono ?_;rintro x w' ⟨rfl,hq⟩);refine Ae (results_tmp2 rfl _ _ _) rfl ?_;exact⟨rfl,hq⟩
end Go.Proofs.YtbiggccolpchcaaGreatDoor
namespace Go.Proofs.YtbiggccolpchcaaGreatDoor
open Go.RowKit _root_.Go.Proofs.Tryz
abbrev stA(a b c:Int)(d:Bool):Array Value:=#[.int .i64 a,.int .i64 b,.int .i64 c,.bool d]
theorem a7R(pc c:Nat)(x0 x1 x2:Int)(x3:Bool)(w:World)(hp:Lo pc c w)(H:∀W,Bw w W->Calls prog 125 #[.pointer (some ⟨c,0,none⟩)] W λx w'=>x=.returned (.agg (stA x0 x1 x2 x3))/\Bw W w'):Calls prog 63 #[.pointer (some ⟨pc,0,none⟩)] w λx w'=>x=.returned (.agg (stA x0 x1 x2 x3))/\Bw w w':=by
 have hA:=bA w (.cells (stA 0 0 0 false) 124);have B1:=Ag w (.cells (stA 0 0 0 false) 124);have lp:=heap_lt hp;have hp1:Lo pc c (w.alloc (.cells (stA 0 0 0 false) 124)):=by unfold Lo;rw[hA.block pc lp];exact hp
 have c0:(w.alloc (.cells (stA 0 0 0 false) 124)).cell? ⟨pc,0,none⟩=some (.pointer (some ⟨c,0,none⟩)):=by rw[Ab hp1];rfl
 have lp1:=heap_lt hp1;have HH:=hid (H _ hA);clear hp H hp1;go_enter func63,ntmps63;go_wp2_with fail;generalize w.alloc (.cells (stA 0 0 0 false) 124)=w1 at *
 refine HH.out.mono ?_;rintro x w2 ⟨rfl,hb2⟩;have lq1:=heap_lt B1;have B2:w2.heap[w.heap.size]?=some (.cells (stA 0 0 0 false) 124 (0,0)):=by rw[hb2.block _ lq1];exact B1
 have d0:w2.cell? ⟨w.heap.size,0,none⟩=some (.int .i64 0):=by rw[Ab B2];rfl
 have d1:w2.cell? ⟨w.heap.size,1,none⟩=some (.int .i64 0):=by rw[Ab B2];rfl
 have d2:w2.cell? ⟨w.heap.size,2,none⟩=some (.int .i64 0):=by rw[Ab B2];rfl
 have d3:w2.cell? ⟨w.heap.size,3,none⟩=some (.bool false):=by rw[Ab B2];rfl
 have z0:=Ai B2 0;have z1:=Ai B2 1;have z2:=Ai B2 2;have z3:=Ai B2 3;have lq:=heap_lt B2;have hX:=a9J w.heap.size w2 (.int .i64 x0) (.int .i64 x1) (.int .i64 x2) (.bool x3);have BF:=Bj (Bj (Bj (Bj B2 0 (.int .i64 x0)) 1 (.int .i64 x1)) 2 (.int .i64 x2)) 3 (.bool x3);have e0:=(Ab BF (j:=0)).trans (show _=some (Value.int .i64 x0)from rfl);have e1:=(Ab BF (j:=1)).trans (show _=some (Value.int .i64 x1)from rfl);have e2:=(Ab BF (j:=2)).trans (show _=some (Value.int .i64 x2)from rfl);have e3:=(Ab BF (j:=3)).trans (show _=some (Value.bool x3)from rfl);have HB:=hid ((Bc hA hb2).trans (hX.below (B:=w.heap.size) (λb hb=>by simp at hb;omega) (F6z lq)));clear BF hX B1 B2 HH;go_wp2_with fail;refine Ae (v:=.agg (stA x0 x1 x2 x3)) (by simp[results,results63,go_sem,e0,e1,e2,e3]) rfl ?_;exact⟨rfl,HB.out⟩
theorem b7U(V:Sv)(c:Nat)(vo:Value)(held:By)(out:L8)(rq:Nat)(w:World)(J:CnI V c vo held out rq false w):
  Calls prog 121 #[.pointer (some ⟨c,0,none⟩)] w λx w'=>x=.returned (.int .i64 0)/\CnI V c vo ⟨#[]⟩ out rq true w'/\Kx [c] w w':=by
 have HC:=hid (Pt V c vo held out rq false w J);obtain⟨c0,c1,c2,c3,c4⟩:=J.cells;have lc:=J.lt;clear J;go_enter func121,ntmps121;go_wp2_with (go_at_call 175;refine HC.out.mono ?_;rintro x w' ⟨rfl,hj,hk⟩);go_ret;exact⟨rfl,hj,hk⟩
theorem b7V(V:Sv)(c:Nat)(vo:Value)(held:By)(out:L8)(rq:Nat)(w:World)(J:CnI V c vo held out rq true w):
  Calls prog 121 #[.pointer (some ⟨c,0,none⟩)] w λx w'=>x=.returned (.int .i64 14)/\w'=w:=by
 obtain⟨c0,c1,c2,c3,c4⟩:=J.cells;have lc:=J.lt;clear J;go_enter func121,ntmps121;go_wp2;go_ret;exact⟨rfl,rfl⟩
theorem a9M(pc c:Nat)(e:Int)(Q:World->Prop)(w:World)(hp:Lo pc c w)(H:Calls prog 121 #[.pointer (some ⟨c,0,none⟩)] w λx w'=>x=.returned (.int .i64 e)/\Q w'):Calls prog 57 #[.pointer (some ⟨pc,0,none⟩)] w λx w'=>x=.returned (.int .i64 e)/\Q w':=by
 have c0:w.cell? ⟨pc,0,none⟩=some (.pointer (some ⟨c,0,none⟩)):=by rw[Ab hp];rfl
 have lp:=heap_lt hp;have HH:=hid H;clear hp H;go_enter func57,ntmps57;go_wp2_with (go_at_call 121;refine HH.out.mono ?_;rintro x w' ⟨rfl,hq⟩);go_ret;exact⟨rfl,hq⟩
end Go.Proofs.YtbiggccolpchcaaGreatDoor
namespace Go.Proofs.YtbiggccolpchcaaGreatDoor
open Go.RowKit Go.MuLone _root_.Go.Proofs.Tryz
structure Nw2(hd bd:Int)(rs:List Rt)(ws:List Wr)(w:World)(x:Ending)(w':World):Prop where
 e:(Et hd bd rs ws).2≠0->x=.returned (.tuple #[.pointer none,.int .i64 (Et hd bd rs ws).2])/\Bw w w'
 o:(Et hd bd rs ws).2=0->∃s gs h w1 es v vh vw,x=.returned (.tuple #[.pointer (some ⟨s,0,none⟩),.int .i64 0])/\StI gs gs es (rs.map Rt.h) ws v vh vw w1/\es.map Ent.bare=rs.map Cd/\Bw w w1/\w.heap.size<gs/\SvI ⟨s,gs,h,hd,bd,w1⟩ (rs.map λ_=>0) w'
structure Pn2(hd bd:Int)(rs:List Rt)(ws:List Wr)(w:World)(x:Ending)(w':World):Prop where
 e:(Et hd bd rs ws).2≠0->x=.returned (.tuple #[.pointer none,.int .i64 (Et hd bd rs ws).2])/\Bw w w'
 o:(Et hd bd rs ws).2=0->∃ps s gs h w1 es v vh vw,x=.returned (.tuple #[.pointer (some ⟨ps,0,none⟩),.int .i64 0])/\w'.heap[ps]?=some (.cells #[.pointer (some ⟨s,0,none⟩)] 189 (0,0))/\StI gs gs es (rs.map Rt.h) ws v vh vw w1/\es.map Ent.bare=rs.map Cd/\Bw w w1/\w.heap.size<gs/\SvI ⟨s,gs,h,hd,bd,w1⟩ (rs.map λ_=>0) w'/\w1.heap.size<=ps/\ps≠s/\ps≠h
theorem b2R(hd bd:Int)(rs:List Rt)(ws:List Wr)(ar:Oa)(cr:Nat)(aw:Oa)(cw:Nat)(mx:Int)(w:World)(hR:Da 6 Rt.cells rs ar w)(hW:Da 4 Wr.cells ws aw w)(hro:∀r∈rs,RtOk r)(hwo:∀x∈ws,x.n.size<=281474976710656/\x.v.size<=281474976710656)(hm:w.cell? ⟨0,0,none⟩=some (.int .i64 mx)):
  Calls prog 113 #[.agg #[.int .i64 hd,.int .i64 bd,.slice ar rs.length cr,.slice aw ws.length cw]] w (Nw2 hd bd rs ws w):=by
 have hl2:=λh=>(Iv (hd:=hd) (bd:=bd) (rs:=rs) (ws:=ws) h).1;have HN:=hid (λW (hb:Bw w W)=>b9R hd bd rs ws ar cr aw cw mx W (hR.below hb) (hW.below hb) hro hwo (Aa hb hm));have hA:=bA w (.cells #[.int .i64 hd,.int .i64 bd,.slice ar rs.length cr,.slice aw ws.length cw] 44);have b1:=Ag w (.cells #[.int .i64 hd,.int .i64 bd,.slice ar rs.length cr,.slice aw ws.length cw] 44);have q0:(w.alloc (.cells #[.int .i64 hd,.int .i64 bd,.slice ar rs.length cr,.slice aw ws.length cw] 44)).cell? ⟨w.heap.size,0,none⟩=some (.int .i64 hd):=by rw[Ab b1];rfl
 have q1:(w.alloc (.cells #[.int .i64 hd,.int .i64 bd,.slice ar rs.length cr,.slice aw ws.length cw] 44)).cell? ⟨w.heap.size,1,none⟩=some (.int .i64 bd):=by rw[Ab b1];rfl
 have q2:(w.alloc (.cells #[.int .i64 hd,.int .i64 bd,.slice ar rs.length cr,.slice aw ws.length cw] 44)).cell? ⟨w.heap.size,2,none⟩=some (.slice ar rs.length cr):=by rw[Ab b1];rfl
 have q3:(w.alloc (.cells #[.int .i64 hd,.int .i64 bd,.slice ar rs.length cr,.slice aw ws.length cw] 44)).cell? ⟨w.heap.size,3,none⟩=some (.slice aw ws.length cw):=by rw[Ab b1];rfl
 have HX:=hid (λx w' e o=>(⟨e,o⟩:Nw2 hd bd rs ws w x w'));generalize Et hd bd rs ws=E at *
 clear hR hW hro hwo hm b1;go_enter func113,ntmps113;go_wp2_with fail;generalize w.alloc (.cells #[.int .i64 hd,.int .i64 bd,.slice ar rs.length cr,.slice aw ws.length cw] 44)=w1 at *
 refine(HN.out _ hA).mono ?_;rintro x w2 ⟨k1,k2,hb2⟩;by_cases hE:E.2=0
 ·have hq:(E.2 != 0)=false:=by rw[hE];rfl
  obtain⟨gs,es,v,vh,vw,rfl,hgs,hes,hSt⟩:=k2 hE;have p0:=Aa hb2 q0;have p1:=Aa hb2 q1;have p2:=Aa hb2 q2;have p3:=Aa hb2 q3;have lq:=Ap p0;have hl24:=hl2 hE;obtain⟨i0,hi,hz0,hz1,hz2⟩:=info_parts Yz;have g0:(0:Int)<=(rs.length:Int):=by omega
  have g1:(rs.length:Int)<=24:=by omega
  have hmk:=run_make (P:=prog) w2.drew 38 3 i0 (.int .i64 0) underlying38 hi hz0 .i64 .i64 (rs.length:Int) (rs.length:Int) g0 (Int.le_refl _) (by rw[hz2];omega) (by omega);simp only[Int.toNat_natCast,hz1,Nat.mul_one]at hmk;rw[Wk rs]at hmk;go_upto_region 4 with fail
  go_region
  go_wp2_with fail;refine Ae (results_tmp2 rfl _ _ _) rfl ?_;exact HX.out _ _ (λe=>absurd hE e) (λ_=>⟨w2.heap.size+1,gs,w2.heap.size,w2,es,v,vh,vw,rfl,hSt,hes,Bc hA hb2,F7z hA.size hgs,c3N _ _ _ _ _ _ (by simp)⟩)
 ·have hq:(E.2 != 0)=true:=by simpa using hE
  have hx:=k1 hE;subst hx;have HB:=hid (Bc hA hb2);go_wp2_with fail;refine Ae (results_tmp2 rfl _ _ _) rfl ?_;exact HX.out _ _ (λ_=>⟨rfl,HB.out⟩) (λe=>absurd e hE)
theorem b2S(hd bd:Int)(rs:List Rt)(ws:List Wr)(ar:Oa)(cr:Nat)(aw:Oa)(cw:Nat)(mx:Int)(w:World)(hR:Da 6 Rt.cells rs ar w)(hW:Da 4 Wr.cells ws aw w)(hro:∀r∈rs,RtOk r)(hwo:∀x∈ws,x.n.size<=281474976710656/\x.v.size<=281474976710656)(hm:w.cell? ⟨0,0,none⟩=some (.int .i64 mx)):
  Calls prog 46 #[.agg #[.int .i64 hd,.int .i64 bd,.slice ar rs.length cr,.slice aw ws.length cw]] w (Pn2 hd bd rs ws w):=by
 have HN:=hid (λW (hb:Bw w W)=>b2R hd bd rs ws ar cr aw cw mx W (hR.below hb) (hW.below hb) hro hwo (Aa hb hm));have hA:=bA w (.cells #[.int .i64 hd,.int .i64 bd,.slice ar rs.length cr,.slice aw ws.length cw] 44);have HX:=hid (λx w' e o=>(⟨e,o⟩:Pn2 hd bd rs ws w x w'));have hN2:∀W x w',Nw2 hd bd rs ws W x w'->((Et hd bd rs ws).2≠0->x=.returned (.tuple #[.pointer none,.int .i64 (Et hd bd rs ws).2])/\Bw W w')/\((Et hd bd rs ws).2=0->∃s gs h w1 es v vh vw,x=.returned (.tuple #[.pointer (some ⟨s,0,none⟩),.int .i64 0])/\StI gs gs es (rs.map Rt.h) ws v vh vw w1/\es.map Ent.bare=rs.map Cd/\Bw W w1/\W.heap.size<gs/\SvI ⟨s,gs,h,hd,bd,w1⟩ (rs.map λ_=>0) w'):=λW x w' h=>⟨h.e,h.o⟩;have HN2:=hid hN2;clear hN2;generalize Et hd bd rs ws=E at *
 clear hR hW hro hwo hm;go_enter func46,ntmps46;go_wp2_with fail;generalize w.alloc (.cells #[.int .i64 hd,.int .i64 bd,.slice ar rs.length cr,.slice aw ws.length cw] 44)=w1 at *
 refine(HN.out _ hA).mono ?_;intro x w2 hx2;obtain⟨he,ho⟩:=HN2.out _ _ _ hx2;clear hx2 HN2;by_cases hE:E.2=0
 ·have hq:(E.2 != 0)=false:=by rw[hE];rfl
  obtain⟨s,gs,h,W1,es,v,vh,vw,rfl,hSt,hes,hB,hgs,hI⟩:=ho hE;clear he ho;have hb3:=bA w2 (.cells #[.pointer (some ⟨s,0,none⟩)] 189);have B3:=Ag w2 (.cells #[.pointer (some ⟨s,0,none⟩)] 189);have HI:=hid (hI.below hb3);have l1:s<w2.heap.size:=hI.ls;have l2:h<w2.heap.size:=hI.lh;have l3:=hI.bel.size;have HSt:=hid hSt;clear hSt HN hI;go_wp2_with fail;refine Ae (results_tmp2 rfl _ _ _) rfl ?_;exact HX.out _ _ (λe=>absurd hE e) (λ_=>⟨w2.heap.size,s,gs,h,W1,es,v,vh,vw,rfl,B3,HSt.out,hes,Bc hA hB,F7z hA.size hgs,HI.out,l3,by omega,by omega⟩)
 ·have hq:(E.2 != 0)=true:=by simpa using hE
  obtain⟨rfl,hB⟩:=he hE;have HB:=hid (Bc hA hB);clear he ho HN;go_wp2_with fail;refine Ae (results_tmp2 rfl _ _ _) rfl ?_;exact HX.out _ _ (λ_=>⟨rfl,HB.out⟩) (λe=>absurd e hE)
theorem b2T(V:Sv)(hs:List Int)(w:World)(I:SvI V hs w)(hl:hs.length<=1000000):
  Calls prog 117 #[.pointer (some ⟨V.s,0,none⟩)] w λx w'=>(∃v,x=.returned v/\w'.ownsRow w.heap.size 3 1 v hs.length (hs.map (Value.int .i64)))/\SvI V hs w'/\Kx [V.s] w w':=by
 obtain⟨-,-,-,s3,-,s5⟩:=I.cells;have ls:=I.ls;have z3:w.frozen? ⟨V.s,3,none⟩=false:=Ai I.blk 3;have t5:=(World.cell?_setCell_other w ⟨V.s,3,none⟩ ⟨V.s,5,none⟩ (.int .i32 1) (by simp)).trans s5;have hcl:∀j,j<hs.length->(w.setCell ⟨V.s,3,none⟩ (.int .i32 1)).cell? ⟨V.h,0+j,none⟩=some (.int .i64 (hs.getD j 0)):=λj hj=>by
  rw[C1z,World.cell?_setCell_other _ _ _ _ (by simp;intro h;exact absurd h I.ne),Ab I.hit,Rm hj];simp[List.getD_eq_getElem?_getD]
 have HC:=hid (Tryz.slices_Clone_int V.h 0 hs.length hs.length hs (w.setCell ⟨V.s,3,none⟩ (.int .i32 1)) (Ac _) (by omega) hcl);have k1:Kx [V.s] w (w.setCell ⟨V.s,3,none⟩ (.int .i32 1)):=Kx.set _ _ (by simp);have B1:=Bj I.blk 3 (.int .i32 1);have c1:=World.cell?_setCell_same w ⟨V.s,3,none⟩ (.int .i32 1) s3;have HI:=hid I;clear hcl I
 go_enter_defers func117,ntmps117
 go_wp2_with (go_at_call 168;refine(lock_free Tryz.muLib ⟨V.s,3,none⟩ _ s3 z3).mono ?_;rintro e w' ⟨rfl,rfl⟩);refine HC.out.mono ?_;rintro x w2 ⟨vv,rfl,ow,hnn,hb2⟩;have zz:(w.setCell ⟨V.s,3,none⟩ (.int .i32 1)).heap.size=w.heap.size:=by simp[World.setCell]
 have lz:=hb2.size;rw[zz]at hb2 lz;obtain⟨g,cap,cur,rfl,hg,hgh,-,-,-,htk⟩:∃g cap cur,vv=.slice (some ⟨g,0,none⟩) hs.length cap/\w.heap.size<=g/\w2.heap[g]?=some (.cells cur 3 (0,0))/\hs.length<=cap/\cap<=maxLen/\cur.size=cap*1/\cur.toList.take (hs.length*1)=(hs.take hs.length).map (Value.int .i64):=by
  rcases ow.2 with⟨h,-⟩|⟨g,cap,cur,h1,h2,h3,h4,h5,h6,h7⟩
  ·exact absurd h hnn
  ·exact⟨g,cap,cur,h1,by rw[zz]at h2;exact h2,h3,h4,h5,h6,h7⟩
 have B2:w2.heap[V.s]?=some (.cells (svC V 1 hs.length) 251 (0,0)):=by rw[hb2.block V.s ls];exact B1
 have c2:w2.cell? ⟨V.s,3,none⟩=some (.int .i32 1):=by rw[Ab B2];rfl
 have y2:w2.frozen? ⟨V.s,3,none⟩=false:=Ai B2 3;have k2:Kx [V.s] w2 (w2.setCell ⟨V.s,3,none⟩ (.int .i32 0)):=Kx.set _ _ (by simp);have kk:Kx [V.s] w (w2.setCell ⟨V.s,3,none⟩ (.int .i32 0)):=(k1.trans (Kx.of (L:=[]) (by show Below _ _ _;rw[zz];exact hb2)) (λb hb=>by simp at hb)).trans k2 (λ_ h=>.inl h);have hne:=HI.out.ne;have gne:V.s≠g:=by omega
 have II:SvI V hs (w2.setCell ⟨V.s,3,none⟩ (.int .i32 0)):=⟨HI.out.bel.trans (kk.below (λb hb=>by simp at hb;have:=HI.out.ge1;omega) HI.out.bel.size),Bj B2 3 (.int .i32 0),kk.heap HI.out.hit (by simp;omega),HI.out.ge1,HI.out.ge2,hne⟩;have HF:Hid ((w2.setCell ⟨V.s,3,none⟩ (.int .i32 0)).ownsRow w.heap.size 3 1 (.slice (some ⟨g,0,none⟩) hs.length cap) hs.length (hs.map (Value.int .i64))):=by
  rw[E8z,zz]at ow;exact Es ow (λr hr=>Aw _ _ _ _ (λe=>by simp[Value.ownBlock]at hr;simp at e;omega))
 have HII:=hid II;have HKK:=hid kk;clear II kk k1 k2 HC HI ow B1 B2 hgh htk;go_wp2_with fail;refine leaves_cons (f:=169) (args:=#[.pointer (some ⟨V.s,3,none⟩)]) (by simp) (by simp[go_sem]) ?_;refine(unlock_deferred Tryz.muLib ⟨V.s,3,none⟩ .returning _ c2 y2).mono ?_;rintro e u' w'' ⟨rfl,rfl,rfl⟩;exact⟨_,results_tmp rfl _ _ _,⟨.slice (some ⟨g,0,none⟩) hs.length cap,rfl,HF.out⟩,HII.out,HKK.out⟩
theorem a7S(V:Sv)(ps:Nat)(hs:List Int)(w:World)(hp:w.heap[ps]?=some (.cells #[.pointer (some ⟨V.s,0,none⟩)] 189 (0,0)))(I:SvI V hs w)(hl:hs.length<=1000000):
  Calls prog 49 #[.pointer (some ⟨ps,0,none⟩)] w λx w'=>(∃v,x=.returned v/\w'.ownsRow w.heap.size 3 1 v hs.length (hs.map (Value.int .i64)))/\SvI V hs w'/\Kx [V.s] w w':=by
 have c0:w.cell? ⟨ps,0,none⟩=some (.pointer (some ⟨V.s,0,none⟩)):=by rw[Ab hp];rfl
 have lp:=heap_lt hp;have HH:=hid (b2T V hs w I hl);clear hp I;go_enter func49,ntmps49;go_wp2_with (go_at_call 117;refine HH.out.mono ?_;rintro x w' ⟨⟨vv,rfl,hh⟩,hi,hk⟩);go_ret;exact⟨⟨_,rfl,hh⟩,hi,hk⟩
theorem b7W(c:Nat)(n:Int)(hn:n<0)(w:World):Calls prog 122 #[.pointer (some ⟨c,0,none⟩),.int .i64 n] w λx w'=>x=.returned (.tuple #[.string ⟨#[]⟩,.int .i64 1])/\w'=w:=by
 go_enter func122,ntmps122;go_wp2_with fail;refine Ae (results_tmp2 rfl _ _ _) rfl ?_;exact⟨rfl,rfl⟩
theorem b2U(pc c:Nat)(n:Int)(hn:n<0)(w:World)(hp:Lo pc c w):Calls prog 59 #[.pointer (some ⟨pc,0,none⟩),.int .i64 n] w λx w'=>x=.returned (.tuple #[.string ⟨#[]⟩,.int .i64 1])/\w'=w:=by
 have c0:w.cell? ⟨pc,0,none⟩=some (.pointer (some ⟨c,0,none⟩)):=by rw[Ab hp];rfl
 have lp:=heap_lt hp;have HH:=hid (b7W c n hn w);clear hp;go_enter func59,ntmps59;go_wp2_with (go_at_call 122;refine HH.out.mono ?_;rintro x w' ⟨rfl,rfl⟩);refine Ae (results_tmp2 rfl _ _ _) rfl ?_;exact⟨rfl,rfl⟩
end Go.Proofs.YtbiggccolpchcaaGreatDoor
