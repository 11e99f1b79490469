/- Joined. -/
import Derived.Test.YtbiggccolpchcaaGreatDoorSvF
import Derived.Test.YtbiggccolpchcaaGreatDoorJoin25
import Derived.Test.YtbiggccolpchcaaGreatDoorJoin34
import Derived.Test.YtbiggccolpchcaaGreatDoorRnD
import Derived.Test.YtbiggccolpchcaaGreatDoorJoin29
set_option maxRecDepth 100000
set_option maxHeartbeats 4000000
namespace Go.Proofs.YtbiggccolpchcaaGreatDoor
open Go.RowKit _root_.Go.Proofs.Tryz
abbrev anZ:Array Value:=#[.int .i64 0,.slice none 0 0,.string ⟨#[]⟩,.bool false]
abbrev anA(st:Int)(v:Value)(b:By)(cl:Bool):Array Value:=#[.int .i64 st,v,.string b,.bool cl]
abbrev rqA(qm qt qb:By)(fa:Oa)(fn fc:Nat):Array Value:=#[.string qm,.string qt,.slice fa fn fc,.string qb]
structure AuI(st:Int)(n:Nat)(xs:List Value)(b:By)(cl:Bool)(w2:World)(ab:Nat)(W:World):Prop where
 bel:Bw w2 W
 ge:w2.heap.size<=ab
 x:∃pa pc,W.heap[ab]?=some (.cells (anA st (.slice pa n pc) b cl) 49 (0,0))/\W.ownsRow w2.heap.size 131 2 (.slice pa n pc) n xs/\(Value.slice pa n pc).ownBlock≠some ab
theorem Fl{w:World}{B:Nat}{e:TypeId}{sz:Nat}{v:Value}{n:Nat}{xs:List Value}(h:w.ownsRow B e sz v n xs){r:Nat}(hr:v.ownBlock=some r):B<=r/\r<w.heap.size:=by
 rcases h.2 with⟨rfl,-⟩|⟨g,cap,cur,rfl,h1,h2,-⟩
 ·simp[Value.ownBlock]at hr
 ·simp[Value.ownBlock]at hr;subst hr;exact⟨h1,heap_lt h2⟩
theorem Es{w w':World}{B:Nat}{e:TypeId}{sz:Nat}{v:Value}{n:Nat}{xs:List Value}(h:w.ownsRow B e sz v n xs)(hk:∀r,v.ownBlock=some r->w'.heap[r]?=w.heap[r]?):w'.ownsRow B e sz v n xs:=by
 obtain⟨q1,q2⟩:=h;refine⟨q1,?_⟩;rcases q2 with q2|⟨r,cap,cur,hv,hB,hgr,q3⟩
 ·exact .inl q2
 ·exact .inr ⟨r,cap,cur,hv,hB,by rw[hk r (by rw[hv];rfl)];exact hgr,q3⟩
theorem Gu{w:World}{B B':Nat}{e:TypeId}{sz:Nat}{v:Value}{n:Nat}{xs:List Value}(h:w.ownsRow B e sz v n xs)(hb:B'<=B):w.ownsRow B' e sz v n xs:=by
 refine⟨h.1,?_⟩;rcases h.2 with h|⟨g,cap,cur,hv,h1,h2⟩
 ·exact .inl h
 ·exact .inr ⟨g,cap,cur,hv,Aj hb h1,h2⟩
theorem a9I{w1 w2:World}(hb:Below (w1.drew.alloc (.cells anZ 49)).heap.size (w1.drew.alloc (.cells anZ 49)) w2):w2.cell? ⟨w1.heap.size,0,none⟩=some (.int .i64 0)/\w2.cell? ⟨w1.heap.size,1,none⟩=some (.slice none 0 0)/\w2.cell? ⟨w1.heap.size,2,none⟩=some (.string ⟨#[]⟩)/\w2.cell? ⟨w1.heap.size,3,none⟩=some (.bool false)/\w2.frozen? ⟨w1.heap.size,0,none⟩=false/\w2.frozen? ⟨w1.heap.size,1,none⟩=false/\w2.frozen? ⟨w1.heap.size,2,none⟩=false/\w2.frozen? ⟨w1.heap.size,3,none⟩=false:=by
 have h:w2.heap[w1.heap.size]?=some (.cells anZ 49 (0,0)):=Fc (w1:=w1.drew) hb;refine⟨?_,?_,?_,?_,Ai h 0,Ai h 1,Ai h 2,Ai h 3⟩<;>(rw[Ab h];rfl)
theorem Pq{w1 w2:World}(h:Bw w1 w2)(a b c d:Value):Bw w1 ((((w2.setCell ⟨w1.heap.size,0,none⟩ a).setCell ⟨w1.heap.size,1,none⟩ b).setCell ⟨w1.heap.size,2,none⟩ c).setCell ⟨w1.heap.size,3,none⟩ d):=
 (((h.setCell (Ac _) _).setCell (Ac _) _).setCell (Ac _) _).setCell (Ac _) _
theorem a9J(g:Nat)(w:World)(a b c d:Value):Kx [g] w ((((w.setCell ⟨g,0,none⟩ a).setCell ⟨g,1,none⟩ b).setCell ⟨g,2,none⟩ c).setCell ⟨g,3,none⟩ d):=
 (((Kx.set (L:=[g]) ⟨g,0,none⟩ a (by simp)).trans (Kx.set (L:=[g]) ⟨g,1,none⟩ b (by simp)) (λ_ h=>.inl h)).trans (Kx.set (L:=[g]) ⟨g,2,none⟩ c (by simp)) (λ_ h=>.inl h)).trans (Kx.set (L:=[g]) ⟨g,3,none⟩ d (by simp)) (λ_ h=>.inl h)
theorem b6Z{st:Int}{n:Nat}{xs:List Value}{b:By}{cl:Bool}{w1 w2:World}{B:Nat}{pa:Oa}{pc:Nat}(h:Bw w1 w2)(ho:w2.ownsRow B 131 2 (.slice pa n pc) n xs)(hB:w1.heap.size<=B):AuI st n xs b cl w1 w2.heap.size (w2.alloc (.cells (anA st (.slice pa n pc) b cl) 49)):=
 ⟨h.alloc h.size _,h.size,pa,pc,Ag w2 _,Gu (Es ho (λr hr=>Ba _ _ _ (Fl ho hr).2)) hB,λe=>by have:=(Fl ho e).2;omega⟩
theorem b7A{st:Int}{n:Nat}{xs:List Value}{b:By}{cl:Bool}{w1 w2:World}{pa:Oa}{pc:Nat}(h:Bw w1 w2)(hf:w2.heap[w1.heap.size]?=some (.cells anZ 49 (0,0)))(ho:w2.ownsRow (w1.heap.size+1) 131 2 (.slice pa n pc) n xs):AuI st n xs b cl w1 w1.heap.size ((((w2.setCell ⟨w1.heap.size,0,none⟩ (.int .i64 st)).setCell ⟨w1.heap.size,1,none⟩ (.slice pa n pc)).setCell ⟨w1.heap.size,2,none⟩ (.string b)).setCell ⟨w1.heap.size,3,none⟩ (.bool cl)):=by
 have hb:=Bj (Bj (Bj (Bj hf 0 (.int .i64 st)) 1 (.slice pa n pc)) 2 (.string b)) 3 (.bool cl);have hno:∀r,(Value.slice pa n pc).ownBlock=some r->r≠w1.heap.size:=λr hr=>by have:=(Fl ho hr).1;omega
 refine⟨Pq h _ _ _ _,Ac _,pa,pc,hb,Gu (Es ho (λr hr=>?_)) (Al _),λe=>hno _ e rfl⟩;rw[Aw _ _ _ _ (hno r hr),Aw _ _ _ _ (hno r hr),Aw _ _ _ _ (hno r hr),Aw _ _ _ _ (hno r hr)]
theorem c4Y{s gs q:Nat}{qm qt qb:By}{v:Value}{w1 W:World}(h1:w1.cell? ⟨s,2,none⟩=some (.pointer (some ⟨gs,0,none⟩)))(h2:w1.cell? ⟨q,0,none⟩=some (.string qm))(h3:w1.cell? ⟨q,1,none⟩=some (.string qt))(h4:w1.cell? ⟨q,2,none⟩=some v)(h5:w1.cell? ⟨q,3,none⟩=some (.string qb))(hb:Bw w1 W):Bw w1 W/\W.cell? ⟨s,2,none⟩=some (.pointer (some ⟨gs,0,none⟩))/\W.cell? ⟨q,0,none⟩=some (.string qm)/\W.cell? ⟨q,1,none⟩=some (.string qt)/\W.cell? ⟨q,2,none⟩=some v/\W.cell? ⟨q,3,none⟩=some (.string qb):=
 ⟨hb,Aa hb h1,Aa hb h2,Aa hb h3,Aa hb h4,Aa hb h5⟩
theorem b2F(V:Sv)(hs hs2:List Int)(qm qt qb:By)(fa:Oa)(fn fc:Nat)(st e:Int)(n:Nat)(xs:List Value)(b:By)(cl:Bool)(w:World)(I:SvI V hs w)
  (HC:∀W,Bw w W->Calls prog 233 #[.pointer (some ⟨V.s,0,none⟩),.agg (rqA qm qt qb fa fn fc)] W λx w'=>x=.returned (.tuple #[])/\SvI V hs2 w'/\Kx [V.s,V.h] W w')
  (HR:∀W,Below V.w1.heap.size V.w1 W->Kx [V.s,V.h] w W->Calls prog 148 #[.pointer (some ⟨V.gs,0,none⟩),.agg (rqA qm qt qb fa fn fc)] W λx w'=>(∃pa pc,x=.returned (.tuple #[.agg (anA st (.slice pa n pc) b cl),.int .i64 e])/\w'.ownsRow W.heap.size 131 2 (.slice pa n pc) n xs)/\Bw W w') :
  Calls prog 173 #[.pointer (some ⟨V.s,0,none⟩),.agg (rqA qm qt qb fa fn fc)] w λx w'=>(∃pa pc,x=.returned (.agg (anA st (.slice pa n pc) b cl))/\w'.ownsRow w.heap.size 131 2 (.slice pa n pc) n xs)/\SvI V hs2 w'/\Kx [V.s,V.h] w w':=by
 have hA1:=bA w (.cells (rqA qm qt qb fa fn fc) 47);have hA:=hA1.alloc hA1.size (.cells anZ 49);have b1:((w.alloc (.cells (rqA qm qt qb fa fn fc) 47)).alloc (.cells anZ 49)).heap[w.heap.size]?=some (.cells (rqA qm qt qb fa fn fc) 47 (0,0)):=by
  rw[Ba _ _ _ (by simp)];exact Ag w _
 have b2:((w.alloc (.cells (rqA qm qt qb fa fn fc) 47)).alloc (.cells anZ 49)).heap[w.heap.size+1]?=some (.cells anZ 49 (0,0)):=by
  have:=Ag (w.alloc (.cells (rqA qm qt qb fa fn fc) 47)) (.cells anZ 49);rw[show(w.alloc (.cells (rqA qm qt qb fa fn fc) 47)).heap.size=w.heap.size+1 by simp]at this;exact this
 have q0:((w.alloc (.cells (rqA qm qt qb fa fn fc) 47)).alloc (.cells anZ 49)).cell? ⟨w.heap.size,0,none⟩=some (.string qm):=by rw[Ab b1];rfl
 have q1:((w.alloc (.cells (rqA qm qt qb fa fn fc) 47)).alloc (.cells anZ 49)).cell? ⟨w.heap.size,1,none⟩=some (.string qt):=by rw[Ab b1];rfl
 have q2:((w.alloc (.cells (rqA qm qt qb fa fn fc) 47)).alloc (.cells anZ 49)).cell? ⟨w.heap.size,2,none⟩=some (.slice fa fn fc):=by rw[Ab b1];rfl
 have q3:((w.alloc (.cells (rqA qm qt qb fa fn fc) 47)).alloc (.cells anZ 49)).cell? ⟨w.heap.size,3,none⟩=some (.string qb):=by rw[Ab b1];rfl
 have HCC:=hid (HC _ hA);have HRR:=hid HR;have HB1:=hid b1;have HB2:=hid b2;have ls:=I.ls;have lh:=I.lh;clear HC HR b1 b2;go_enter func173,ntmps173;go_wp2_with fail;generalize (w.alloc (.cells (rqA qm qt qb fa fn fc) 47)).alloc (.cells anZ 49)=w1 at *
 refine HCC.out.mono ?_;rintro x w2 ⟨rfl,I2,hK2⟩;have hK:Kx [V.s,V.h] w w2:=(Kx.of hA).trans hK2 (λb hb=>.inl hb);have nq:w.heap.size∉[V.s,V.h]:=by simp;omega
 have na:w.heap.size+1∉[V.s,V.h]:=by simp;omega
 have B1:=hK2.heap HB1.out nq;have B2:=hK2.heap HB2.out na;have lq:=heap_lt B1;have la:=heap_lt B2;have p0:w2.cell? ⟨w.heap.size,0,none⟩=some (.string qm):=by rw[Ab B1];rfl
 have p1:w2.cell? ⟨w.heap.size,1,none⟩=some (.string qt):=by rw[Ab B1];rfl
 have p2:w2.cell? ⟨w.heap.size,2,none⟩=some (.slice fa fn fc):=by rw[Ab B1];rfl
 have p3:w2.cell? ⟨w.heap.size,3,none⟩=some (.string qb):=by rw[Ab B1];rfl
 obtain⟨-,-,s2,-,-,-⟩:=I2.cells;have HRW:=hid (λW (hb:Bw w2 W)=>HRR.out W (I2.bel.trans (hb.mono I2.bel.size)) (hK.next hb));have HI2:=hid I2;have HHK:=hid hK;have HBA:=hid B2;clear HRR HCC HB1 HB2 q0 q1 q2 q3 hK2 hK B1 B2 I2;go_upto_region 2 with fail;go_cut [5]from 6 (λp wx=>∃ab,p=.pointer (some ⟨ab,0,none⟩)/\Hid (AuI st n xs b cl w2 ab wx))
 case first=>
  go_region_held3 (λW=>Bw w2 W/\W.cell? ⟨V.s,2,none⟩=some (.pointer (some ⟨V.gs,0,none⟩))/\W.cell? ⟨w.heap.size,0,none⟩=some (.string qm)/\W.cell? ⟨w.heap.size,1,none⟩=some (.string qt)/\W.cell? ⟨w.heap.size,2,none⟩=some (.slice fa fn fc)/\W.cell? ⟨w.heap.size,3,none⟩=some (.string qb)) ((refine c4Y s2 p0 p1 p2 p3 ?_;first|exact(Ad _ _).drew|(have hh:=(‹_/\_/\_/\_/\_/\_›).1;first|exact hh.alloc hh.size _|exact hh.drew|exact hB3|exact hB3.alloc hB3.size _|exact Pq hB3 _ _ _ _))) (first|(go_at_call 148;refine(HRW.out (w2.drew.alloc (.cells anZ 49)) (‹_/\_/\_/\_/\_/\_›).1).mono ?_;rintro x w3 ⟨⟨pa,pc,rfl,ow⟩,hb3⟩;have hB3:=Bc (‹_/\_/\_/\_/\_/\_›).1 hb3;have F3:=Fc (w1:=w2.drew) hb3;obtain⟨f0,f1,f2,f3,z0,z1,z2,z3⟩:=a9I hb3)|(go_at_call 148;refine(HRW.out w2.drew (‹_/\_/\_/\_/\_/\_›).1).mono ?_;rintro x w3 ⟨⟨pa,pc,rfl,ow⟩,hb3⟩;have hB3:=Bc (‹_/\_/\_/\_/\_/\_›).1 hb3))
  all_goals (go_wp2_with fail;go_meet)
  all_goals first|exact⟨_,rfl,b6Z hB3 ow (Ac _)⟩|exact⟨_,rfl,b7A hB3 F3 (Gu ow (by simp))⟩
 case rest=>
  obtain⟨ab,rfl,HAU⟩:=hcut;obtain⟨hB,hge,pa,pc,hbk,ho,hno⟩:=HAU.out;have c0:wc.cell? ⟨ab,0,none⟩=some (.int .i64 st):=by rw[Ab hbk];rfl
  have c1:wc.cell? ⟨ab,1,none⟩=some (.slice pa n pc):=by rw[Ab hbk];rfl
  have c2:wc.cell? ⟨ab,2,none⟩=some (.string b):=by rw[Ab hbk];rfl
  have c3:wc.cell? ⟨ab,3,none⟩=some (.bool cl):=by rw[Ab hbk];rfl
  have BA:wc.heap[w.heap.size+1]?=some (.cells anZ 49 (0,0)):=by rw[hB.block _ la];exact HBA.out
  have d0:wc.cell? ⟨w.heap.size+1,0,none⟩=some (.int .i64 0):=by rw[Ab BA];rfl
  have d1:wc.cell? ⟨w.heap.size+1,1,none⟩=some (.slice none 0 0):=by rw[Ab BA];rfl
  have d2:wc.cell? ⟨w.heap.size+1,2,none⟩=some (.string ⟨#[]⟩):=by rw[Ab BA];rfl
  have d3:wc.cell? ⟨w.heap.size+1,3,none⟩=some (.bool false):=by rw[Ab BA];rfl
  have z0:=Ai BA 0;have z1:=Ai BA 1;have z2:=Ai BA 2;have z3:=Ai BA 3;have BF:=Bj (Bj (Bj (Bj BA 0 (.int .i64 st)) 1 (.slice pa n pc)) 2 (.string b)) 3 (.bool cl);have e0:=(Ab BF (j:=0)).trans (show _=some (Value.int .i64 st)from rfl);have e1:=(Ab BF (j:=1)).trans (show _=some (Value.slice pa n pc)from rfl);have e2:=(Ab BF (j:=2)).trans (show _=some (Value.string b)from rfl);have e3:=(Ab BF (j:=3)).trans (show _=some (Value.bool cl)from rfl);have lz:=hB.size;have g1:=I.ge1;have hX:=a9J (w.heap.size+1) wc (.int .i64 st) (.slice pa n pc) (.string b) (.bool cl);have HI:=hid ((HI2.out.below hB).kx hX (λx hx=>by simp at hx;omega) (by simp;omega) (by simp;omega));have HK:=hid ((HHK.out.next hB).trans hX (λx hx=>.inr (by simp at hx;omega)));have HO:=hid (Gu (Es ho (λr hr=>hX.2 r (Fl ho hr).2 (by have:=(Fl ho hr).1;simp;omega))) (show w.heap.size<=w2.heap.size by omega));clear HRW HI2 HHK HBA HAU hbk BF BA hX ho;go_wp2_with fail;refine Ae (v:=.agg (anA st (.slice pa n pc) b cl)) (by simp[results,results173,go_sem,e0,e1,e2,e3]) rfl ?_;exact⟨⟨pa,pc,rfl,HO.out⟩,HI.out,HK.out⟩
section
variable{P:Program}(w:World)
theorem Ue{o:Oper}{a:Act}{K:Act->World->Prop}{Q:Exit->Act->World->Prop}(sl x:Operand)(t u:TypeId)
  (ho:o.op=.call {callee:=.builtin .append,args:=#[sl,x],argTypes:=#[t,u]})
  (B:Nat) (e:TypeId) (i:TypeInfo) (ht:P.underlying t=some (.slice e)) (hu:P.underlying u=some .string) (hi:P.info? e=some i) (hz:i.zero=some (.int .u8 0))
  (hsize:i.size=1) (hby:i.bytes=1)
  (v:Value) (xs:List Value) (hs:a.eval sl=v) (hown:Ex B e v xs w) (s:By) (hx:a.eval x=.string s)
  (hbytes:xs.length+s.size<=140737488355328) (hB:B<=w.heap.size)
  (h:∀(ad:Oa) (n cap:Nat) w',Ex B e (.slice ad n cap) (xs++Lib.strCells s) w'->w.grownBy w' v.ownBlock->(∀r,(Value.slice ad n cap).ownBlock=some r->v.ownBlock=some r\/w.heap.size<=r)->K (a.put o.dst (.slice ad n cap)) w'):Oper.wp P o a w K Q:=by
 obtain⟨v',w',hr,h2,h3,h4⟩:=Rc (P:=P) w B t u o.type e i ht hu hi hz hsize hby v xs hown s hbytes hB;obtain⟨ad,cap,rfl⟩:=h2.sl;unfold Oper.wp execOp;simp only[ho,resolve,invoke,builtin,Sem.run_bind,Sem.run_pure,Result.andThen_ok,List.map_toArray,B1z,E0z,hs,hx,hr];exact h _ _ _ _ h2 h3 h4
theorem Ps{ops:Array Oper}{o:Oper}{a:Act}{K:Act->World->Prop}{Q:Exit->Act->World->Prop}{E:Prop}(hgd:o.guard=none)(sl x:Operand)(t u:TypeId)
  (ho:o.op=.call {callee:=.builtin .append,args:=#[sl,x],argTypes:=#[t,u]})
  (B:Nat) (e:TypeId) (i:TypeInfo) (ht:P.underlying t=some (.slice e)) (hu:P.underlying u=some .string) (hi:P.info? e=some i) (hz:i.zero=some (.int .u8 0))
  (hsize:i.size=1) (hby:i.bytes=1)
  (v:Value) (xs:List Value) (hs:a.eval sl=v) (hown:Ex B e v xs w) (s:By) (hx:a.eval x=.string s)
  (hbytes:xs.length+s.size<=140737488355328) (hB:B<=w.heap.size)
  (h:∀(ad:Oa) (n cap:Nat) w',Ex B e (.slice ad n cap) (xs++Lib.strCells s) w'->w.grownBy w' v.ownBlock->(∀r,(Value.slice ad n cap).ownBlock=some r->v.ownBlock=some r\/w.heap.size<=r)->K (a.put o.dst (.slice ad n cap)) w') :
  if Region.wanted o (yielded ops a.tmps)=true then Oper.wp P o a w K Q else E:=by
 have hw:Region.wanted o (yielded ops a.tmps)=true:=by simp[Region.wanted,hgd]
 rw[if_pos hw];exact Ue w sl x t u ho B e i ht hu hi hz hsize hby v xs hs hown s hx hbytes hB h
end
theorem Pt(V:Sv)(c:Nat)(vo:Value)(held:By)(out:L8)(rq:Nat)(cl:Bool)(w:World)(I:CnI V c vo held out rq cl w):
  Calls prog 175 #[.pointer (some ⟨c,0,none⟩)] w λx w'=>x=.returned (.tuple #[])/\CnI V c vo ⟨#[]⟩ out rq true w'/\Kx [c] w w':=by
 obtain⟨c0,c1,c2,c3,c4⟩:=I.cells;have lc:=I.lt;have z1:=Ai I.blk 1;have z4:=Ai I.blk 4;have t4:=(World.cell?_setCell_other w ⟨c,1,none⟩ ⟨c,4,none⟩ (.string ⟨#[]⟩) (by simp)).trans c4;have hB:=Bj (Bj I.blk 1 (.string ⟨#[]⟩)) 4 (.bool true);have hK:Kx [c] w ((w.setCell ⟨c,1,none⟩ (.string ⟨#[]⟩)).setCell ⟨c,4,none⟩ (.bool true)):=(Kx.set (L:=[c]) ⟨c,1,none⟩ _ (by simp)).trans (Kx.set (L:=[c]) ⟨c,4,none⟩ _ (by simp)) (λ_ h=>.inl h);have HI:=hid (show CnI V c vo ⟨#[]⟩ out rq true _ from⟨hB,I.out.kx hK (λr hr hm=>by simp at hm;subst hm;exact I.o1 hr),I.ge,I.n1,I.n2,I.o1,I.o2,I.o3⟩);have HK:=hid hK;clear I hB hK;go_enter func175,ntmps175;go_wp2;refine bodyPost_end (v:=.tuple #[]) (by simp[results,results175,go_sem]) rfl ?_;exact⟨rfl,HI.out,HK.out⟩
def Ec(e:Int):Int:=if e=4 then 413 else if e=5 then 431 else if e=6 then 501 else if e=7 then 505 else 400
theorem Oh(e:Int)(w:World):Calls prog 234 #[.int .i64 e] w λx w'=>x=.returned (.int .i64 (Ec e))/\w'=w:=by
 have key:∀r,Ec e=r->Calls prog 234 #[.int .i64 e] w λx w'=>x=.returned (.int .i64 r)/\w'=w:=by
  intro r hr;unfold Ec at hr;by_cases h4:e=4
  ·subst h4;rw[if_pos rfl]at hr;subst hr;go_enter func234,ntmps234;go_wp2;go_ret;exact⟨rfl,rfl⟩
  by_cases h5:e=5
  ·subst h5;rw[if_neg (by decide),if_pos rfl]at hr;subst hr;go_enter func234,ntmps234;go_wp2;go_ret;exact⟨rfl,rfl⟩
  by_cases h6:e=6
  ·subst h6;rw[if_neg (by decide),if_neg (by decide),if_pos rfl]at hr;subst hr;go_enter func234,ntmps234;go_wp2;go_ret;exact⟨rfl,rfl⟩
  by_cases h7:e=7
  ·subst h7;rw[if_neg (by decide),if_neg (by decide),if_neg (by decide),if_pos rfl]at hr;subst hr;go_enter func234,ntmps234;go_wp2;go_ret;exact⟨rfl,rfl⟩
  rw[if_neg h4,if_neg h5,if_neg h6,if_neg h7]at hr;subst hr;have b4:(e==4)=false:=by simpa using h4
  have b5:(e==5)=false:=by simpa using h5
  have b6:(e==6)=false:=by simpa using h6
  have b7:(e==7)=false:=by simpa using h7
  go_enter func234,ntmps234;go_wp2;go_ret;exact⟨rfl,rfl⟩
 exact key _ rfl
theorem a2T(e:Int)(w:World):Calls prog 174 #[.int .i64 e] w λx w'=>x=.returned (.agg (anA (Ec e) (.slice none 0 0) ⟨#[]⟩ true))/\Bw w w':=by
 have HR:=hid (λW=>Oh e W);have hA:=bA w (.cells (anA (Ec e) (.slice none 0 0) ⟨#[]⟩ true) 49);have b1:=Ag w (.cells (anA (Ec e) (.slice none 0 0) ⟨#[]⟩ true) 49);have e0:(w.alloc (.cells (anA (Ec e) (.slice none 0 0) ⟨#[]⟩ true) 49)).cell? ⟨w.heap.size,0,none⟩=some (.int .i64 (Ec e)):=by rw[Ab b1];rfl
 have e1:(w.alloc (.cells (anA (Ec e) (.slice none 0 0) ⟨#[]⟩ true) 49)).cell? ⟨w.heap.size,1,none⟩=some (.slice none 0 0):=by rw[Ab b1];rfl
 have e2:(w.alloc (.cells (anA (Ec e) (.slice none 0 0) ⟨#[]⟩ true) 49)).cell? ⟨w.heap.size,2,none⟩=some (.string ⟨#[]⟩):=by rw[Ab b1];rfl
 have e3:(w.alloc (.cells (anA (Ec e) (.slice none 0 0) ⟨#[]⟩ true) 49)).cell? ⟨w.heap.size,3,none⟩=some (.bool true):=by rw[Ab b1];rfl
 generalize Ec e=r at *
 go_enter func174,ntmps174;go_wp2_with (go_at_call 234;refine(HR.out _).mono ?_;rintro x w' ⟨rfl,rfl⟩);refine Ae (v:=.agg (anA r (.slice none 0 0) ⟨#[]⟩ true)) (by simp[results,results174,go_sem,e0,e1,e2,e3]) rfl ?_;exact⟨rfl,hA⟩
theorem Vi(gs:Nat)(hd bd:Int)(rs:List Rt)(ws:List Wr)(es:List Ent)(v vh vw:Value)(qm qt qb:By)(fs:List Prm)(fa:Oa)(fc:Nat)(w:World)(S:StI gs gs es (rs.map Rt.h) ws v vh vw w)(hes:es.map Ent.bare=rs.map Cd)(hE:(Et hd bd rs ws).2=0)
  (hro:∀r∈rs,RtSm r) (hwo:∀x∈ws,x.n.size<=1048576/\x.v.size<=1048576) (hf:Df fs fa w) (hl:fs.length<=1000000) (hz1:∀i (h:i<fs.length),fs[i].1.size<=maxLen) (hz2:∀p∈fs,p.2.size<=2000000) (hms:qm.size<=maxLen) (hts:qt.size<=2000000) (hqb:qb.size<=2000000) :
  Calls prog 148 #[.pointer (some ⟨gs,0,none⟩),.agg #[.string qm,.string qt,.slice fa fs.length fc,.string qb]] w (b5Z (Yb (pdG hd bd rs ws qm.data.toList qt.data.toList) rs ws fs qb) w):=by
 have hpd:pdG hd bd rs ws qm.data.toList qt.data.toList=Eu qm.data.toList qt.data.toList es:=by
  unfold pdG;rw[if_pos hE,<-hes,Mb]
 obtain⟨c1,c2,c3,c4⟩:=Iv hE;have hjn:=Pj (Pm.ahead 63 qt.data.toList) S hes c3;have hlen:=(b6X hd bd rs ws qm.data.toList qt.data.toList).1;have hok:=Wd hd bd rs ws qm.data.toList qt.data.toList;have hqtl:qt.data.toList.length=qt.size:=by simp
 have hps:=Mc 4000000 qm.data.toList qt.data.toList es (by omega);have hdl:=Yg qm.data.toList qt.data.toList es;rw[hpd]at hlen hok ⊢;unfold Yb;refine Yf gs qm qt qb fa fs.length fc (Eu qm.data.toList qt.data.toList es) (toG (Eu qm.data.toList qt.data.toList es) rs ws fs qb) (Re fs) w ?_ ?_ ?_ ?_ ?_
 ·intro a ha;have:=Tt (K:=4000000) (by omega) (λp hp=>by have:=hz2 p hp;omega) (by omega) hps (λx hx=>by have:=hwo x hx;omega) (λr hr=>by have:=(hro r hr).t;omega) (by omega) (by omega) c2 hl ha;refine⟨this.2,by have:=this.1.1;omega,λi hi=>?_⟩;have h2:=this.1.2 _ (As hi);exact⟨by omega,by omega⟩
 ·intro W hW;exact Nx gs gs es v qm qt W (S.below hW).tb hms (by omega) (by omega)
 ·intro W pa pc ua ul hW hua hul ho he;exact a1Z gs es rs ws v vh vw qm qt qb fs fa fc _ W (S.below hW) pa pc ua ul hua hul (Nb ho) (hok he) (by omega) (hf.below hW) hl hz1 c2
 ·intro n x W hx;exact b6J n x W hx
 ·intro W hW;refine b5P qm qt qb fs fa fc W (hf.below hW) hl hz1 (λx hx=>?_);obtain⟨p,hp,rfl⟩:=Rr hx;have:=hz2 p hp;unfold maxLen;omega
structure Cs where
 held:L8
 out:L8
 rq:Nat
 cl:Bool
 hs:List Int
structure Cf where
 hd:Int
 bd:Int
 rs:List Rt
 ws:List Wr
def Eg(C:Cf)(F:Ed):DsR:=pdG C.hd C.bd C.rs C.ws F.2.1 F.2.2.1
def Ef(C:Cf)(F:Ed):Rp:=Yb (Eg C F) C.rs C.ws (Bq F.2.2.2.1) ⟨F.2.2.2.2.1.toArray⟩
def Hd(C:Cf)(F:Ed):L8:=Fr F.2.1 (Ef C F).st (Ef C F).fs (Ef C F).b.data.toList (Ef C F).cl
def Ga(S:Cs)(t:L8)(cl:Bool):Cs:=if cl=true then⟨[],S.out++t,S.rq,true,S.hs⟩else⟨S.held,S.out++t,S.rq,S.cl,S.hs⟩
def Dd(C:Cf)(F:Ed)(S:Cs):Cs:=Ga ⟨S.held.drop F.2.2.2.2.2,S.out,S.rq+1,S.cl,Fo (Eg C F).st (Eg C F).ro S.hs⟩ (Hd C F) (Ef C F).cl
def noS(e:Int)(S:Cs):Cs:=Ga S (Fr [] (Ec e) [] [] true) true
def Ch(C:Cf):Nat->Cs->Cs
 |0,S=>S
 |k+1,S=>if S.cl=true then S else if(Bi S.held C.hd C.bd).1=2 then S
  else if(Bi S.held C.hd C.bd).1=0 then Ch C k (Dd C (Bi S.held C.hd C.bd) S)else noS (Bi S.held C.hd C.bd).1 S
theorem Gj(C:Cf)(k:Nat)(S:Cs)(h:S.cl=true):Ch C k S=S:=by
 cases k with
 |zero=>rfl
 |succ k=>rw[Ch,if_pos h]
def Ie(C:Cf)(S:Cs)(t:L8):Cs:=Ch C (S.held.length+t.length+1) ⟨S.held++t,S.out,S.rq,S.cl,S.hs⟩
structure SvOk(V:Sv)(C:Cf)(es:List Ent)(v vh vw:Value)(mx:Int):Prop where
 hd:V.hd=C.hd
 bd:V.bd=C.bd
 S:StI V.gs V.gs es (C.rs.map Rt.h) C.ws v vh vw V.w1
 es:es.map Ent.bare=C.rs.map Cd
 E:(Et C.hd C.bd C.rs C.ws).2=0
 rs:∀r∈C.rs,RtSm r
 ws:∀x∈C.ws,x.n.size<=1048576/\x.v.size<=1048576
 mx:V.w1.cell? ⟨0,0,none⟩=some (.int .i64 mx)
 tab:Lib.TabBelow prog V.w1.heap.size V.w1 "internal/strconv.uint64pow10" .u64 Lib.pow10Tab
theorem SvI.site{V:Sv}{hs:List Int}{w:World}(h:SvI V hs w){C:Cf}{es:List Ent}{v vh vw:Value}{mx:Int}(ok:SvOk V C es v vh vw mx):StI V.gs V.gs es (C.rs.map Rt.h) C.ws v vh vw w:=ok.S.below h.bel
theorem SvI.mx{V:Sv}{hs:List Int}{w:World}(h:SvI V hs w){C:Cf}{es:List Ent}{v vh vw:Value}{mx:Int}(ok:SvOk V C es v vh vw mx):w.cell? ⟨0,0,none⟩=some (.int .i64 mx):=Aa h.bel ok.mx
theorem a2U{l x:L8}(h:x∈Lib.split l [32]):x.length<=l.length:=by
 have e:(Pm.a4a ⟨l.toArray⟩).map (·.data.toList)=Lib.split l [32]:=Pm.a4b ⟨l.toArray⟩;rw[<-e]at h;obtain⟨b,hb,rfl⟩:=List.mem_map.1 h;have h1:=Pm.a4c hb;have h2:(ByteArray.mk l.toArray).size=l.length:=by show l.toArray.size=l.length;simp
 have h3:b.data.toList.length=b.size:=by simp
 omega
theorem b7B(l:L8):(Pm.a1f l).2.1.length<=l.length/\(Pm.a1f l).2.2.length<=l.length:=by
 unfold Pm.a1f
 split
 ·rename_i a b c h
  have ha:a∈Lib.split l [32]:=by rw[h];simp
  have hb:b∈Lib.split l [32]:=by rw[h];simp
  split
  ·split
   ·exact⟨a2U ha,a2U hb⟩
   ·exact⟨Ah _,Ah _⟩
  ·exact⟨Ah _,Ah _⟩
 ·exact⟨Ah _,Ah _⟩
theorem b7C(M:Nat)(f:Nat):∀(first:Bool) (l:L8) (lim:Nat) (m tg:L8) (fs:List Pm.Fld) (u:Nat),l.length<=M->m.length<=M->tg.length<=M->(Pm.a1o f first l lim m tg fs u).1=0->(Pm.a1o f first l lim m tg fs u).2.1.length<=M/\(Pm.a1o f first l lim m tg fs u).2.2.1.length<=M:=by
 induction f with
 |zero=>intro first l lim m tg fs u _ _ _ h;exact absurd (show(2:Int)=0 from h) (by decide)
 |succ f ih=>
  intro first l lim m tg fs u hl hm ht h
  rw[Dc]at h ⊢;have hd:(l.drop (Pm.a2g l lim 5).2.2).length<=M:=by rw[A6z];omega
  by_cases h2:(Pm.a2g l lim 5).1≠0
  ·rw[if_pos h2]at h;exact absurd h h2
  ·have hk:=Pm.a2k (l:=l) (lim:=lim) (long:=5) (by decide) (by omega);rw[if_neg h2]at h ⊢;by_cases h3:first=true
   ·rw[if_pos h3]at h ⊢;have hf:=b7B (Pm.a2g l lim 5).2.1;by_cases h4:(Pm.a1f (Pm.a2g l lim 5).2.1).1≠0
    ·rw[if_pos h4]at h;exact absurd h h4
    ·rw[if_neg h4]at h ⊢;exact ih _ _ _ _ _ _ _ hd (by omega) (by omega) h
   ·rw[if_neg h3]at h ⊢;by_cases h4:(Pm.a2g l lim 5).2.1=[]
    ·rw[if_pos h4];exact⟨hm,ht⟩
    ·rw[if_neg h4]at h ⊢
     cases h5:Pm.a1d (Pm.a2g l lim 5).2.1 with
     |none=>rw[h5]at h;exact absurd (show(3:Int)=0 from h) (by decide)
     |some f'=>
      rw[h5]at h;exact ih _ _ _ _ _ _ _ hd hm ht h
theorem Yp(hd:Nat)(bd:Int)(f:Nat):∀(l body:L8) (u:Nat),(Cx f l hd bd body u).1=0->(Cx f l hd bd body u).2.1.length<=body.length+l.length:=by
 induction f with
 |zero=>intro l body u h;exact absurd (show(2:Int)=0 from h) (by decide)
 |succ f ih=>
  intro l body u h;have hl:=Hy l 10 3;rw[Dw]at h ⊢;by_cases h2:Dr l≠0
  ·rw[if_pos h2]at h;exact absurd h h2
  ·rw[if_neg h2]at h ⊢;by_cases h3:0<Ci l
   ·rw[if_pos h3]at h ⊢;have hc:=Jp (l.drop (Pm.a2g l 10 3).2.2) (Ci l).toNat (bd-body.length);generalize Br (l.drop (Pm.a2g l 10 3).2.2) (Ci l).toNat (bd-body.length)=C at hc h ⊢;rw[A6z]at hc;by_cases h5:C.1≠0
    ·rw[if_pos h5]at h;exact absurd h h5
    ·rw[if_neg h5]at h ⊢;have:=ih _ _ _ h;rw[A0z,A6z]at this;omega
   ·rw[if_neg h3]at h ⊢;generalize Pm.a4t (hd+1) (l.drop (Pm.a2g l 10 3).2.2) hd 0=T at h ⊢;by_cases h5:T.1≠0
    ·rw[if_pos h5]at h;exact absurd h h5
    ·rw[if_neg h5];simp
theorem a7D(l:L8)(hd:Nat)(bd:Int)(c:Bool)(n:Nat)(h:(Dl l hd bd c n).1=0):(Dl l hd bd c n).2.1.length<=l.length:=by
 unfold Dl at h ⊢
 split
 ·rename_i hc
  rw[if_pos hc]at h;have:=Yp hd bd (l.length+1) l [] 0 h;simpa using this
 ·split
  ·exact Ah _
  ·simp only[B0z];omega
structure FrSm(l:L8)(F:Ed):Prop where
 m:F.2.1.length<=l.length
 t:F.2.2.1.length<=l.length
 n:F.2.2.2.1.length<=500
 f:∀x∈F.2.2.2.1,x.1.length+x.2.length<=500
 b:F.2.2.2.2.1.length<=l.length
 u:0<F.2.2.2.2.2
 v:F.2.2.2.2.2<=l.length
theorem Dh(l:L8)(hd bd:Int)(h:(Bi l hd bd).1=0):FrSm l (Bi l hd bd):=by
 unfold Bi at h ⊢
 split at h
 ·rename_i hr
  rw[if_pos hr];obtain⟨-,s2,-,s4⟩:=Sl l hd.toNat bd;have sf:=a2J l hd.toNat bd;refine⟨?_,?_,by omega,?_,?_,s2 h,s4⟩
  all_goals
   unfold Cc at h ⊢;have hm:=b7C l.length (hd.toNat+1) true l hd.toNat [] [] [] 0 (Ac _) (Ah _) (Ah _);have hf:=Jq (hd.toNat+1) true l hd.toNat [] [] [] 0;generalize Pm.a1o (hd.toNat+1) true l hd.toNat [] [] [] 0=H at *
   simp only at h ⊢
   split at h
   ·rename_i h1;exact absurd h h1
   rename_i h1
   rw[if_neg h1];have h1':H.1=0:=by omega
   split at h
   ·rename_i h2;exact absurd h h2
   rename_i h2
   rw[if_neg h2]
   split at h
   ·rename_i h3;exact absurd h h3
   rename_i h3
   rw[if_neg h3]
  ·exact(hm h1').1
  ·exact(hm h1').2
  ·intro x hx;rcases(hf h1').2 x hx with q|q
   ·simp at q
   ·omega
  ·have:=a7D (l.drop H.2.2.2.2) hd.toNat bd (Cr (Bq H.2.2.2.1) bd).2.1 (Cr (Bq H.2.2.2.1) bd).2.2.toNat (by omega);rw[A6z]at this;simp only;omega
 ·exact absurd h (by decide)
theorem Pu(a b:List Pr2):(Cm (a++b)).length=(Cm a).length+(Cm b).length:=by
 unfold Cm;rw[List.flatMap_append,A0z]
theorem Gv(n v:By):(Cm [(n,v)]).length=n.size+v.size+4:=by
 unfold Cm;simp[Gm];omega
theorem Wj{K:Nat}:∀(fs:List Pr2),(∀p∈fs,p.1.size+p.2.size<=K)->(Cm fs).length<=fs.length*(K+4)
 |[],_=>by simp[Cm]
 |(n,v)::r,h=>by
  have h1:=h (n,v) (by simp);have h2:=Wj r (λp hp=>h p (by simp[hp]));have e:Cm ((n,v)::r)=Cm ([(n,v)]++r):=rfl;rw[e,Pu,Gv,A9z,F0z];simp only at h1;omega
theorem b7D{x:Wr}{qf:List Prm}{qb:By}{G:Option An}{N:Nat}(hx:x.n.size<=1048576/\x.v.size<=1048576)(hl:qf.length<=500)(hf:∀p∈qf,p.1.size+p.2.size<=500)(h:∀a,G=some a->(Cm a.fs).length<=N){a:An}(e:Eh x qf qb G=some a):(Cm a.fs).length<=N+2097156:=by
 unfold Eh at e
 split at e
 ·obtain⟨b,hb,rfl⟩:=Option.map_eq_some_iff.1 e;have:=h b hb;simp only[Pu,Gv];omega
 split at e
 ·split at e
  ·have:=h a e;omega
  ·cases e;simp[Cm]
 split at e
 ·split at e
  ·cases e;simp[Cm]
  ·have:=h a e;omega
 split at e
 ·cases G with
  |none=>cases e;simp[Cm]
  |some b=>have:=h a e;omega
 split at e
 ·obtain⟨b,hb,rfl⟩:=Option.map_eq_some_iff.1 e;have h1:=h b hb;simp only[Pu];have h2:=Wj (K:=1000) ((Bf qf x.n.data.toList).map (λv=>(x.n,v))) (λp hp=>by
   obtain⟨v,hv,rfl⟩:=List.mem_map.1 hp;unfold Bf at hv;obtain⟨q,hq,rfl⟩:=List.mem_map.1 hv;obtain⟨hq1,hq2⟩:=List.mem_filter.1 hq;have hz:=hf q hq1;have hn:q.1.data.toList.length=x.n.data.toList.length:=by
    rcases Nat.decEq q.1.data.toList.length x.n.data.toList.length with c|c
    ·rw[Pm.a0f c]at hq2;exact absurd hq2 (by simp)
    ·exact c
   have e1:q.1.data.toList.length=q.1.size:=by simp
   have e2:x.n.data.toList.length=x.n.size:=by simp
   simp only;omega)
  have h3:=Co qf x.n.data.toList;rw[A8z]at h2;omega
 ·have:=h a e;omega
theorem Yq{qf:List Prm}{qb:By}{h:Hn}{ps:List Prm}(hl:qf.length<=500)(hf:∀p∈qf,p.1.size+p.2.size<=500)(ht:h.t.size<=1048576)(hp:∀p∈ps,p.2.size<=4000000):∀(ws:List Wr) (a:An),(∀x∈ws,x.n.size<=1048576/\x.v.size<=1048576)->Ld qf qb h ps ws=some a->(Cm a.fs).length<=6000000+ws.length*2097156
 |[],a,_,e=>by
  have hs:=Tn h.n.data.toList ps hp;have e':Ew h qb ps=some a:=e;unfold Ew at e'
  split at e'
  ·cases e';simp[Cm]
  split at e'
  ·cases e';simp[Cm]
  split at e'
  ·cases e';simp[Cm]
  split at e'
  ·cases e';rw[Gv];omega
  ·cases e'
 |x::r,a,hw,e=>by
  have:=b7D (hw x (by simp)) hl hf (λb hb=>Yq hl hf ht hp r b (λy hy=>hw y (by simp[hy])) hb) (e:=e);rw[A9z];omega
theorem c2Z:(prog.info? 5).map (λi=>(i.zero,i.size,i.bytes))=some (some (.int .u8 0),1,1):=by kernel_rfl
theorem Mg{P:Program}{w:World}{ops:Array Oper}{o:Oper}{a:Act}{K:Act->World->Prop}{Q:Exit->Act->World->Prop}{E:Prop}{f:FuncId}{fn:Func}(hgd:o.guard=none)(hf:P.funcs[f]?=some fn)(hname:(fn.name== "runtime.NumGoroutine")=false)(hb:fn.body.isSome=true)(xs:Array Operand)(ts:Array TypeId)
  (ho:o.op=.call {callee:=.value (.func f),args:=xs,argTypes:=ts}) (args:Array Value) (hx:xs.map a.eval=args) {R:World->Prop} {v:Value}
  (hc:Calls P f args w λe w'=>e=.returned v/\R w') (h:∀w',R w'->K (a.put o.dst v) w') :
  if Region.wanted o (yielded ops a.tmps)=true then Oper.wp P o a w K Q else E:=by
 have hw:Region.wanted o (yielded ops a.tmps)=true:=by simp[Region.wanted,hgd]
 rw[if_pos hw];obtain⟨cd,hcd⟩:=Option.isSome_iff_exists.1 hb;have hr:=Go.MuLone.run_callFunc_enter (P:=P) hf hname hcd args w;have e:(execOp a.eval o).run P w=.ok (.enter f args) w:=by
  unfold execOp;simp only[ho];simp[resolve,invoke,go_sem];rw[hx];exact hr
 unfold Oper.wp;rw[e,Oper.upon_enter];exact hc.mono λe w' ⟨h1,h2⟩=>by subst h1;exact h w' h2
def Qw(cl:Bool)(held:By):By:=if cl=true then⟨#[]⟩else held
theorem b2G(l:L8)(s:By):Lib.byteCells l++Lib.strCells s=Lib.byteCells (l++s.data.toList):=by
 simp[Lib.byteCells,Lib.strCells]
structure SnI(V:Sv)(c:Nat)(vo:Value)(held:By)(out:L8)(rq:Nat)(cl:Bool)(w:World)(W:World):Prop where
 i:∃vo',CnI V c vo' held out rq cl W/\∀r,vo'.ownBlock=some r->vo.ownBlock=some r\/w.heap.size<=r
 k:Kx (c::vo.ownBlock.toList) w W
theorem Jl(l:L8):(Lib.byteCells l).length=l.length:=by simp[Lib.byteCells]
theorem c0K{V:Sv}{c:Nat}{vo:Value}{held:By}{out:L8}{rq:Nat}{cl:Bool}{w w1 w2 w3:World}{ad:Oa}{n cap:Nat}{text:By}(I:CnI V c vo held out rq cl w)(lw:V.s<w.heap.size)(lh:V.h<w.heap.size)(hA:Bw w w1)(hb:Bw w1 w2)(hO:Ex V.w1.heap.size 5 (.slice ad n cap) (Lib.byteCells out++Lib.strCells text) w3)(hg:w2.grownBy w3 vo.ownBlock)(hr:∀r,(Value.slice ad n cap).ownBlock=some r->vo.ownBlock=some r\/w2.heap.size<=r):SnI V c vo held (out++text.data.toList) rq cl w (w3.setCell ⟨c,2,none⟩ (.slice ad n cap)):=by
 have hB2:=Bc hA hb;have hz:=hB2.size;have lc:=I.lt;have k1:Kx (c::vo.ownBlock.toList) w w2:=Kx.of hB2;have k2:Kx (c::vo.ownBlock.toList) w2 w3:=Kx.grown hg (λk hk=>by rw[hk];simp);have k3:Kx (c::vo.ownBlock.toList) w3 (w3.setCell ⟨c,2,none⟩ (.slice ad n cap)):=Kx.set _ _ (by simp);have hnc:(Value.slice ad n cap).ownBlock≠some c:=λe=>by
  rcases hr c e with q|q
  ·exact I.o1 q
  ·omega
 have hb3:w3.heap[c]?=some (.cells (cnC V held vo rq cl) 255 (0,0)):=by
  rw[hg.block c (by omega) (λe=>I.o1 e.symm),hB2.block c lc];exact I.blk
 refine⟨⟨.slice ad n cap,⟨Bj hb3 2 (.slice ad n cap),?_,I.ge,I.n1,I.n2,hnc,λe=>?_,λe=>?_⟩,λr e=>?_⟩,(k1.trans k2 (λ_ h=>.inl h)).trans k3 (λ_ h=>.inl h)⟩
 ·rw[<-b2G];exact hO.keep λr e=>Aw _ _ _ _ (λq=>hnc (by rw[e,q]))
 ·rcases hr _ e with q|q
  ·exact I.o2 q
  ·omega
 ·rcases hr _ e with q|q
  ·exact I.o3 q
  ·omega
 ·rcases hr r e with q|q
  ·exact .inl q
  ·exact .inr (by omega)
theorem c0L(V:Sv)(c:Nat)(vo:Value)(held:By)(out:L8)(rq:Nat)(cl:Bool)(m:By)(st:Int)(pa:Oa)(pn pc:Nat)(b:By)(acl:Bool)(text:By)(w:World)(I:CnI V c vo held out rq cl w)(lw:V.s<w.heap.size)(lh:V.h<w.heap.size)(lv:V.w1.heap.size<=w.heap.size)(hlen:out.length+text.size<=140737488355328)
  (HR:∀W,Bw w W->Calls prog 150 #[.string m,.agg (anA st (.slice pa pn pc) b acl)] W λe w'=>e=.returned (.string text)/\Bw W w') :
  Calls prog 172 #[.pointer (some ⟨c,0,none⟩),.string m,.agg (anA st (.slice pa pn pc) b acl)] w λx w'=>x=.returned (.tuple #[])/\SnI V c vo (Qw acl held) (out++text.data.toList) rq (acl||cl) w w':=by
 obtain⟨i0,hi,hz0,hz1,hz2⟩:=info_parts c2Z;have hA:=bA w (.cells (anA st (.slice pa pn pc) b acl) 49);have b1:=Ag w (.cells (anA st (.slice pa pn pc) b acl) 49);have z1:(w.alloc (.cells (anA st (.slice pa pn pc) b acl) 49)).heap.size=w.heap.size+1:=by simp
 have a0:(w.alloc (.cells (anA st (.slice pa pn pc) b acl) 49)).cell? ⟨w.heap.size,0,none⟩=some (.int .i64 st):=by rw[Ab b1];rfl
 have a1:(w.alloc (.cells (anA st (.slice pa pn pc) b acl) 49)).cell? ⟨w.heap.size,1,none⟩=some (.slice pa pn pc):=by rw[Ab b1];rfl
 have a2:(w.alloc (.cells (anA st (.slice pa pn pc) b acl) 49)).cell? ⟨w.heap.size,2,none⟩=some (.string b):=by rw[Ab b1];rfl
 have a3:(w.alloc (.cells (anA st (.slice pa pn pc) b acl) 49)).cell? ⟨w.heap.size,3,none⟩=some (.bool acl):=by rw[Ab b1];rfl
 have I1:=I.below hA;obtain⟨-,-,c2,-,-⟩:=I1.cells;have lc:=I1.lt;have lc0:=I.lt;have hvo:∀r,vo.ownBlock=some r->r<w.heap.size:=λr hr=>(I.out.lt hr).2;have HRR:=hid HR;have HI:=hid I;have HI1:=hid I1;have HB1:=hid b1;have hun:prog.underlying 211=some (.slice 5):=underlying211;have hus:prog.underlying 9=some .string:=underlying9;have hsl:∃va vn vc,vo=.slice va vn vc:=by obtain⟨va,vc,e⟩:=I.out.sl;exact⟨va,_,vc,e⟩
 obtain⟨va,vn,vc,rfl⟩:=hsl;clear HR I I1 b1;go_enter func172,ntmps172;go_upto_region 1 with fail;generalize w.alloc (.cells (anA st (.slice pa pn pc) b acl) 49)=w1 at *
 have cd2:w1.drew.cell? ⟨c,2,none⟩=some (.slice va vn vc):=c2
 go_region_law (first|(refine Mg (f:=150) rfl func150 (by kernel_rfl) (by kernel_rfl) _ _ rfl #[.string m,.agg (anA st (.slice pa pn pc) b acl)] (by simp[Act.eval]) (HRR.out w1.drew hA.drew) ?_;intro w2 hb2;have hb2':Bw w1 w2:=(Ad w1.heap.size w1).drew.trans hb2;obtain⟨-,-,e2,-,-⟩:=(HI1.out.below hb2').cells;have lq2:w.heap.size<w2.heap.size:=Af (by rw[z1];omega) hb2'.size;have O2:=(HI1.out.below hb2').out;have B2:=(HI1.out.below hb2').blk;clear hb2)|(refine Ps w2 rfl (.tmp 10) (.tmp 13) 211 9 rfl V.w1.heap.size 5 i0 hun hus hi hz0 hz1 hz2 (.slice va vn vc) (Lib.byteCells out) (by simp[Act.eval]) O2 text (by simp[Act.eval]) (by rw[Jl];exact hlen) (by omega) ?_;intro ad n cap w3 hO3 hg3 hr3;have e3:w3.cell? ⟨c,2,none⟩=some (.slice va vn vc):=(by rw[Au (w:=w2) (hg3.block c (by omega) (λe=>HI.out.o1 e.symm))];exact e2);have zf3:w3.frozen? ⟨c,2,none⟩=false:=(by rw[World.frozen?_of_block (w:=w2) (hg3.block c (by omega) (λe=>HI.out.o1 e.symm))];exact Ai B2 2)))
 all_goals
  have SD:=c0K HI.out lw lh hA hb2' hO3 hg3 hr3;have q3:(w3.setCell ⟨c,2,none⟩ (.slice ad n cap)).cell? ⟨w.heap.size,3,none⟩=some (.bool acl):=by
   rw[World.cell?_setCell_other _ _ _ _ (by simp),Au (w:=w2) (hg3.block w.heap.size lq2 (λe=>by have:=hvo _ e.symm;omega)),Aa hb2' a3]
  generalize w3.setCell ⟨c,2,none⟩ (.slice ad n cap)=W at *
  obtain⟨⟨vo',J,hr'⟩,kk⟩:=SD;have HJ:=hid J;have HCL:=hid (Pt V c vo' held _ rq cl W J);have lqW:=Ap q3;clear J e2 e3 zf3 O2 B2 hO3 hg3 hr3 HI HI1 HRR HB1 cd2 c2 a0 a1 a2 a3
  cases acl
  ·go_wp2_with fail;refine bodyPost_end (v:=.tuple #[]) (by simp[results,results172,go_sem]) rfl ?_;exact⟨rfl,⟨vo',HJ.out,hr'⟩,kk⟩
  ·go_wp2_with (go_at_call 175;refine HCL.out.mono ?_;rintro x w4 ⟨rfl,J4,k4⟩);refine bodyPost_end (v:=.tuple #[]) (by simp[results,results172,go_sem]) rfl ?_;exact⟨rfl,⟨vo',J4,hr'⟩,kk.trans k4 (λb hb=>by simp at hb;subst hb;exact .inl (by simp))⟩
theorem Yr:∀(rs:List Rt) (es:List Ent) (k:Nat),(Ge rs es k).2=0->∀r∈rs,200<=r.h.st/\r.h.st<=599
 |[],_,_,_,r,hr=>by simp at hr
 |r0::rs,es,k,h,r,hr=>by
  rw[Ge]at h
  split at h
  ·rename_i h0
   rcases List.mem_cons.1 hr with rfl|hr
   ·unfold rtE at h0
    split at h0
    ·exact absurd h0 (by decide)
    ·split at h0
     ·exact absurd h0 (by decide)
     ·split at h0
      ·exact absurd h0 (by decide)
      ·split at h0
       ·exact absurd h0 (by decide)
       ·split at h0
        ·exact absurd h0 (by decide)
        ·rename_i hh
         have hb:Jb r.h.k r.h.st r.h.t.data.toList=true:=by
          cases q:Jb r.h.k r.h.st r.h.t.data.toList
          ·exact absurd q hh
          ·rfl
         unfold Jb at hb;rw[A3z,decide_eq_true_eq]at hb;exact⟨hb.1.1,hb.1.2.1⟩
   ·exact Yr rs _ _ h r hr
  ·rename_i h0;exact absurd h h0
structure AnsB(R:Rp):Prop where
 s0:0<=R.st
 s1:R.st<=999
 n:R.fs.length<=50000000
 z:(Cm R.fs).length+R.b.size<=33000000
def StB(s:Int):Prop:=0<=s/\s<=999
theorem c0M{x:Wr}{qf:List Prm}{qb:By}{G:Option An}(h:∀a,G=some a->StB a.st){a:An}(e:Eh x qf qb G=some a):StB a.st:=by
 unfold Eh at e
 split at e
 ·obtain⟨b,hb,rfl⟩:=Option.map_eq_some_iff.1 e;exact h b hb
 split at e
 ·split at e
  ·exact h a e
  ·cases e;unfold StB;decide
 split at e
 ·split at e
  ·cases e;unfold StB;decide
  ·exact h a e
 split at e
 ·cases G with
  |none=>cases e;unfold StB;decide
  |some b=>exact h a e
 split at e
 ·obtain⟨b,hb,rfl⟩:=Option.map_eq_some_iff.1 e;exact h b hb
 ·exact h a e
theorem a7E{qf:List Prm}{qb:By}{h:Hn}{ps:List Prm}(hs:StB h.st):∀(ws:List Wr) (a:An),Ld qf qb h ps ws=some a->StB a.st
 |[],a,e=>by
  have e':Ew h qb ps=some a:=e;unfold Ew at e'
  split at e'
  ·cases e';exact hs
  split at e'
  ·cases e';exact hs
  split at e'
  ·cases e';exact hs
  split at e'
  ·cases e';exact hs
  ·cases e'
 |x::r,a,e=>c0M (λb hb=>a7E hs r b hb) e
theorem b7E(m t:L8)(es:List Ent):StB (Eu m t es).st:=by
 unfold Eu StB
 split
 ·decide
 split
 ·simp
 split
 ·unfold Jv;split<;>simp
 split
 ·simp
 ·decide
theorem b2H{V:Sv}{C:Cf}{es:List Ent}{v vh vw:Value}{mx:Int}(ok:SvOk V C es v vh vw mx)(qm qt qb:By)(fs:List Prm)(ht:qt.size<=2000000)(hq:qb.size<=2000000)(hl:fs.length<=500)(hz:∀p∈fs,p.1.size+p.2.size<=500):
  AnsB (Yb (pdG C.hd C.bd C.rs C.ws qm.data.toList qt.data.toList) C.rs C.ws fs qb):=by
 have hpd:pdG C.hd C.bd C.rs C.ws qm.data.toList qt.data.toList=Eu qm.data.toList qt.data.toList es:=by
  unfold pdG;rw[if_pos ok.E,<-ok.es,Mb]
 obtain⟨-,c2,c3,-⟩:=Iv ok.E;have hjn:=Pj (Pm.ahead 63 qt.data.toList) ok.S ok.es c3;have hqtl:qt.data.toList.length=qt.size:=by simp
 have hps:=Mc 4000000 qm.data.toList qt.data.toList es (by omega);have hdl:=Yg qm.data.toList qt.data.toList es;have hst:=b7E qm.data.toList qt.data.toList es;have hok:=Wd C.hd C.bd C.rs C.ws qm.data.toList qt.data.toList;rw[hpd]at hok ⊢;generalize Eu qm.data.toList qt.data.toList es=D at *
 unfold Yb;by_cases he:D.e=0
 ·rw[if_pos he]
  cases hT:toG D C.rs C.ws fs qb with
  |none=>exact⟨by simp[Gp],by simp[Gp],by simp[Gp],(by show(0:Nat)+0<=33000000;omega)⟩
  |some a=>
   have h1:=Tt (K:=4000000) (by omega) (λp hp=>by have:=hz p hp;omega) (by omega) hps (λx hx=>by have:=ok.ws x hx;omega) (λr hr=>by have:=(ok.rs r hr).t;omega) (by omega) (by omega) c2 (by omega) hT;have h2:(Cm a.fs).length<=20000000/\StB a.st:=by
    unfold toG at hT
    split at hT
    ·rename_i hs2
     have hro:=(hok he).ro hs2;have hr:∃r∈C.rs,Fk C.rs D.ro=r.h:=by
      unfold Fk;rw[Av hro];exact⟨_,As hro,rfl⟩
     obtain⟨r,hr1,hr2⟩:=hr;have hst2:=Yr C.rs [] 0 c3 r hr1;have h3:=Yq (qf:=fs) (qb:=qb) (h:=Fk C.rs D.ro) (ps:=D.ps) hl hz (by rw[hr2];exact(ok.rs r hr1).t) hps C.ws a ok.ws hT;have h4:=a7E (qf:=fs) (qb:=qb) (h:=Fk C.rs D.ro) (ps:=D.ps) (by rw[hr2];exact⟨by omega,by omega⟩) C.ws a hT;exact⟨by omega,h4⟩
    ·cases hT
     unfold El
     split
     ·refine⟨?_,hst⟩;have e1:Lg.size<=8:=by decide
      rw[Gv];show Lg.size+D.lo.toArray.size+4<=_;simp;omega
     split
     ·refine⟨?_,hst⟩;have e1:Fz.size<=8:=by decide
      rw[Gv];show Fz.size+D.al.toArray.size+4<=_;simp;omega
     ·exact⟨by simp[Cm],hst⟩
   have h3:=h1.1.1;unfold StB at h2;unfold Gp;simp only
   split
   ·exact⟨by simp,by simp,(by show(0:Nat)<=50000000;omega),(by show(0:Nat)+0<=33000000;omega)⟩
   ·exact⟨h2.2.1,h2.2.2,h1.2,by simp only;omega⟩
 ·rw[if_neg he];exact⟨by simp,by simp,(by show(0:Nat)<=50000000;omega),(by show(0:Nat)+0<=33000000;omega)⟩
end Go.Proofs.YtbiggccolpchcaaGreatDoor
