/- Joined. -/
import Derived.Test.YtbiggccolpchcaaGreatDoorJoin47
set_option maxRecDepth 100000
set_option maxHeartbeats 4000000
namespace Go.Proofs.YtbiggccolpchcaaGreatDoor
open Go.RowKit Bn _root_.Go.Proofs.Tryz
abbrev lnA(pc sr j:Nat):Array Value:=#[.pointer (some ⟨pc,0,none⟩),.pointer (some ⟨sr,0,none⟩),.int .i64 (j:Int)]
structure TwoAt(s:Nat)(a b:Array Value)(W:World):Prop where
 a:W.heap[s]?=some (.cells a 70 (0,0))
 b:W.heap[s+1]?=some (.cells b 51 (0,0))
abbrev Kh(pc sr j:Nat)(o:OpV)(w:World):World:=(w.alloc (.cells (lnA pc sr j) 70)).alloc (.cells o.cs 51)
theorem Ir(pc sr j:Nat)(o:OpV)(w:World):Bw w (Kh pc sr j o w)/\TwoAt w.heap.size (lnA pc sr j) o.cs (Kh pc sr j o w):=by
 obtain⟨h1,h2,h3⟩:=Yo w (lnA pc sr j) o.cs 70 51;exact⟨h1,h2,h3⟩
section
variable{pc sr j:Nat}{o:OpV}{w:World}{Q:World->Prop}
theorem a3X(hk:o.k=33)(H:Calls prog 55 #[.pointer (some ⟨pc,0,none⟩),.string o.s] (Kh pc sr j o w) λx w1=>∃e,x=.returned (.int .i64 e)/\TwoAt w.heap.size (lnA pc sr j) o.cs w1 /\
   Calls prog 56 #[.pointer (some ⟨sr,0,none⟩),.int .i64 j,.string o.s] w1 λy w2=>y=.returned (.int .i64 e)/\Q w2) :
  Calls prog 17 #[.agg (lnA pc sr j),.agg o.cs] w λr w'=>r=.returned (.bool true)/\Q w':=by
 obtain⟨-,b1,b2⟩:=Ir pc sr j o w;unfold Kh at H b1 b2;have HH:=hid H;clear H;go_enter func17,ntmps17;go_upto_region 1 with fail;generalize (w.alloc (.cells (lnA pc sr j) 70)).alloc (.cells o.cs 51)=wB at *
 have c0:=(Ab b1 (j:=0)).trans (show _=some (Value.pointer (some ⟨pc,0,none⟩))from rfl);have d0:=(Ab b2 (j:=0)).trans (show _=some (Value.int .i64 o.k)from rfl);have d3:=(Ab b2 (j:=3)).trans (show _=some (Value.string o.s)from rfl);have l1:=heap_lt b1;have l2:=heap_lt b2;rw[hk]at d0;go_wp2_with fail;refine HH.out.mono ?_;rintro x w1 ⟨e,rfl,⟨f1,f2⟩,H2⟩;have HR:=hid H2;clear H2 HH c0 d0 d3 b1 b2 l1 l2;have c1:=(Ab f1 (j:=1)).trans (show _=some (Value.pointer (some ⟨sr,0,none⟩))from rfl);have c2:=(Ab f1 (j:=2)).trans (show _=some (Value.int .i64 (j:Int))from rfl);have d3:=(Ab f2 (j:=3)).trans (show _=some (Value.string o.s)from rfl);have l1:=heap_lt f1;have l2:=heap_lt f2;clear f1 f2;go_wp2_with fail;refine HR.out.mono ?_;rintro y w2 ⟨rfl,hQ⟩;have HQ:=hid hQ;clear HR hQ c1 c2 d3 l1 l2;go_wp2_with (go_at_call 36;refine(Bp.a5h _ _).mono ?_;rintro e w' ⟨rfl,hw'⟩;have hw2:=hw'.symm;subst hw2)
 all_goals
  go_ret;exact⟨Bd (by simp),HQ.out⟩
theorem a7Z(hk:o.k=34)(H:Calls prog 57 #[.pointer (some ⟨pc,0,none⟩)] (Kh pc sr j o w) λx w1=>∃e,x=.returned (.int .i64 e)/\TwoAt w.heap.size (lnA pc sr j) o.cs w1 /\
   Calls prog 58 #[.pointer (some ⟨sr,0,none⟩),.int .i64 j] w1 λy w2=>y=.returned (.int .i64 e)/\Q w2) :
  Calls prog 17 #[.agg (lnA pc sr j),.agg o.cs] w λr w'=>r=.returned (.bool true)/\Q w':=by
 obtain⟨-,b1,b2⟩:=Ir pc sr j o w;unfold Kh at H b1 b2;have HH:=hid H;clear H;go_enter func17,ntmps17;go_upto_region 1 with fail;generalize (w.alloc (.cells (lnA pc sr j) 70)).alloc (.cells o.cs 51)=wB at *
 have c0:=(Ab b1 (j:=0)).trans (show _=some (Value.pointer (some ⟨pc,0,none⟩))from rfl);have d0:=(Ab b2 (j:=0)).trans (show _=some (Value.int .i64 o.k)from rfl);have l1:=heap_lt b1;have l2:=heap_lt b2;rw[hk]at d0;go_wp2_with fail;refine HH.out.mono ?_;rintro x w1 ⟨e,rfl,⟨f1,f2⟩,H2⟩;have HR:=hid H2;clear H2 HH c0 d0 b1 b2 l1 l2;have c1:=(Ab f1 (j:=1)).trans (show _=some (Value.pointer (some ⟨sr,0,none⟩))from rfl);have c2:=(Ab f1 (j:=2)).trans (show _=some (Value.int .i64 (j:Int))from rfl);have l1:=heap_lt f1;clear f1 f2;go_wp2_with fail;refine HR.out.mono ?_;rintro y w2 ⟨rfl,hQ⟩;have HQ:=hid hQ;clear HR hQ c1 c2 l1;go_wp2_with (go_at_call 36;refine(Bp.a5h _ _).mono ?_;rintro e w' ⟨rfl,hw'⟩;have hw2:=hw'.symm;subst hw2)
 all_goals
  go_ret;exact⟨Bd (by simp),HQ.out⟩
theorem a3Y(hk:o.k=35)(H:Calls prog 59 #[.pointer (some ⟨pc,0,none⟩),.int .i64 o.a] (Kh pc sr j o w) λx w1=>∃e t,x=.returned (.tuple #[.string t,.int .i64 e])/\TwoAt w.heap.size (lnA pc sr j) o.cs w1 /\
   Calls prog 60 #[.pointer (some ⟨sr,0,none⟩),.int .i64 j,.int .i64 o.a] w1 λy w2=>y=.returned (.tuple #[.string t,.int .i64 e])/\Q w2) :
  Calls prog 17 #[.agg (lnA pc sr j),.agg o.cs] w λr w'=>r=.returned (.bool true)/\Q w':=by
 obtain⟨-,b1,b2⟩:=Ir pc sr j o w;unfold Kh at H b1 b2;have HH:=hid H;clear H;go_enter func17,ntmps17;go_upto_region 1 with fail;generalize (w.alloc (.cells (lnA pc sr j) 70)).alloc (.cells o.cs 51)=wB at *
 have c0:=(Ab b1 (j:=0)).trans (show _=some (Value.pointer (some ⟨pc,0,none⟩))from rfl);have d0:=(Ab b2 (j:=0)).trans (show _=some (Value.int .i64 o.k)from rfl);have d2:=(Ab b2 (j:=2)).trans (show _=some (Value.int .i64 o.a)from rfl);have l1:=heap_lt b1;have l2:=heap_lt b2;rw[hk]at d0;go_wp2_with fail;refine HH.out.mono ?_;rintro x w1 ⟨e,t,rfl,⟨f1,f2⟩,H2⟩;have HR:=hid H2;clear H2 HH c0 d0 d2 b1 b2 l1 l2;have c1:=(Ab f1 (j:=1)).trans (show _=some (Value.pointer (some ⟨sr,0,none⟩))from rfl);have c2:=(Ab f1 (j:=2)).trans (show _=some (Value.int .i64 (j:Int))from rfl);have d2:=(Ab f2 (j:=2)).trans (show _=some (Value.int .i64 o.a)from rfl);have l1:=heap_lt f1;have l2:=heap_lt f2;clear f1 f2;go_wp2_with fail;refine HR.out.mono ?_;rintro y w2 ⟨rfl,hQ⟩;have HQ:=hid hQ;clear HR hQ c1 c2 d2 l1 l2;go_wp2_with (go_at_call 36;refine(Bp.a5h _ _).mono ?_;rintro e w' ⟨rfl,hw'⟩;have hw2:=hw'.symm;subst hw2)
 all_goals
  go_ret;exact⟨Bd (by simp),HQ.out⟩
theorem a3Z(hk:o.k=36)(H:Calls prog 61 #[.pointer (some ⟨pc,0,none⟩)] (Kh pc sr j o w) λx w1=>x=.returned (.tuple #[])/\TwoAt w.heap.size (lnA pc sr j) o.cs w1 /\
   Calls prog 62 #[.pointer (some ⟨sr,0,none⟩),.int .i64 j] w1 λy w2=>y=.returned (.tuple #[])/\Q w2) :
  Calls prog 17 #[.agg (lnA pc sr j),.agg o.cs] w λr w'=>r=.returned (.bool true)/\Q w':=by
 obtain⟨-,b1,b2⟩:=Ir pc sr j o w;unfold Kh at H b1 b2;have HH:=hid H;clear H;go_enter func17,ntmps17;go_upto_region 1 with fail;generalize (w.alloc (.cells (lnA pc sr j) 70)).alloc (.cells o.cs 51)=wB at *
 have c0:=(Ab b1 (j:=0)).trans (show _=some (Value.pointer (some ⟨pc,0,none⟩))from rfl);have d0:=(Ab b2 (j:=0)).trans (show _=some (Value.int .i64 o.k)from rfl);have l1:=heap_lt b1;have l2:=heap_lt b2;rw[hk]at d0;go_wp2_with fail;refine HH.out.mono ?_;rintro x w1 ⟨rfl,⟨f1,f2⟩,H2⟩;have HR:=hid H2;clear H2 HH c0 d0 b1 b2 l1 l2;have c1:=(Ab f1 (j:=1)).trans (show _=some (Value.pointer (some ⟨sr,0,none⟩))from rfl);have c2:=(Ab f1 (j:=2)).trans (show _=some (Value.int .i64 (j:Int))from rfl);have l1:=heap_lt f1;clear f1 f2;go_wp2_with fail;refine HR.out.mono ?_;rintro y w2 ⟨rfl,hQ⟩;have HQ:=hid hQ;clear HR hQ c1 c2 l1;go_wp2_with fail;go_ret;exact⟨rfl,HQ.out⟩
theorem a4A(hk:o.k=37)(H:Calls prog 63 #[.pointer (some ⟨pc,0,none⟩)] (Kh pc sr j o w) λx w1=>∃a b c d,x=.returned (.agg (stA a b c d))/\Below (Kh pc sr j o w).heap.size (Kh pc sr j o w) w1/\∀W,Below (Kh pc sr j o w).heap.size (Kh pc sr j o w) W ->
   Calls prog 64 #[.pointer (some ⟨sr,0,none⟩),.int .i64 j] W λy w2=>y=.returned (.agg (stA a b c d))/\Bw W w2) :
  Calls prog 17 #[.agg (lnA pc sr j),.agg o.cs] w λr w'=>r=.returned (.bool true)/\Bw w w':=by
 obtain⟨hA,b1,b2⟩:=Ir pc sr j o w;unfold Kh at H b1 b2 hA;have HH:=hid H;clear H;go_enter func17,ntmps17;go_upto_region 1 with fail;generalize (w.alloc (.cells (lnA pc sr j) 70)).alloc (.cells o.cs 51)=wB at *
 have c0:=(Ab b1 (j:=0)).trans (show _=some (Value.pointer (some ⟨pc,0,none⟩))from rfl);have d0:=(Ab b2 (j:=0)).trans (show _=some (Value.int .i64 o.k)from rfl);have l1:=heap_lt b1;have l2:=heap_lt b2;rw[hk]at d0;go_wp2_with fail;refine HH.out.mono ?_;rintro x w1 ⟨a,b,c,d,rfl,hb1,H2⟩;have hb2:=hb1.alloc hb1.size (.cells (stA a b c d) 124);have s1:=Ag w1 (.cells (stA a b c d) 124);have HR:=hid H2;have HB1:=hid b1;clear H2 HH c0 d0 b1 b2 l1 l2;go_upto_region 19 with fail;generalize w1.alloc (.cells (stA a b c d) 124)=w2 at *
 generalize w1.heap.size=sb at *
 have f1:w2.heap[w.heap.size]?=some (.cells (lnA pc sr j) 70 (0,0)):=by rw[hb2.block _ (heap_lt HB1.out)];exact HB1.out
 have c1:=(Ab f1 (j:=1)).trans (show _=some (Value.pointer (some ⟨sr,0,none⟩))from rfl);have c2:=(Ab f1 (j:=2)).trans (show _=some (Value.int .i64 (j:Int))from rfl);have l1:=heap_lt f1;clear f1;go_wp2_with fail;refine(HR.out w2 hb2).mono ?_;rintro y w3 ⟨rfl,hb3⟩;have hb4:=hb3.alloc hb3.size (.cells (stA a b c d) 124);have s3:=Ag w3 (.cells (stA a b c d) 124);have HB:=hid (Bc hA (Bc hb2 hb4));clear HR c1 c2 l1;go_upto_region 20 with fail;generalize w3.alloc (.cells (stA a b c d) 124)=w4 at *
 generalize w3.heap.size=sc at *
 have t1:w4.heap[sb]?=some (.cells (stA a b c d) 124 (0,0)):=by rw[hb4.block _ (heap_lt s1)];exact s1
 have u0:=(Ab t1 (j:=0)).trans (show _=some (Value.int .i64 a)from rfl);have u1:=(Ab t1 (j:=1)).trans (show _=some (Value.int .i64 b)from rfl);have u2:=(Ab t1 (j:=2)).trans (show _=some (Value.int .i64 c)from rfl);have u3:=(Ab t1 (j:=3)).trans (show _=some (Value.bool d)from rfl);have v0:=(Ab s3 (j:=0)).trans (show _=some (Value.int .i64 a)from rfl);have v1:=(Ab s3 (j:=1)).trans (show _=some (Value.int .i64 b)from rfl);have v2:=(Ab s3 (j:=2)).trans (show _=some (Value.int .i64 c)from rfl);have v3:=(Ab s3 (j:=3)).trans (show _=some (Value.bool d)from rfl);have lt1:=heap_lt t1;have lt3:=heap_lt s3;clear s1 s3 t1 hb1 hb2 hb3 hb4;go_wp2_with fail;go_ret;exact⟨Bd (by simp),HB.out⟩
theorem a4B(h1:o.k≠33)(h2:o.k≠34)(h3:o.k≠35)(h4:o.k≠36)(h5:o.k≠37):
  Calls prog 17 #[.agg (lnA pc sr j),.agg o.cs] w λr w'=>r=.returned (.bool true)/\Bw w w':=by
 obtain⟨hA,b1,b2⟩:=Ir pc sr j o w;unfold Kh at b1 b2 hA;have HA:=hid hA;have e1:(o.k==33)=false:=by simpa using h1
 have e2:(o.k==34)=false:=by simpa using h2
 have e3:(o.k==35)=false:=by simpa using h3
 have e4:(o.k==36)=false:=by simpa using h4
 have e5:(o.k==37)=false:=by simpa using h5
 clear h1 h2 h3 h4 h5;go_enter func17,ntmps17;go_upto_region 1 with fail;generalize (w.alloc (.cells (lnA pc sr j) 70)).alloc (.cells o.cs 51)=wB at *
 have d0:=(Ab b2 (j:=0)).trans (show _=some (Value.int .i64 o.k)from rfl);have l2:=heap_lt b2;go_wp2_with fail;go_ret;exact⟨rfl,HA.out⟩
end
structure XI(OW:Nat->Nat)(wb:Nat)(V:Nat->Value)(l:Nat->List Value)(vs:Value)(tb:List Pr)(O:Nat->Option (Nat×Tg))(vh vl:Value)(hs:List Hs)(ls:List Ln)(n G:Nat)(w0 w:World):Prop where
 wi:Wz.WI (Zs w0.heap.size O vh vl hs ls) OW wb V l vs tb n w0 w
 hn:hs.length<=n
 ln:ls.length<=n
 cn:∀H∈hs,H.cs.length<=n
 sm:Vk hs<=G
section
variable{OW:Nat->Nat}{wb:Nat}{V:Nat->Value}{l:Nat->List Value}{vs:Value}{tb:List Pr}{O:Nat->Option (Nat×Tg)}{vh vl:Value}{hs:List Hs}{ls:List Ln}{n G:Nat}{w0 w w':World}{mx:Int}
theorem XI.hi(X:XI OW wb V l vs tb O vh vl hs ls n G w0 w):HI w0.heap.size O vh vl hs ls w:=X.wi.rst
theorem XI.below(X:XI OW wb V l vs tb O vh vl hs ls n G w0 w)(hb:Bw w w'):XI OW wb V l vs tb O vh vl hs ls n G w0 w':=⟨X.wi.below hb,X.hn,X.ln,X.cn,X.sm⟩
theorem XI.more(X:XI OW wb V l vs tb O vh vl hs ls n G w0 w){m G':Nat}(hm:n<=m)(hG:G<=G'):XI OW wb V l vs tb O vh vl hs ls m G' w0 w:=⟨X.wi.more hm,Aj X.hn hm,Aj X.ln hm,λH hH=>Aj (X.cn H hH) hm,Aj X.sm hG⟩
theorem XI.un(X:XI OW wb V l vs tb O vh vl hs ls n G w0 w):O wb=none:=by
 cases q:O wb with
 |none=>rfl
 |some t=>
  have:=(X.wi.rlt wb ⟨t,q⟩).2;rw[X.wi.oW]at this
  cases this
theorem XI.b0(X:XI OW wb V l vs tb O vh vl hs ls n G w0 w):w0.heap.size<=w.heap.size:=X.wi.bel.size
theorem XI.step(X:XI OW wb V l vs tb O vh vl hs ls n G w0 w){i:Nat}(hi:i<hs.length){O':Nat->Option (Nat×Tg)}{H':Hs}{m q:Nat}(S:StepH w0.heap.size O (i+1) hs[i] w O' H' w')(hpc:(H'.cs.map Con.pc).take (hs[i]).cs.length=(hs[i]).cs.map Con.pc)(hm:n<=m)(hcn:H'.cs.length<=m)(hsm:H'.sumB<=(hs[i]).sumB+q):∃OW',XI OW' wb V l vs tb O' vh vl (hs.set i H') ls m (G+q) w0 w':=by
 have hI:=X.hi;have h0:=X.b0;have hU:=hI.upd hi S hpc h0;have BEL:Bw w0 w':=⟨S.os.1.trans X.wi.bel.os,S.os.2.1.trans X.wi.bel.tape,S.os.2.2.trans X.wi.bel.output,Aj h0 S.sz,λb hb=>by
  rw[S.keep b (by omega) (λt e=>by have:=hI.oge b _ e;omega),X.wi.bel.block b hb]⟩
 obtain⟨OW',W'⟩:=X.wi.rest (Z':=Zs w0.heap.size O' vh vl (hs.set i H') ls) BEL S.sz (λb hl _ hn=>S.keep b hl (λt e=>hn ⟨_,e⟩)) (by
  rw[S.keep wb X.wi.lt (λt e=>by rw[X.un]at e;cases e)];exact X.wi.blk) hU (λb ⟨t,ht⟩=>⟨hU.olt b t ht,by
   by_cases hl:b<w.heap.size
   ·exact .inl ⟨t,by rw[<-S.old b hl];exact ht⟩
   ·exact .inr (.inl (by omega))⟩) (a9U _ _ _ _ _ _)
 refine⟨OW',W'.more hm,by rw[List.length_set];exact Aj X.hn hm,Aj X.ln hm,λH hH=>?_,Aj (a3T hs i hi H' q hsm) (by have:=X.sm;omega)⟩;rcases List.mem_or_eq_of_mem_set hH with e|e
 ·exact Aj (X.cn H e) hm
 ·rw[e];exact hcn
def XQ(wb:Nat)(V:Nat->Value)(l:Nat->List Value)(vs:Value)(tb:List Pr)(O:Nat->Option (Nat×Tg))(vh vl:Value)(ls:List Ln)(n G:Nat)(w0 w w':World):Prop:=
 (∃OW' O' hs',XI OW' wb V l vs tb O' vh vl hs' ls n G w0 w')/\∀b,b<w.heap.size->(∀i t,O b≠some (i+1,t))->w'.heap[b]?=w.heap[b]?
theorem XI.pair(X:XI OW wb V l vs tb O vh vl hs ls n G w0 w){W:World}(hb:Bw w W){i:Nat}(hi:i<hs.length){q:Nat}(P:Wv w0.heap.size O (i+1) hs[i] q W w'):XQ wb V l vs tb O vh vl ls (n+1) (G+q) w0 w w':=by
 obtain⟨O',H',S,hpc,hsm⟩:=P;have hlen:H'.cs.length=(hs[i]).cs.length:=by have:=congrArg List.length hpc;simpa using this
 obtain⟨OW',X'⟩:=(X.below hb).step hi S (by rw[hpc,Aq (by simp)]) (Al n) (by rw[hlen];exact Nat.le_succ_of_le (X.cn _ (As hi))) hsm;exact⟨⟨OW',O',_,X'⟩,λb hl hn=>by rw[S.keep b (Af hl hb.size) (λt=>hn i t),hb.block b hl]⟩
theorem XI.two(X:XI OW wb V l vs tb O vh vl hs ls n G w0 w){i pc sr j:Nat}{o:OpV}{w1:World}(kp:KpH O (i+1) (Kh pc sr j o w) w1):TwoAt w.heap.size (lnA pc sr j) o.cs w1:=by
 obtain⟨-,b1,b2⟩:=Ir pc sr j o w;have hn:∀b,w.heap.size<=b->∀t,O b≠some (i+1,t):=λb hb t e=>by have:=X.hi.olt b _ e;omega
 exact⟨by rw[kp.2 _ (heap_lt b1) (hn _ (Ac _))];exact b1,by rw[kp.2 _ (heap_lt b2) (hn _ (by omega))];exact b2⟩
theorem a8A(X:XI OW wb V l vs tb O vh vl hs ls n G w0 w){k:Nat}(hk:k<ls.length)(o:OpV)(hz:G+o.s.size<=1900000)(Gw:Gl w0 mx):
  Calls prog 17 #[.agg (lnA (ls[k]).pc (ls[k]).sr (ls[k]).j),.agg o.cs] w λr w'=>r=.returned (.bool true)/\XQ wb V l vs tb O vh vl ls (n+1) (G+o.s.size) w0 w w':=by
 obtain⟨H,c,e1,e2,e3,e4⟩:=X.hi.lin _ (As hk);obtain⟨hi,rfl⟩:=List.getElem?_eq_some_iff.1 e1;obtain⟨hj,rfl⟩:=List.getElem?_eq_some_iff.1 e2;rw[e3,e4];generalize (ls[k]).i=i at *
 generalize (ls[k]).j=j at *
 obtain⟨hA,-⟩:=Ir ((hs[i]).cs[j]).pc (hs[i]).sr j o w;have XB:=X.below hA;have hB:=XB.hi.hou i hi;have hlt:∀b t,O b=some (i+1,t)->b<(Kh ((hs[i]).cs[j]).pc (hs[i]).sr j o w).heap.size:=λb t e=>XB.hi.olt b _ e;have hsm:=Ze hs i hi;have hs2:=X.sm;have none_:∀ {w':World},Bw w w'->XQ wb V l vs tb O vh vl ls (n+1) (G+o.s.size) w0 w w':=λhb=>⟨⟨_,_,_,(X.below hb).more (Al n) (by omega)⟩,λb hl _=>hb.block b hl⟩;by_cases h33:o.k=33
 ·refine a3X h33 ((b3C hB hlt XB.wi.bel Gw hj o.s (by omega)).mono ?_);rintro x w1 ⟨e,rfl,kp,H2⟩;refine⟨e,rfl,X.two kp,H2.mono ?_⟩;rintro y w2 ⟨rfl,P⟩;exact⟨rfl,X.pair hA hi P⟩
 by_cases h34:o.k=34
 ·refine a7Z h34 ((b8H hB hlt hj (by omega)).mono ?_);rintro x w1 ⟨e,rfl,kp,H2⟩;refine⟨e,rfl,X.two kp,H2.mono ?_⟩;rintro y w2 ⟨rfl,P⟩;obtain⟨⟨a,b,c,d⟩,f⟩:=X.pair hA hi P;exact⟨rfl,⟨a,b,c,d.more (Ac _) (by omega)⟩,f⟩
 by_cases h35:o.k=35
 ·refine a3Y h35 ((b3E hB hlt hj (by omega) o.a).mono ?_);rintro x w1 ⟨e,t,rfl,kp,H2⟩;refine⟨e,t,rfl,X.two kp,H2.mono ?_⟩;rintro y w2 ⟨rfl,P⟩;obtain⟨⟨a,b,c,d⟩,f⟩:=X.pair hA hi P;exact⟨rfl,⟨a,b,c,d.more (Ac _) (by omega)⟩,f⟩
 by_cases h36:o.k=36
 ·refine a3Z h36 ((b3F hB hlt hj (by omega)).mono ?_);rintro x w1 ⟨rfl,kp,H2⟩;refine⟨rfl,X.two kp,H2.mono ?_⟩;rintro y w2 ⟨rfl,P⟩;obtain⟨⟨a,b,c,d⟩,f⟩:=X.pair hA hi P;exact⟨rfl,⟨a,b,c,d.more (Ac _) (by omega)⟩,f⟩
 by_cases h37:o.k=37
 ·exact(a4A h37 (b3G hB hj (by omega))).mono (by rintro r w' ⟨rfl,hb⟩;exact⟨rfl,none_ hb⟩)
 ·exact(a4B h33 h34 h35 h36 h37).mono (by rintro r w' ⟨rfl,hb⟩;exact⟨rfl,none_ hb⟩)
end
section
variable{OW:Nat->Nat}{wb:Nat}{V:Nat->Value}{l:Nat->List Value}{vs:Value}{tb:List Pr}{O:Nat->Option (Nat×Tg)}{vh vl:Value}{hs:List Hs}{ls:List Ln}{n G:Nat}{w0 w w1 w3:World}{mx:Int}
theorem XI.addl(X:XI OW wb V l vs tb O vh vl hs ls n G w0 w){ln:Ln}(hle:ls.length+1<=n)(hl:c1C hs ln){o:Obj}{g cap:Nat}(hg:(w.alloc o).grownBy w3 vl.ownBlock)(hat:vl.ownBlock=some g\/g=(w.alloc o).heap.size)(how:w3.ownsRow w0.heap.size 70 3 (.slice (some ⟨g,0,none⟩) (ls.length+1) cap) (ls.length+1) (lsP ls++[.pointer (some ⟨ln.pc,0,none⟩),.pointer (some ⟨ln.sr,0,none⟩),.int .i64 (ln.j:Int)])):
  (∃OW' O',XI OW' wb V l vs tb O' vh (.slice (some ⟨g,0,none⟩) (ls.length+1) cap) hs (ls++[ln]) n G w0 (w3.setCell ⟨wb,6,none⟩ (.slice (some ⟨g,0,none⟩) (ls.length+1) cap)))/\∀b,b<w.heap.size->(∀t,O b=some t->t=(0,.hrow))->b≠wb->(w3.setCell ⟨wb,6,none⟩ (.slice (some ⟨g,0,none⟩) (ls.length+1) cap)).heap[b]?=w.heap[b]?:=by
 have hI:=X.hi;obtain⟨O',H',hn,hk⟩:=hI.addl hl hg hat how X.un X.wi.lt X.wi.wge (.slice (some ⟨g,0,none⟩) (ls.length+1) cap) 6;have h0:=X.b0;have hA:Bw w (w.alloc o):=bA _ o;have hzs:(w3.setCell ⟨wb,6,none⟩ (.slice (some ⟨g,0,none⟩) (ls.length+1) cap)).heap.size=w3.heap.size:=by simp[World.setCell]
 have hz3:=hg.size;have hzA:=hA.size;have hB3:Below 0 w w3:=(hA.mono (Ah _)).grown hg (Ah _) (λ_ _=>Ah _);have hblk:w3.heap[wb]?=some (.cells (Wz.wlC (Zs w0.heap.size O vh vl hs ls) V vs) 37 (0,0)):=by
  rw[hg.block wb (Af X.wi.lt hzA) (λe=>by have:=hI.olr wb e.symm;rw[X.un]at this;cases this),hA.block wb X.wi.lt];exact X.wi.blk
 have hkeep:∀b,b<w.heap.size->(∀t,O b=some t->t=(0,.hrow))->b≠wb->(w3.setCell ⟨wb,6,none⟩ (.slice (some ⟨g,0,none⟩) (ls.length+1) cap)).heap[b]?=w.heap[b]?:=λb hb h1 h2=>by
  rw[Aw _ _ _ _ (by simpa using h2),hg.block b (by omega) (λe=>by have:=h1 _ (hI.olr b e.symm);cases this),hA.block b hb]
 have BEL:Bw w0 (w3.setCell ⟨wb,6,none⟩ (.slice (some ⟨g,0,none⟩) (ls.length+1) cap)):=⟨hB3.os.trans X.wi.bel.os,hB3.tape.trans X.wi.bel.tape,hB3.output.trans X.wi.bel.output,by omega,λb hb=>by
  have:=X.wi.wge;rw[hk b (by omega) (λt e=>by have:=hI.oge b _ e;omega) (by omega),X.wi.bel.block b hb]⟩
 obtain⟨OW',W'⟩:=X.wi.rest (Z':=Zs w0.heap.size O' vh (.slice (some ⟨g,0,none⟩) (ls.length+1) cap) hs (ls++[ln])) BEL (by omega) (λb hl h1 h2=>hk b hl (λt e=>h2 ⟨t,e⟩) h1) (by
  rw[heap_setCell_same w3 wb 6 _ _ _ hblk];rfl) H' (λb ⟨t,ht⟩=>⟨H'.olt b t ht,by
   rcases hn b t ht with q|q
   ·exact .inl ⟨t,q⟩
   ·exact .inr (.inl q)⟩) (a9U _ _ _ _ _ _)
 exact⟨⟨OW',O',W',X.hn,by rw[A0z];exact hle,X.cn,X.sm⟩,hkeep⟩
theorem XI.addh(X:XI OW wb V l vs tb O vh vl hs ls n G w0 w){On:Nat->Option (Nat×Tg)}{H:Hs}(hb:Bw w w1)(N:HsI w0.heap.size On (hs.length+1) H w1)(hcs:H.cs=[])
  (hOn:∀b t,On b=some t->t.1=hs.length+1/\b<w1.heap.size/\w0.heap.size<=b/\(w.heap.size<=b\/(O b=none/\OW b=7)))
  {o:Obj} {g cap:Nat} (hg:(w1.alloc o).grownBy w3 vh.ownBlock) (hat:vh.ownBlock=some g\/g=(w1.alloc o).heap.size) (how:w3.ownsRow w0.heap.size 66 2 (.slice (some ⟨g,0,none⟩) (hs.length+1) cap) (hs.length+1) (hsP hs++[.pointer (some ⟨H.ps,0,none⟩),.pointer (some ⟨H.sr,0,none⟩)])) :
  ∃OW' O',XI OW' wb V l vs tb O' (.slice (some ⟨g,0,none⟩) (hs.length+1) cap) vl (hs++[H]) ls (n+1) G w0 (w3.setCell ⟨wb,5,none⟩ (.slice (some ⟨g,0,none⟩) (hs.length+1) cap)):=by
 have hI:=X.hi;have hOw:On wb=none:=by
  cases q:On wb with
  |none=>rfl
  |some t=>
   rcases(hOn wb t q).2.2.2 with x|x
   ·have:=X.wi.lt;omega
   ·have:=X.wi.oW;omega
 obtain⟨O',H',hn,hk⟩:=hI.add hb N (λb t ht=>by
  obtain⟨a1,a2,a3,a4⟩:=hOn b t ht;exact⟨a1,a2,a3,a4.imp_right (·.1)⟩) hg hat how X.un hOw X.wi.lt X.wi.wge (.slice (some ⟨g,0,none⟩) (hs.length+1) cap) 5
 have h0:=X.b0;have hA:Bw w1 (w1.alloc o):=bA _ o;have hzs:(w3.setCell ⟨wb,5,none⟩ (.slice (some ⟨g,0,none⟩) (hs.length+1) cap)).heap.size=w3.heap.size:=by simp[World.setCell]
 have hz3:=hg.size;have hzA:=hA.size;have hz1:=hb.size;have hB3:Below 0 w w3:=((Bc hb hA).mono (Ah _)).grown hg (Ah _) (λ_ _=>Ah _);have hblk:w3.heap[wb]?=some (.cells (Wz.wlC (Zs w0.heap.size O vh vl hs ls) V vs) 37 (0,0)):=by
  have hl:=X.wi.lt;rw[hg.block wb (by omega) (λe=>by have:=hI.ohr wb e.symm;rw[X.un]at this;cases this),hA.block wb (by omega),hb.block wb hl];exact X.wi.blk
 have BEL:Bw w0 (w3.setCell ⟨wb,5,none⟩ (.slice (some ⟨g,0,none⟩) (hs.length+1) cap)):=⟨hB3.os.trans X.wi.bel.os,hB3.tape.trans X.wi.bel.tape,hB3.output.trans X.wi.bel.output,by omega,λb hb=>by
  have:=X.wi.wge;rw[hk b (by omega) (λt e=>by have:=hI.oge b _ e;omega) (by omega),X.wi.bel.block b hb]⟩
 obtain⟨OW',W'⟩:=X.wi.rest (Z':=Zs w0.heap.size O' (.slice (some ⟨g,0,none⟩) (hs.length+1) cap) vl (hs++[H]) ls) BEL (by omega) (λb hl h1 h2=>hk b hl (λt e=>h2 ⟨t,e⟩) h1) (by
  rw[heap_setCell_same w3 wb 5 _ _ _ hblk];rfl) H' (λb ⟨t,ht⟩=>⟨H'.olt b t ht,by
   rcases hn b t ht with q|q|q
   ·exact .inl ⟨t,q⟩
   ·exact .inr (.inl q)
   ·rcases(hOn b t q).2.2.2 with x|x
    ·exact .inr (.inl x)
    ·exact .inr (.inr x.2)⟩) (a9U _ _ _ _ _ _)
 refine⟨OW',O',W'.more (Al n),by rw[A0z];have:=X.hn;simp;omega,Nat.le_succ_of_le X.ln,λK hK=>?_,?_⟩
 ·rcases List.mem_append.1 hK with q|q
  ·exact Nat.le_succ_of_le (X.cn K q)
  ·rw[C4z]at q;rw[q,hcs];simp
 ·have e:H.sumB=0:=by unfold Hs.sumB;rw[hcs];rfl
  have:=X.sm;unfold Vk at this ⊢;rw[B2z,List.sum_append];simp[e];omega
theorem XI.keepI(X:XI OW wb V l vs tb O vh vl hs ls n G w0 w)(hn:n<=1000000)(hb:Bw w w1)(v:Value)(k:Nat)(xs:List Value)(hv:w1.ownsRow w.heap.size 3 1 v k xs)(hk:k<=1000):
  Calls prog 52 #[.pointer (some ⟨wb,0,none⟩),v] w1 λx w'=>x=.returned (.tuple #[])/\(∃OW' V' l',XI OW' wb V' l' vs tb O vh vl hs ls (n+1) G w0 w')/\∀b,b<w.heap.size->OW b=7->w'.heap[b]?=w.heap[b]?:=by
 have h:=X.wi;have h2:=h.below hb;have hlv:=Cb hv;have hVl:=Cb (h.rw_ 0 (by omega)).1;refine(Ym wb w0.heap.size w.heap.size (Wz.wlC (Zs w0.heap.size O vh vl hs ls) V vs) 37 (l 0) (V 0) v k xs w1 h2.blk rfl (h2.rw_ 0 (by omega)).1 (by have:=(h.few 0 (by omega)).1;omega) hv hk (λe=>?_) (λr hr e=>?_) (λe=>?_) (Aj h.bel.size hb.size) hb.size).mono ?_
 ·have:=(hlv wb e).1;have:=h.lt;omega
 ·have:=(hlv r e).1;have:=(hVl r hr).2;omega
 ·have:=(h.rw_ 0 (by omega)).2 wb e;rw[h.oW]at this;omega
 ·rintro x w' ⟨rfl,K⟩;obtain⟨O',V',l',h3⟩:=h.keep (j:=0) hb (by omega) (λr hr=>(hlv r hr).1) K;refine⟨rfl,⟨O',V',l',h3,Nat.le_succ_of_le X.hn,Nat.le_succ_of_le X.ln,λH hH=>Nat.le_succ_of_le (X.cn H hH),X.sm⟩,λb hbb h1=>?_⟩;rw[K.kx.2 b (Af hbb hb.size) ?_,hb.block b hbb];simp only[B3z,C3z,D3z,B5z,not_or];exact⟨λe=>by rw[e,h.oW]at h1;omega,λe=>by have:=(h.rw_ 0 (by omega)).2 b e;omega,λe=>by have:=(hlv b e).1;omega⟩
end
def a8B(L:List Int)(a:Oa)(w:World):Prop:=∀i (h:i<L.length),∃g,a=some ⟨g,0,none⟩/\g<w.heap.size/\w.cell? ⟨g,i,none⟩=some (.int .i64 L[i])
theorem a8B.below{L:List Int}{a:Oa}{w w':World}(h:a8B L a w)(hb:Bw w w'):a8B L a w':=λi hi=>by
 obtain⟨g,e1,e2,e3⟩:=h i hi;exact⟨g,e1,Af e2 hb.size,Aa hb e3⟩
theorem Zg(L:List Int)(a b:Oa)(ca cb:Nat)(w:World)(ha:a8B L a w)(hb:a8B L b w)(hl:L.length<=1000000):
  Calls prog 51 #[.slice a L.length ca,.slice b L.length cb] w λe w'=>e=.returned (.bool true)/\Bw w w':=by
 have HA:=hid ha;have HB:=hid hb;clear ha hb;go_enter func51,ntmps51;go_wp2_with fail
 go_loopw [5] (λi wr=>∃k:Nat,k<=L.length/\i=.int .i64 k/\Bw w wr) (λi _=>L.length-(intOf i).toNat)
 case atStart=>exact⟨0,Ah _,rfl,Ad _ _⟩
 case round=>
  obtain⟨k,hk,rfl,hbw⟩:=hrel;by_cases hlt:k<L.length
  ·obtain⟨g,rfl,hg,c1⟩:=(HA.out.below hbw) k hlt;obtain⟨g2,rfl,hg2,c2⟩:=(HB.out.below hbw) k hlt;generalize L[k]=sv at *
   go_wp2_with fail
   go_quiet (fail)
   go_wp2;exact⟨⟨k+1,by omega,by go_num,below_drewN hbw _⟩,by simp[intOf];omega⟩
  ·have hge:¬(k:Int)<(L.length:Int):=by omega
   go_wp2;go_ret;exact⟨rfl,hbw⟩
end Go.Proofs.YtbiggccolpchcaaGreatDoor
