/- The program's Render: the bytes that the plain mathematics tells; nothing old in memory turns. -/
import Derived.Test.YtbiggccolpchcaaGreatDoorJoin08
import Derived.Lib.AppendIntMem
import Derived.Deep.Cut
set_option maxRecDepth 100000
set_option maxHeartbeats 6000000
namespace Go.Proofs.YtbiggccolpchcaaGreatDoor
open Go.RowKit _root_.Go.Proofs.Tryz
abbrev Pr2:=By×By
def Nc(fs:List Pr2)(a:Oa)(w:World):Prop:=
 ∀i (h:i<fs.length),∃g o,a=some ⟨g,o,none⟩/\g<w.heap.size/\w.cell? ⟨g,o+i*2,none⟩=some (.string fs[i].1)/\w.cell? ⟨g,o+i*2+1,none⟩=some (.string fs[i].2)
theorem Nc.below{fs:List Pr2}{a:Oa}{w w':World}(h:Nc fs a w)(hb:Bw w w'):Nc fs a w':=λi hi=>by
 obtain⟨g,o,h1,h2,h3,h4⟩:=h i hi;exact⟨g,o,h1,Af h2 hb.size,Aa hb h3,Aa hb h4⟩
def Cm(fs:List Pr2):L8:=fs.flatMap (λf=>Gm f.1.data.toList f.2.data.toList)
theorem Tu(fs:List Pr2)(k:Nat)(h:k<fs.length):Cm (fs.take (k+1))=Cm (fs.take k)++Gm fs[k].1.data.toList fs[k].2.data.toList:=by
 unfold Cm;rw[A4z h,List.flatMap_append];simp
theorem Tv(fs:List Pr2)(k:Nat):(Cm (fs.take k)).length<=(Cm fs).length:=by
 have h:Cm fs=Cm (fs.take k++fs.drop k):=by rw[E4z]
 rw[h];unfold Cm;rw[List.flatMap_append,A0z];omega
def Tw:L8:=[67,111,110,116,101,110,116,45,76,101,110,103,116,104]
def a6P:L8:=[67,111,110,110,101,99,116,105,111,110]
def Nd:L8:=[99,108,111,115,101]
def Tx:L8:=[72,69,65,68]
def Ji(st:Int):L8:=[72,84,84,80,47,49,46,49,32]++Fp 10 st++[32]++(Pm.a4h st).data.toList++[13,10]
def c0A(m:L8)(body:L8)(cl:Bool):L8:=
 Gm Tw (Fp 10 body.length)++(if cl=true then Gm a6P Nd else[])++[13,10]++(if m=Tx then[]else body)
def Fr(m:L8)(st:Int)(fs:List Pr2)(body:L8)(cl:Bool):L8:=Ji st++Cm fs++c0A m body cl
theorem a9E:∀(l:List (Int×L8)) (n:Int),(∀x∈l,x.2.length<=40)->(Pm.a2q l n).length<=40
 |[],_,_=>by simp[Pm.a2q]
 |(c,t)::r,n,h=>by
  rw[Pm.a2q]
  split
  ·exact h (c,t) (by simp)
  ·exact a9E r n (λx hx=>h x (by simp[hx]))
theorem Md(n:Int):(Pm.a4h n).size<=40:=a9E Pm.a0t n (by decide)
theorem Ty{T e:TypeId}{B g:Nat}{bs:List Value}{w w':World}(h:Lib.IsBuilder T e B g bs w)(hb:Bw w w'):Lib.IsBuilder T e B g bs w':=by
 have hl:∀ {o:Obj},w.heap[g]?=some o->w'.heap[g]?=some o:=λ{o} ho=>by
  rw[hb.block g ?_]
  ·exact ho
  ·rcases B8z g w.heap.size with h'|h'
   ·exact h'
   ·simp[Array.getElem?_eq_none h']at ho
 rcases h with⟨hB,v,hg,ho,hn⟩|⟨hB,v,hg,ho,hn⟩
 ·exact .inl ⟨hB,v,hl hg,Be ho hb,hn⟩
 ·exact .inr ⟨hB,v,hl hg,Be ho hb,hn⟩
theorem a2A(n:Int)(h0:-9223372036854775808<=n)(h1:n<=9223372036854775807)(w:World)(ht:Lib.TabIs prog w "internal/strconv.uint64pow10" .u64 Lib.pow10Tab):
  Calls prog 195 #[.int .i64 n] w λe w'=>e=.returned (.string ⟨(Fp 10 n).toArray⟩)/\Bw w w':=by
 refine(Tryz.strconv_Itoa n h0 h1 w ht).mono ?_;rintro e w' ⟨rfl,k,os,rfl⟩;exact⟨by rw[b4I],Lib.below_grow _ _ (Ac _) _ _⟩
def Mm(g:Nat)(st:Int)(v:Value)(body:By)(cl:Bool)(w:World):Prop:=w.heap[g]?=some (.cells #[.int .i64 st,v,.string body,.bool cl] 49 (0,0))
theorem Mm.below{g:Nat}{st:Int}{v:Value}{body:By}{cl:Bool}{w w':World}(h:Mm g st v body cl w){B:Nat}(hb:Below B w w')(hg:g<B):Mm g st v body cl w':=by
 unfold Mm at *;rw[hb.block g hg];exact h
theorem Mm.cells{g:Nat}{st:Int}{v:Value}{body:By}{cl:Bool}{w:World}(h:Mm g st v body cl w):w.cell? ⟨g,0,none⟩=some (.int .i64 st)/\w.cell? ⟨g,1,none⟩=some v/\w.cell? ⟨g,2,none⟩=some (.string body)/\w.cell? ⟨g,3,none⟩=some (.bool cl):=by
 refine⟨?_,?_,?_,?_⟩<;>(rw[Ab h];rfl)
theorem Mm.lt{g:Nat}{st:Int}{v:Value}{body:By}{cl:Bool}{w:World}(h:Mm g st v body cl w):g<w.heap.size:=by
 rcases B8z g w.heap.size with h'|h'
 ·exact h'
 ·unfold Mm at h;simp[Array.getElem?_eq_none h']at h
theorem b1Q(B g:Nat)(st:Int)(it rs:By)(W:World)(hp:Ji st=[72,84,84,80,47,49,46,49,32]++it.data.toList++[32]++rs.data.toList++[13,10])(hi:it.size<=65)(hr:rs.size<=40)(h1:Oz B g [] W)(h2:B<=W.heap.size):
  Calls prog 193 #[.pointer (some ⟨g,0,none⟩),.string (⟨#[72,84,84,80,47,49,46,49,32]⟩++it++⟨#[32]⟩++rs++⟨#[13,10]⟩)] W λe w'=>(∃n,e=.returned (.tuple #[.int .i64 n,.nilIface]))/\Oz B g (Ji st) w'/\Below B W w':=by
 obtain⟨x,hx⟩:∃x:By,x=⟨#[72,84,84,80,47,49,46,49,32]⟩++it++⟨#[32]⟩++rs++⟨#[13,10]⟩:=⟨_,rfl⟩;have hz:x.size<=200:=by
  have e1:(⟨#[72,84,84,80,47,49,46,49,32]⟩:By).size=9:=rfl;have e2:(⟨#[32]⟩:By).size=1:=rfl;have e3:(⟨#[13,10]⟩:By).size=2:=rfl;rw[hx];simp only[E7z];omega
 have hd:x.data.toList=Ji st:=by
  rw[hx,hp];simp only[C8z,D7z]
 rw[<-hx];refine(Tryz.Builder_WriteString _ _ _ x _ h1 (by rw[Gr,C0z];omega) h2).mono ?_;rintro e w' ⟨rfl,h3,h4⟩;refine⟨⟨_,rfl⟩,?_,h4⟩;have:=Hj h3;rw[hd,F4z]at this;exact this
theorem a2B(m:By)(st:Int)(fs:List Pr2)(a:Oa)(ca:Nat)(body:By)(cl:Bool)(w:World)
  (s0:-9223372036854775808<=st) (s1:st<=9223372036854775807) (hf:Nc fs a w) (hn:fs.length<=1000000000) (hz:(Cm fs).length+body.size<=4398046511104)
  (ht:Lib.TabBelow prog w.heap.size w "internal/strconv.uint64pow10" .u64 Lib.pow10Tab) :
  Calls prog 150 #[.string m,.agg #[.int .i64 st,.slice a fs.length ca,.string body,.bool cl]] w λe w'=>e=.returned (.string ⟨(Fr m.data.toList st fs body.data.toList cl).toArray⟩)/\Bw w w':=by
 have HF:=hid hf;have HT:=hid ht;clear hf ht;have hB1:=bA w (.cells #[.int .i64 st,.slice a fs.length ca,.string body,.bool cl] 49);have hB2:=hB1.alloc hB1.size (.cells #[.pointer none,.slice none 0 0] 265);have an1:Mm w.heap.size st (.slice a fs.length ca) body cl (w.alloc (.cells #[.int .i64 st,.slice a fs.length ca,.string body,.bool cl] 49)):=Ag w _;have z1:(w.alloc (.cells #[.int .i64 st,.slice a fs.length ca,.string body,.bool cl] 49)).heap.size=w.heap.size+1:=by simp
 have an2:=an1.below (bA _ (.cells #[.pointer none,.slice none 0 0] 265)) an1.lt;have bu2:Oz (w.heap.size+1) (w.heap.size+1) [] ((w.alloc (.cells #[.int .i64 st,.slice a fs.length ca,.string body,.bool cl] 49)).alloc (.cells #[.pointer none,.slice none 0 0] 265)):=by
  have:=Lib.fresh_isBuilder 265 5 (w.alloc (.cells #[.int .i64 st,.slice a fs.length ca,.string body,.bool cl] 49));rw[z1]at this;exact this
 have z2:w.heap.size+2<=((w.alloc (.cells #[.int .i64 st,.slice a fs.length ca,.string body,.bool cl] 49)).alloc (.cells #[.pointer none,.slice none 0 0] 265)).heap.size:=by simp
 have HI:=hid (λW (hW:Bw w W)=>a2A st s0 s1 W (HT.out W hW));have hil:=Im (b:=10) (n:=st) (by omega) s0 s1;have hrl:=Md st;generalize hIT:(⟨(Fp 10 st).toArray⟩:By)=it at *
 have hitd:it.data.toList=Fp 10 st:=by rw[<-hIT]
 have hitz:it.size<=65:=by
  have:it.data.toList.length=it.size:=by simp
  rw[hitd]at this;omega
 have HR:=hid (λW=>a0I st W);have HPRE:Hid (Ji st=[72,84,84,80,47,49,46,49,32]++it.data.toList++[32]++(Pm.a4h st).data.toList++[13,10]):=by unfold Hid Ji;rw[hitd]
 have hpl:(Ji st).length<=200:=by
  rw[HPRE.out];have h1:it.data.toList.length=it.size:=by simp
  have h2:(Pm.a4h st).data.toList.length=(Pm.a4h st).size:=by simp
  simp only[A0z,A9z,C0z];omega
 clear hIT hitd hB1 an1 z1 hil;generalize Pm.a4h st=rs at *
 have HWS:=hid (λW h1 h2=>b1Q (w.heap.size+1) (w.heap.size+1) st it rs W HPRE.out hitz hrl h1 h2);go_enter func150,ntmps150;go_wp2_with fail;generalize (w.alloc (.cells #[.int .i64 st,.slice a fs.length ca,.string body,.bool cl] 49)).alloc (.cells #[.pointer none,.slice none 0 0] 265)=w2 at *
 have c0:=an2.cells.1;have al2:=an2.lt;have BU:=hid bu2;have AN:=hid an2;have HB2:=hid hB2;have Z2:=hid z2;clear bu2 an2 hB2 z2 HPRE;go_cut [4]from 8 (λr wx=>r=.string ⟨#[]⟩/\Hid (Mm w.heap.size st (.slice a fs.length ca) body cl wx/\Oz (w.heap.size+1) (w.heap.size+1) (Ji st) wx/\Bw w wx/\w.heap.size+2<=wx.heap.size))
 case first=>
  go_region_with (first
   |(go_at_call 195;refine(HI.out _ HB2.out.drew).mono ?_;rintro e w3 ⟨rfl,hb3⟩;have c03:=Aa hb3 (show w2.drew.cell? _=_ from c0);have al3:w.heap.size<w3.heap.size:=Af al2 (by simpa using hb3.size);have D3:=hid (Bc (Ad w2.heap.size w2).drew hb3);clear hb3)
   |(go_at_call 134;refine(HR.out _).mono ?_;rintro e w4 ⟨rfl,rfl⟩)
   |(go_at_call 193;refine(HWS.out _ (Ty BU.out D3.out) (Aj (Aj (Al _) Z2.out) D3.out.size)).mono ?_;rintro e w5 ⟨⟨n5,rfl⟩,h5,hb5⟩;have H5:=hid (And.intro h5 hb5);clear h5 hb5))
  all_goals (try go_wp2_with fail)
  all_goals go_meet
  all_goals exact⟨rfl,(AN.out.below D3.out al2).below H5.out.2 (E1z _),H5.out.1,(HB2.out.trans (D3.out.mono HB2.out.size)).trans (H5.out.2.mono (Al _)),Aj Z2.out (Aj D3.out.size H5.out.2.size)⟩
 case rest=>
  clear HWS HR HI AN BU HB2 Z2 al2 c0;obtain⟨rfl,hc⟩:=hcut;obtain⟨an,bu,hB,hs⟩:=hc.out;have c1:=an.cells.2.1;have al:=an.lt;have J0:=hid (And.intro an (And.intro bu (And.intro hB hs)));clear an bu hB hs hc;go_wp2_with fail
  go_loopw [7,22] (λ_ i wr=>∃k:Nat,k<=fs.length/\i=.int .i64 k/\Hid (Mm w.heap.size st (.slice a fs.length ca) body cl wr/\Oz (w.heap.size+1) (w.heap.size+1) (Ji st++Cm (fs.take k)) wr/\Bw w wr/\w.heap.size+2<=wr.heap.size)) (λ_ i _=>fs.length-(intOf i).toNat)
  case atStart=>exact⟨0,Ah _,rfl,J0.out.1,by simpa[Cm]using J0.out.2.1,J0.out.2.2⟩
  case round=>
   clear J0;obtain⟨k,hk,rfl,I⟩:=hrel;by_cases hlt:k<fs.length
   ·obtain⟨g,o,rfl,hg,hc1,hc2⟩:=(HF.out.below I.out.2.2.1) k hlt;have HN:=hid (Tu fs k hlt);have hle:=Tv fs (k+1);rw[HN.out,A0z]at hle;generalize fs[k].1=nm at *
    generalize fs[k].2=vl at *
    have hfl:(Gm nm.data.toList vl.data.toList).length=nm.size+vl.size+4:=by simp[Gm];omega
    have hA:=bA wr (.cells #[.string nm,.string vl] 131);have HWF:=hid (Hz (w.heap.size+1) (w.heap.size+1) (Ji st++Cm (fs.take k)) nm vl _ (Ty I.out.2.1 hA) (by rw[A0z];omega) (Aj (Aj (Al _) I.out.2.2.2) hA.size));have I2:Hid (Mm w.heap.size st (.slice (some ⟨g,o,none⟩) fs.length ca) body cl (wr.alloc (.cells #[.string nm,.string vl] 131))/\Bw w (wr.alloc (.cells #[.string nm,.string vl] 131))/\w.heap.size+2<=(wr.alloc (.cells #[.string nm,.string vl] 131)).heap.size):=⟨I.out.1.below hA I.out.1.lt,Bc I.out.2.2.1 hA,Aj I.out.2.2.2 hA.size⟩;clear hA hle hfl;go_wp2_with fail;refine HWF.out.mono ?_;rintro e w1 ⟨rfl,bu1,hb1⟩;have J1:Hid (Mm w.heap.size st (.slice (some ⟨g,o,none⟩) fs.length ca) body cl w1/\Oz (w.heap.size+1) (w.heap.size+1) (Ji st++Cm (fs.take (k+1))) w1/\Bw w w1/\w.heap.size+2<=w1.heap.size):=by
     refine⟨I2.out.1.below hb1 (E1z _),?_,I2.out.2.1.trans (hb1.mono (Al _)),Aj I2.out.2.2 hb1.size⟩;rw[HN.out,<-C5z];exact bu1
    clear HWF I I2 bu1 hb1 HN;go_wp2;exact⟨⟨k+1,by omega,by go_num,J1.out⟩,by simp[intOf];omega⟩
   ·have HTK:Hid (fs.take k=fs):=Aq (by omega);rw[HTK.out]at I;obtain⟨an,bu,hB,hs⟩:=I.out;obtain⟨c0,c1,c2,c3⟩:=an.cells;have al:=an.lt;clear HTK I;have hbl:body.data.toList.length=body.size:=by simp
    have HI:=hid (λW (hW:Bw w W)=>a2A (body.size:Int) (by omega) (by omega) W (HT.out W hW));have hll:=Im (b:=10) (n:=(body.size:Int)) (by omega) (by omega) (by omega);generalize hLT:(⟨(Fp 10 (body.size:Int)).toArray⟩:By)=lt at *
    have hld:lt.data.toList=Fp 10 (body.data.toList.length:Int):=by rw[<-hLT,hbl]
    have hlz:lt.size<=65:=by
     have:lt.data.toList.length=lt.size:=by simp
     rw[hld,hbl]at this;omega
    have HR:Hid (Fr m.data.toList st fs body.data.toList cl=((Ji st++Cm fs++Gm Tw lt.data.toList)++(if cl=true then Gm a6P Nd else[]))++[13,10]++(if m.data.toList=Tx then[]else body.data.toList)):=by
     unfold Hid Fr c0A;rw[hld];simp only[C5z]
    clear hLT hld hll;go_wp2_with fail;refine(HI.out _ hB).mono ?_;rintro e w1 ⟨rfl,hb1⟩;have bu1:=Ty bu hb1;have s1:=hb1.size;go_wp2_with fail;refine(Hz _ _ _ _ lt _ bu1 (show _+14+_+4<=_ by rw[A0z];omega) (by omega)).mono ?_;rintro e w3 ⟨rfl,bu3,hb3⟩;have an3:=(an.below hb1 al).below hb3 (E1z _);have hB3:Bw w w3:=(hB.trans (hb1.mono hB.size)).trans (hb3.mono (Al _));have s3:=hb3.size;have B3:Oz (w.heap.size+1) (w.heap.size+1) (Ji st++Cm fs++Gm Tw lt.data.toList) w3:=bu3;obtain⟨d0,d1,d2,d3⟩:=an3.cells;have al3:=an3.lt;have hfl:(Gm Tw lt.data.toList).length=lt.size+18:=by simp[Gm,Tw]
    clear c0 c1 c2 c3 bu bu1 bu3 an hb1 hb3 hB HI
    cases cl
    ·simp only[C6z,if_false,D9z]at HR;go_wp2_with fail;refine(Tryz.Builder_WriteString _ _ _ _ _ B3 (show _+2<=_ by rw[Gr,A0z,A0z];omega) (by omega)).mono ?_;rintro e w4 ⟨rfl,h4,hb4⟩;have bu4:=Hj h4;have an4:=an3.below hb4 (E1z _);have hB4:Bw w w4:=hB3.trans (hb4.mono (Al _));have s4:=hb4.size;obtain⟨e0,e1,e2,e3⟩:=an4.cells;have al4:=an4.lt;clear d0 d1 d2 d3 h4 hb4 an3 hB3 B3 an4;by_cases hm:m.data.toList=Tx
     ·have hmb:(m.toList==[72,69,65,68])=true:=by rw[A1z,hm];rfl
      rw[if_pos hm,D9z]at HR;clear hm;go_wp2_with fail;refine(Tryz.Builder_String_any _ _ _ _ bu4 (by omega)).mono ?_;rintro e w5 ⟨rfl,hb5⟩;go_wp2;go_ret;exact⟨Fq (by rw[HR.out];simp[List.append_assoc]),hB4.trans (hb5.mono (Al _))⟩
     ·have hmb:(m.toList==[72,69,65,68])=false:=by rw[A1z,Ar];exact hm
      rw[if_neg hm]at HR;clear hm;go_wp2_with fail;refine(Tryz.Builder_WriteString _ _ _ body _ bu4 (by rw[Gr,A0z,A0z,A0z];show _+2+_<=_;omega) (by omega)).mono ?_;rintro e w5 ⟨rfl,h5,hb5⟩;have bu5:=Hj h5;have s5:=hb5.size;have hB5:Bw w w5:=hB4.trans (hb5.mono (Al _));clear h5 bu4 hB4 hb5 e0 e1 e2 e3;go_wp2_with fail;refine(Tryz.Builder_String_any _ _ _ _ bu5 (by omega)).mono ?_;rintro e w6 ⟨rfl,hb6⟩;go_wp2;go_ret;exact⟨Fq (by rw[HR.out];simp[List.append_assoc]),hB5.trans (hb6.mono (Al _))⟩
    ·simp only[if_true]at HR;go_wp2_with fail;refine(Hz _ _ _ _ _ _ B3 (show _+10+5+4<=_ by rw[A0z,A0z];omega) (by omega)).mono ?_;rintro e w35 ⟨rfl,bu35,hb35⟩;have B35:Oz (w.heap.size+1) (w.heap.size+1) (Ji st++Cm fs++Gm Tw lt.data.toList++Gm a6P Nd) w35:=bu35;have an35:=an3.below hb35 (E1z _);have hB35:Bw w w35:=hB3.trans (hb35.mono (Al _));have s35:=hb35.size;have hcl:(Gm a6P Nd).length=19:=rfl;clear bu35 hb35 hB3 an3 B3 d0 d1 d2 d3;go_wp2_with fail;refine(Tryz.Builder_WriteString _ _ _ _ _ B35 (show _+2<=_ by rw[Gr,A0z,A0z,A0z];omega) (by omega)).mono ?_;rintro e w4 ⟨rfl,h4,hb4⟩;have bu4:=Hj h4;have an4:=an35.below hb4 (E1z _);have hB4:Bw w w4:=hB35.trans (hb4.mono (Al _));have s4:=hb4.size;obtain⟨e0,e1,e2,e3⟩:=an4.cells;have al4:=an4.lt;clear h4 hb4 an35 hB35 B35 an4;by_cases hm:m.data.toList=Tx
     ·have hmb:(m.toList==[72,69,65,68])=true:=by rw[A1z,hm];rfl
      rw[if_pos hm,D9z]at HR;clear hm;go_wp2_with fail;refine(Tryz.Builder_String_any _ _ _ _ bu4 (by omega)).mono ?_;rintro e w5 ⟨rfl,hb5⟩;go_wp2;go_ret;exact⟨Fq (by rw[HR.out];simp[List.append_assoc]),hB4.trans (hb5.mono (Al _))⟩
     ·have hmb:(m.toList==[72,69,65,68])=false:=by rw[A1z,Ar];exact hm
      rw[if_neg hm]at HR;clear hm;go_wp2_with fail;refine(Tryz.Builder_WriteString _ _ _ body _ bu4 (by rw[Gr,A0z,A0z,A0z,A0z];show _+2+_<=_;omega) (by omega)).mono ?_;rintro e w5 ⟨rfl,h5,hb5⟩;have bu5:=Hj h5;have s5:=hb5.size;have hB5:Bw w w5:=hB4.trans (hb5.mono (Al _));clear h5 bu4 hB4 hb5 e0 e1 e2 e3;go_wp2_with fail;refine(Tryz.Builder_String_any _ _ _ _ bu5 (by omega)).mono ?_;rintro e w6 ⟨rfl,hb6⟩;go_wp2;go_ret;exact⟨Fq (by rw[HR.out];simp[List.append_assoc]),hB5.trans (hb6.mono (Al _))⟩
end Go.Proofs.YtbiggccolpchcaaGreatDoor
