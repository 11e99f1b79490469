/- Joined. -/
import Derived.Test.YtbiggccolpchcaaGreatDoorJoin01
import Derived.Deep.RegionHeld3
set_option maxRecDepth 100000
set_option maxHeartbeats 4000000
namespace Go.Proofs.YtbiggccolpchcaaGreatDoor
open Go.RowKit _root_.Go.Proofs.Tryz
theorem Db(s:By)(w:World)(hs:s.size<=281474976710656):
  Calls prog 154 #[.string s] w λe w'=>e=.returned (.string s)/\Bw w w':=by
 go_enter func154,ntmps154;go_wp2_with (go_at_call 224;refine(Tryz.stringslite_Clone _ _ hs).mono ?_;rintro e w1 ⟨rfl,hb1⟩);go_ret;exact⟨rfl,hb1⟩
theorem Se(s:By)(w:World)(hs:s.size<=maxLen):
  Calls prog 302 #[.string s,.string ⟨#[32,9]⟩] w λe w'=>e=.returned (.string ⟨(Lib.trimS s.data.toList Pm.a0s).toArray⟩)/\Bw w w':=
 Tryz.strings_Trim_laid s ⟨#[32,9]⟩ w (by unfold maxLen at hs;omega) (by decide) (ascii_of_all (by decide))
theorem Ni{W w1:World}(hb:Bw W w1):(∀b o,b<W.heap.size->w1.cell? ⟨b,o,none⟩=W.cell? ⟨b,o,none⟩)/\(∀b o,b<W.heap.size->w1.frozen? ⟨b,o,none⟩=W.frozen? ⟨b,o,none⟩):=
 ⟨λb o h=>hb.cell (p:=⟨b,o,none⟩) h,λb o h=>hb.frozen (p:=⟨b,o,none⟩) h⟩
theorem Bc{w W w3:World}(h1:Bw w W)(h3:Bw W w3):Bw w w3:=h1.trans (h3.mono h1.size)
theorem b4C{n v:By}(h1:Pm.a2c n.data.toList=true)(h2:Pm.a0h Pm.a5d v.data.toList=true):
  (Lib.trimS v.data.toList Pm.a0s==v.toList)=Pm.a1w n.data.toList v.data.toList:=by
 unfold Pm.a1w Pm.a2d;rw[h1,h2,A1z];rfl
theorem Xd(n v:By)(w:World)(hn:n.size<=maxLen)(hv:v.size<=maxLen):
  Calls prog 245 #[.agg #[.string n,.string v]] w λe w'=>e=.returned (.bool (Pm.a1w n.data.toList v.data.toList))/\Bw w w':=by
 cases h1:Pm.a2c n.data.toList
 ·go_enter func245,ntmps245;go_wp2
  go_quiet ((go_at_call 127;exact Calls.quiet_of_same (Fg _ _ hn)))
  go_wp2;go_ret;exact⟨Bd (by unfold Pm.a1w;rw[h1];rfl),below_drewN (bA _ _) _⟩
 ·cases h2:Pm.a0h Pm.a5d v.data.toList
  ·go_enter func245,ntmps245;go_wp2
   go_quiet ((first|(go_at_call 127;exact Calls.quiet_of_same (Fg _ _ hn))|(go_at_call 176;exact Calls.quiet_of_same (Sc _ _ hv))))
   go_wp2;go_ret;exact⟨Bd (by unfold Pm.a1w Pm.a2d;rw[h1,h2];rfl),below_drewN (bA _ _) _⟩
  ·go_enter func245,ntmps245;go_wp2
   go_region_with (first|(go_at_call 127;refine(Fg _ _ hn).mono ?_;rintro e w1 ⟨rfl,rfl⟩)|(go_at_call 176;refine(Sc _ _ hv).mono ?_;rintro e w2 ⟨rfl,rfl⟩)|(go_at_call 302;refine(Se _ _ hv).mono ?_;rintro e w3 ⟨rfl,hb3⟩;obtain⟨hc3,hf3⟩:=Ni hb3))
   all_goals
    go_wp2;go_ret;refine⟨Bd ?_,Bc (bA _ _).drew hb3⟩;exact b4C h1 h2
def Kq(l:L8):Bool:=Pm.a2c l&&(!(Pm.a0d l [67,111,110,116,101,110,116,45,76,101,110,103,116,104])&&(!(Pm.a0d l [84,114,97,110,115,102,101,114,45,69,110,99,111,100,105,110,103])&&!(Pm.a0d l [67,111,110,110,101,99,116,105,111,110])))
theorem Qc(s:By)(w:World)(hs:s.size<=maxLen):
  Calls prog 251 #[.string s] w λe w'=>e=.returned (.bool (Kq s.data.toList))/\Bw w w':=by
 have HT:=hid (λW=>Fg s W hs);have H1:Hid (∀W,Calls prog 246 #[.string s,.string ⟨#[67,111,110,116,101,110,116,45,76,101,110,103,116,104]⟩] W λe w'=>e=.returned (.bool (Pm.a0d s.data.toList [67,111,110,116,101,110,116,45,76,101,110,103,116,104]))/\Bw W w'):=λW=>Ek s ⟨#[67,111,110,116,101,110,116,45,76,101,110,103,116,104]⟩ W hs;have H2:Hid (∀W,Calls prog 246 #[.string s,.string ⟨#[84,114,97,110,115,102,101,114,45,69,110,99,111,100,105,110,103]⟩] W λe w'=>e=.returned (.bool (Pm.a0d s.data.toList [84,114,97,110,115,102,101,114,45,69,110,99,111,100,105,110,103]))/\Bw W w'):=λW=>Ek s ⟨#[84,114,97,110,115,102,101,114,45,69,110,99,111,100,105,110,103]⟩ W hs;have H3:Hid (∀W,Calls prog 246 #[.string s,.string ⟨#[67,111,110,110,101,99,116,105,111,110]⟩] W λe w'=>e=.returned (.bool (Pm.a0d s.data.toList [67,111,110,110,101,99,116,105,111,110]))/\Bw W w'):=λW=>Ek s ⟨#[67,111,110,110,101,99,116,105,111,110]⟩ W hs;unfold Kq;generalize Pm.a2c s.data.toList=b0 at *
 generalize Pm.a0d s.data.toList [67,111,110,116,101,110,116,45,76,101,110,103,116,104]=b1 at *
 generalize Pm.a0d s.data.toList [84,114,97,110,115,102,101,114,45,69,110,99,111,100,105,110,103]=b2 at *
 generalize Pm.a0d s.data.toList [67,111,110,110,101,99,116,105,111,110]=b3 at *
 go_enter func251,ntmps251;go_wp2_with fail;refine(HT.out _).mono ?_;rintro e w1 ⟨rfl,hw1⟩;subst hw1
 cases b0
 ·go_wp2;go_ret;exact⟨rfl,Ad _ _⟩
 ·go_wp2_with fail;refine(H1.out _).mono ?_;rintro e w2 ⟨rfl,hb2⟩
  cases b1
  ·go_wp2_with fail;refine(H2.out _).mono ?_;rintro e w3 ⟨rfl,hb3⟩;have hB3:=Bc hb2 hb3
   cases b2
   ·go_wp2_with fail;refine(H3.out _).mono ?_;rintro e w4 ⟨rfl,hb4⟩;have hB4:=Bc hB3 hb4
    cases b3
    all_goals
     go_wp2;go_ret;exact⟨rfl,hB4⟩
   ·go_wp2;go_ret;exact⟨rfl,hB3⟩
  ·go_wp2;go_ret;exact⟨rfl,hb2⟩
def Jb(k st:Int)(t:L8):Bool:=decide (200<=st/\st<=599/\t.length<=100)&&(if k=3 then Kq t else decide (k=0\/k=1\/k=2\/k=4))
def Jc(k:Int)(n v:L8)(lim:Int):Bool:=decide (n.length<=100/\v.length<=100)&&(if k=0\/k=4 then Kq n else if k=1 then Pm.a2c n else if k=2 then decide (0<=lim)else decide (k=3))
theorem Ow(k st:Int)(t n:By)(w:World)(ht:t.size<=maxLen):
  Calls prog 249 #[.agg #[.int .i64 k,.int .i64 st,.string t,.string n]] w λe w'=>e=.returned (.bool (Jb k st t.data.toList))/\Bw w w':=by
 have HL:=hid (λW=>Qc t W ht);have hA:=bA w (.cells #[.int .i64 k,.int .i64 st,.string t,.string n] 73);have HH:Hid (Jb k st t.data.toList=(decide (200<=st/\st<=599/\t.size<=100)&&(if k=3 then Kq t.data.toList else decide (k=0\/k=1\/k=2\/k=4)))):=by
  unfold Hid Jb;rw[show t.data.toList.length=t.size from by simp]
 by_cases h1:st<200
 ·go_enter func249,ntmps249;go_wp2;go_ret;exact⟨Bd (by rw[HH.out,Ao (by omega)];rfl),hA⟩
 ·by_cases h2:st > 599
  ·go_enter func249,ntmps249;go_wp2;go_ret;exact⟨Bd (by rw[HH.out,Ao (by omega)];rfl),hA⟩
  ·by_cases h3:(t.size:Int) > 100
   ·go_enter func249,ntmps249;go_wp2;go_ret;exact⟨Bd (by rw[HH.out,Ao (by omega)];rfl),hA⟩
   ·have HT:Hid (Jb k st t.data.toList=(if k=3 then Kq t.data.toList else decide (k=0\/k=1\/k=2\/k=4))):=by
     unfold Hid;rw[HH.out,Ak (by omega)];simp
    clear HH;have hk:k=0\/k=1\/k=2\/k=3\/k=4\/(k≠0/\k≠1/\k≠2/\k≠3/\k≠4):=by omega
    rcases hk with rfl|rfl|rfl|rfl|rfl|⟨k0,k1,k2,k3,k4⟩
    case inr.inr.inr.inl=>
     go_enter func249,ntmps249;go_wp2_with fail;refine(HL.out _).mono ?_;rintro e w1 ⟨rfl,hb1⟩;have hB1:=Bc hA hb1;go_wp2;go_ret;exact⟨Bd (by rw[HT.out];simp),hB1⟩
    case inr.inr.inr.inr.inr=>
     go_enter func249,ntmps249;go_wp2;go_ret;exact⟨Bd (by rw[HT.out,if_neg k3,Ao (by omega)]),hA⟩
    all_goals
     go_enter func249,ntmps249;go_wp2;go_ret;exact⟨Bd (by rw[HT.out];rfl),hA⟩
theorem Ut(k lim:Int)(n v:By)(w:World)(hn:n.size<=maxLen):
  Calls prog 199 #[.agg #[.int .i64 k,.string n,.string v,.int .i64 lim]] w λe w'=>e=.returned (.bool (Jc k n.data.toList v.data.toList lim))/\Bw w w':=by
 have HL:=hid (λW=>Qc n W hn);have HK:=hid (λW=>Fg n W hn);have hA:=bA w (.cells #[.int .i64 k,.string n,.string v,.int .i64 lim] 241);have HH:Hid (Jc k n.data.toList v.data.toList lim=(decide (n.size<=100/\v.size<=100)&&(if k=0\/k=4 then Kq n.data.toList else if k=1 then Pm.a2c n.data.toList else if k=2 then decide (0<=lim)else decide (k=3)))):=by
  unfold Hid Jc;rw[show n.data.toList.length=n.size from by simp,show v.data.toList.length=v.size from by simp]
 by_cases h1:(n.size:Int) > 100
 ·go_enter func199,ntmps199;go_wp2;go_ret;exact⟨Bd (by rw[HH.out,Ao (by omega)];rfl),hA⟩
 ·by_cases h2:(v.size:Int) > 100
  ·go_enter func199,ntmps199;go_wp2;go_ret;exact⟨Bd (by rw[HH.out,Ao (by omega)];rfl),hA⟩
  ·have HT:Hid (Jc k n.data.toList v.data.toList lim=(if k=0\/k=4 then Kq n.data.toList else if k=1 then Pm.a2c n.data.toList else if k=2 then decide (0<=lim)else decide (k=3))):=by
    unfold Hid;rw[HH.out,Ak (by omega)];simp
   clear HH;have hk:k=0\/k=4\/k=1\/k=2\/k=3\/(k≠0/\k≠1/\k≠2/\k≠3/\k≠4):=by omega
   rcases hk with rfl|rfl|rfl|rfl|rfl|⟨k0,k1,k2,k3,k4⟩
   ·go_enter func199,ntmps199;go_wp2_with fail;refine(HL.out _).mono ?_;rintro e w1 ⟨rfl,hb1⟩;have hB1:=Bc hA hb1;go_wp2;go_ret;exact⟨Bd (by rw[HT.out];simp),hB1⟩
   ·go_enter func199,ntmps199;go_wp2_with fail;refine(HL.out _).mono ?_;rintro e w1 ⟨rfl,hb1⟩;have hB1:=Bc hA hb1;go_wp2;go_ret;exact⟨Bd (by rw[HT.out];simp),hB1⟩
   ·go_enter func199,ntmps199;go_wp2_with fail;refine(HK.out _).mono ?_;rintro e w1 ⟨rfl,hw1⟩;subst hw1;go_wp2;go_ret;exact⟨Bd (by rw[HT.out];simp),hA⟩
   ·go_enter func199,ntmps199;go_wp2;go_ret;exact⟨Bd (by rw[HT.out];simp),hA⟩
   ·go_enter func199,ntmps199;go_wp2;go_ret;exact⟨Bd (by rw[HT.out];rfl),hA⟩
   ·go_enter func199,ntmps199;go_wp2;go_ret;exact⟨Bd (by rw[HT.out,if_neg (by omega),if_neg k1,if_neg k2,Ao k3]),hA⟩
def HnB(g:Nat)(k st:Int)(t n:By)(w:World):Prop:=w.heap[g]?=some (.cells #[.int .i64 k,.int .i64 st,.string t,.string n] 73 (0,0))
theorem HnB.cells{g:Nat}{k st:Int}{t n:By}{w:World}(h:HnB g k st t n w):w.cell? ⟨g,0,none⟩=some (.int .i64 k)/\w.cell? ⟨g,1,none⟩=some (.int .i64 st)/\w.cell? ⟨g,2,none⟩=some (.string t)/\w.cell? ⟨g,3,none⟩=some (.string n):=by
 refine⟨?_,?_,?_,?_⟩<;>(rw[Ab h];rfl)
theorem HnB.free{g:Nat}{k st:Int}{t n:By}{w:World}(h:HnB g k st t n w)(j:Nat):w.frozen? ⟨g,j,none⟩=false:=Ai h j
theorem HnB.lt{g:Nat}{k st:Int}{t n:By}{w:World}(h:HnB g k st t n w):g<w.heap.size:=Ap h.cells.1
theorem HnB.below{g:Nat}{k st:Int}{t n:By}{w w':World}(h:HnB g k st t n w)(hb:Bw w w'):HnB g k st t n w':=by
 have:=hb.block g h.lt;unfold HnB at *;rw[this];exact h
theorem HnB.set2{g:Nat}{k st:Int}{t n:By}{w:World}(h:HnB g k st t n w)(t':By):HnB g k st t' n (w.setCell ⟨g,2,none⟩ (.string t')):=by
 unfold HnB at *;rw[heap_setCell_same w g 2 _ _ _ h];rfl
theorem HnB.set3{g:Nat}{k st:Int}{t n:By}{w:World}(h:HnB g k st t n w)(n':By):HnB g k st t n' (w.setCell ⟨g,3,none⟩ (.string n')):=by
 unfold HnB at *;rw[heap_setCell_same w g 3 _ _ _ h];rfl
theorem HnB.other{g':Nat}{k st:Int}{t n:By}{w:World}(h:HnB g' k st t n w){g:Nat}(hg:g'≠g)(o:Nat)(v:Value):HnB g' k st t n (w.setCell ⟨g,o,none⟩ v):=by
 unfold HnB at *;rw[heap_setCell_other w ⟨g,o,none⟩ g' v hg];exact h
structure ChI(w:World)(k st:Int)(t n:By)(W:World):Prop where
 h:HnB w.heap.size k st t n W
 r:HnB (w.heap.size+1) 0 0 ⟨#[]⟩ ⟨#[]⟩ W
 b:Bw w W
theorem ChI.step{w W W':World}{k st:Int}{t n:By}(h:ChI w k st t n W)(hb:Bw W W'):ChI w k st t n W':=⟨h.h.below hb,h.r.below hb,Bc h.b hb⟩
theorem ChI.sets{w W:World}{k st:Int}{t n:By}(h:ChI w k st t n W):(W.setCell ⟨w.heap.size,2,none⟩ (.string t)).cell? ⟨w.heap.size,2,none⟩=some (.string t)/\(W.setCell ⟨w.heap.size,2,none⟩ (.string t)).cell? ⟨w.heap.size,3,none⟩=some (.string n)/\((W.setCell ⟨w.heap.size,2,none⟩ (.string t)).setCell ⟨w.heap.size,3,none⟩ (.string n)).cell? ⟨w.heap.size,2,none⟩=some (.string t)/\((W.setCell ⟨w.heap.size,2,none⟩ (.string t)).setCell ⟨w.heap.size,3,none⟩ (.string n)).cell? ⟨w.heap.size,3,none⟩=some (.string n):=
 ⟨(h.h.set2 t).cells.2.2.1,(h.h.set2 t).cells.2.2.2,((h.h.set2 t).set3 n).cells.2.2.1,((h.h.set2 t).set3 n).cells.2.2.2⟩
theorem ChI.fin{w W:World}{k st:Int}{t n:By}(h:ChI w k st t n W):ChI w k st t n ((W.setCell ⟨w.heap.size,2,none⟩ (.string t)).setCell ⟨w.heap.size,3,none⟩ (.string n)):=
 ⟨(h.h.set2 t).set3 n,(h.r.other (by omega) 2 _).other (by omega) 3 _,(h.b.setCell (Ac _) _).setCell (Ac _) _⟩
theorem Ox(k st:Int)(t n:By)(w:World)(ht:t.size<=281474976710656)(hn:n.size<=281474976710656):
  Calls prog 250 #[.agg #[.int .i64 k,.int .i64 st,.string t,.string n]] w λe w'=>e=.returned (.agg #[.int .i64 k,.int .i64 st,.string t,.string n])/\Bw w w':=by
 have HC1:=hid (λW=>Db t W ht);have HC2:=hid (λW=>Db n W hn);have h1:HnB w.heap.size k st t n (w.alloc (.cells #[.int .i64 k,.int .i64 st,.string t,.string n] 73)):=Ag w _;have z1:(w.alloc (.cells #[.int .i64 k,.int .i64 st,.string t,.string n] 73)).heap.size=w.heap.size+1:=by simp
 have h1':=h1.below (bA _ (.cells #[.int .i64 0,.int .i64 0,.string ⟨#[]⟩,.string ⟨#[]⟩] 73));have h2':HnB (w.heap.size+1) 0 0 ⟨#[]⟩ ⟨#[]⟩ ((w.alloc (.cells #[.int .i64 k,.int .i64 st,.string t,.string n] 73)).alloc (.cells #[.int .i64 0,.int .i64 0,.string ⟨#[]⟩,.string ⟨#[]⟩] 73)):=by
  rw[<-z1];exact Ag _ _
 have hA:=(bA w (.cells #[.int .i64 k,.int .i64 st,.string t,.string n] 73)).alloc (by simp) (.cells #[.int .i64 0,.int .i64 0,.string ⟨#[]⟩,.string ⟨#[]⟩] 73);clear h1 z1 ht hn;go_enter func250,ntmps250;go_upto_region 1 with fail;generalize (w.alloc (.cells #[.int .i64 k,.int .i64 st,.string t,.string n] 73)).alloc (.cells #[.int .i64 0,.int .i64 0,.string ⟨#[]⟩,.string ⟨#[]⟩] 73)=w1 at *
 have I1:=hid (ChI.step (w:=w) ⟨h1',h2',hA⟩ (Ad w1.heap.size w1).drew);obtain⟨c0,c1,c2,c3⟩:=h1'.cells;have l1:=h1'.lt;have f2:=h1'.free 2;have f3:=h1'.free 3;clear h1' h2' hA;go_cut [3]from 3 (λ_ wx=>Hid (ChI w k st t n wx))
 case first=>
  go_region_held3 (λW=>W.cell? ⟨w.heap.size,2,none⟩=some (.string t)/\W.cell? ⟨w.heap.size,3,none⟩=some (.string n)) (go_keep)
   (first
    |(go_at_call_of 154 (Value.string t);refine(HC1.out _).mono ?_;rintro e wA ⟨rfl,hbA⟩;have IA:=hid (I1.out.step hbA);clear hbA;obtain⟨a0,a1,a2,a3⟩:=IA.out.h.cells;have la:=IA.out.h.lt)
    |(go_at_call_of 154 (Value.string n);refine(HC2.out _).mono ?_;rintro e wB ⟨rfl,hbB⟩;have IB:=hid (IA.out.step hbB);clear hbB;obtain⟨b0,b1,b2,b3⟩:=IB.out.h.cells;have lb:=IB.out.h.lt;have g2:=IB.out.h.free 2;have g3:=IB.out.h.free 3;obtain⟨s2,s3,s4,s5⟩:=IB.out.sets))
  all_goals (try go_wp2_with fail)
  all_goals go_meet
  all_goals exact IB.out.fin
 case rest=>
  obtain⟨hh,hr,hb⟩:=hcut.out;obtain⟨d0,d1,d2,d3⟩:=hh.cells;obtain⟨r0,r1,r2,r3⟩:=hr.cells;have y0:=hr.free 0;have y1:=hr.free 1;have y2:=hr.free 2;have y3:=hr.free 3;have ll:=hh.lt;have lr:=hr.lt;have BB:=hid hb;clear c0 c1 c2 c3 l1 f2 f3 HC1 HC2 I1 hcut hb;go_wp2;refine Ae (v:=.agg #[.int .i64 k,.int .i64 st,.string t,.string n]) (by simp[results,results250,go_sem,r0,r1,r2,r3]) rfl ?_;exact⟨rfl,(((BB.out.setCell (Al _) _).setCell (Al _) _).setCell (Al _) _).setCell (Al _) _⟩
end Go.Proofs.YtbiggccolpchcaaGreatDoor
