/- Texts that follow one another, joined. -/
import Derived.Test.YtnohadlihgjppaaDoorJoin17
/- readPiece: what a text is as a piece of a pattern; nothing old in memory turns. -/
namespace Go.Proofs.YtnohadlihgjppaaDoor
open Go.RowKit

theorem strip1 {s : ByteArray} {c : UInt8} (h : Lib.hasPrefix s.data.toList [c] = true) : Lib.trimPrefix s.data.toList [c] = s.data.toList.drop 1 := by
  unfold Lib.trimPrefix; rw [h]; rfl
theorem cut_hit (s : ByteArray) (c : UInt8) (w : World) (h : Lib.hasPrefix s.data.toList [c] = true) :
    Calls Tryd.prog 104 #[.string s, .string ⟨#[c]⟩] w fun e w' => e = .returned (.tuple #[.string ⟨(s.data.toList.drop 1).toArray⟩, .bool true]) ∧ w' = w := by
  have h2 := Tryd.strings_CutPrefix s ⟨#[c]⟩ w
  rw [show (⟨#[c]⟩ : ByteArray).data.toList = [c] from rfl, strip1 h, h] at h2
  exact h2
theorem cut_miss (s : ByteArray) (c : UInt8) (w : World) (h : Lib.hasPrefix s.data.toList [c] = false) :
    Calls Tryd.prog 104 #[.string s, .string ⟨#[c]⟩] w fun e w' => e = .returned (.tuple #[.string s, .bool false]) ∧ w' = w := by
  have h2 := Tryd.strings_CutPrefix s ⟨#[c]⟩ w
  rw [show (⟨#[c]⟩ : ByteArray).data.toList = [c] from rfl, show Lib.trimPrefix s.data.toList [c] = s.data.toList from by unfold Lib.trimPrefix; rw [h]; rfl, h] at h2
  exact h2
set_option maxRecDepth 100000 in
set_option maxHeartbeats 1000000 in
theorem readPiece_any (s : ByteArray) (w : World) (hs : s.size ≤ maxLen) :
    Calls Tryd.prog 79 #[.string s] w fun r w' =>
      r = .returned (.tuple #[.agg #[.int .i64 (Pm.pieceK s.data.toList), .string ⟨(Pm.pieceT s.data.toList).toArray⟩], .bool (Pm.pieceOk s.data.toList)]) ∧ Below w.heap.size w w' := by
  have hA := (Below.refl w.heap.size w).alloc (Nat.le_refl _) (.cells #[.int .i64 0, .string ⟨#[]⟩] 127)
  have hsl : s.data.toList.length = s.size := by simp
  have hds : (⟨(s.data.toList.drop 1).toArray⟩ : ByteArray).size ≤ maxLen := by
    rw [size_of (rfl : (⟨(s.data.toList.drop 1).toArray⟩ : ByteArray).data.toList = s.data.toList.drop 1), List.length_drop, hsl]; omega
  have HA := hid hA
  clear hA hsl
  generalize hdb : (⟨(s.data.toList.drop 1).toArray⟩ : ByteArray) = db at *
  have hdd : db.data.toList = s.data.toList.drop 1 := by rw [← hdb]
  have HDB := hid hdb
  have HN := hid (fun W => wIsName_any db W hds)
  have HX := hid (fun W => wIsFixed_any s W hs)
  have C1 := hid (fun W => cut_hit s 58 W)
  have C2 := hid (fun W => cut_miss s 58 W)
  have C3 := hid (fun W => cut_hit s 42 W)
  have C4 := hid (fun W => cut_miss s 42 W)
  rw [hdb] at C1 C3
  rw [hdd] at HN
  cases h1 : Lib.hasPrefix s.data.toList [58]
  · have D1 := hid (fun W => C2.out W h1)
    cases h2 : Lib.hasPrefix s.data.toList [42]
    · have D2 := hid (fun W => C4.out W h2)
      have HK : Hid (Pm.pieceK s.data.toList = 0 ∧ Pm.pieceT s.data.toList = s.data.toList ∧ Pm.pieceOk s.data.toList = Pm.allP Pm.fixB s.data.toList) := by
        unfold Hid Pm.pieceOk Pm.pieceK Pm.pieceT; rw [h1, h2]; exact ⟨rfl, rfl, rfl⟩
      clear C1 C2 C3 C4 h1 h2 hdb hdd HN HDB
      generalize Pm.allP Pm.fixB s.data.toList = fb at *
      go_enter Tryd.func79, Tryd.ntmps79
      go_wp2_with fail
      refine (D1.out _).mono ?_
      rintro e w3 ⟨rfl, hw3⟩
      rw [hw3]
      clear hw3 w3
      go_wp2_with fail
      refine (D2.out _).mono ?_
      rintro e w2 ⟨rfl, hw2⟩
      rw [hw2]
      clear hw2 w2 D1 D2
      go_wp2_with fail
      refine (HX.out _).mono ?_
      rintro e w3 ⟨rfl, hw3⟩
      rw [hw3]
      clear hw3 w3
      go_wp2
      refine bodyPost_ret (v := .tuple #[.agg #[.int .i64 0, .string s], .bool fb]) (by simp [results, Tryd.results79, go_sem]) rfl ?_
      obtain ⟨k1, k2, k3⟩ := HK.out
      rw [k1, k2, k3]
      exact ⟨rfl, (Below.refl _ _).alloc (Nat.le_refl _) _⟩
    · have D2 := hid (fun W => C3.out W h2)
      have HK : Hid (Pm.pieceK s.data.toList = 2 ∧ Pm.pieceT s.data.toList = s.data.toList.drop 1 ∧ Pm.pieceOk s.data.toList = Pm.isName (s.data.toList.drop 1)) := by
        unfold Hid Pm.pieceOk Pm.pieceK Pm.pieceT; rw [h1, h2]; exact ⟨rfl, rfl, rfl⟩
      clear C1 C2 C3 C4 h1 h2 hdb hdd HX
      generalize Pm.isName (s.data.toList.drop 1) = nb at *
      go_enter Tryd.func79, Tryd.ntmps79
      go_wp2_with fail
      refine (D1.out _).mono ?_
      rintro e w3 ⟨rfl, hw3⟩
      rw [hw3]
      clear hw3 w3
      go_wp2_with fail
      refine (D2.out _).mono ?_
      rintro e w3 ⟨rfl, hw3⟩
      rw [hw3]
      clear hw3 w3
      go_wp2_with fail
      refine (HN.out _).mono ?_
      rintro e w3 ⟨rfl, hw3⟩
      rw [hw3]
      clear hw3 w3
      go_wp2
      refine bodyPost_ret (v := .tuple #[.agg #[.int .i64 2, .string db], .bool nb]) (by simp [results, Tryd.results79, go_sem]) rfl ?_
      obtain ⟨k1, k2, k3⟩ := HK.out
      rw [k1, k2, k3, HDB.out]
      exact ⟨rfl, (Below.refl _ _).alloc (Nat.le_refl _) _⟩
  · have D1 := hid (fun W => C1.out W h1)
    have HK : Hid (Pm.pieceK s.data.toList = 1 ∧ Pm.pieceT s.data.toList = s.data.toList.drop 1 ∧ Pm.pieceOk s.data.toList = Pm.isName (s.data.toList.drop 1)) := by
      unfold Hid Pm.pieceOk Pm.pieceK Pm.pieceT; rw [h1]; exact ⟨rfl, rfl, rfl⟩
    clear C1 C2 C3 C4 h1 hdb hdd HX
    generalize Pm.isName (s.data.toList.drop 1) = nb at *
    go_enter Tryd.func79, Tryd.ntmps79
    go_wp2_with fail
    refine (D1.out _).mono ?_
    rintro e w3 ⟨rfl, hw3⟩
    rw [hw3]
    clear hw3 w3
    go_wp2_with fail
    refine (HN.out _).mono ?_
    rintro e w3 ⟨rfl, hw3⟩
    rw [hw3]
    clear hw3 w3
    go_wp2
    refine bodyPost_ret (v := .tuple #[.agg #[.int .i64 1, .string db], .bool nb]) (by simp [results, Tryd.results79, go_sem]) rfl ?_
    obtain ⟨k1, k2, k3⟩ := HK.out
    rw [k1, k2, k3, HDB.out]
    exact ⟨rfl, (Below.refl _ _).alloc (Nat.le_refl _) _⟩
end Go.Proofs.YtnohadlihgjppaaDoor

/- Pieces in memory: whether one has a name that another has, takes a text, meets another; nothing old in memory turns. -/
namespace Go.Proofs.YtnohadlihgjppaaDoor
open Go.RowKit

def PcAt (ps : List (Int × ByteArray)) (a : Option Addr) (w : World) : Prop :=
  ∀ i (h : i < ps.length), ∃ g, a = some ⟨g, 0, none⟩ ∧ g < w.heap.size ∧ w.cell? ⟨g, i * 2, none⟩ = some (.int .i64 ps[i].1) ∧ w.cell? ⟨g, i * 2 + 1, none⟩ = some (.string ps[i].2)
theorem PcAt.below {ps : List (Int × ByteArray)} {a : Option Addr} {w w' : World} (h : PcAt ps a w) (hb : Below w.heap.size w w') : PcAt ps a w' := fun i hi => by
  obtain ⟨g, h1, h2, h3, h4⟩ := h i hi
  exact ⟨g, h1, Nat.lt_of_lt_of_le h2 hb.size, cell_later hb h3, cell_later hb h4⟩
def nameEq (p q : Int × ByteArray) : Bool := (p.1 != 0) && ((q.1 != 0) && (p.2.toList == q.2.toList))
def tk (k : Int) (own text : ByteArray) : Bool := if k = 0 then text.toList == own.toList else if k = 1 then !text.toList.isEmpty else true
def mt (p q : Int × ByteArray) : Bool := if p.1 = 0 then tk q.1 q.2 p.2 else (q.1 == 1 || tk p.1 p.2 q.2)

set_option maxHeartbeats 1000000 in
theorem takes_any (k : Int) (own text : ByteArray) (w : World) :
    Calls Tryd.prog 83 #[.agg #[.int .i64 k, .string own], .string text] w fun e w' => e = .returned (.bool (tk k own text)) ∧ Below w.heap.size w w' := by
  by_cases h0 : k = 0
  · have HT : Hid (tk k own text = (text.toList == own.toList)) := by unfold Hid tk; rw [if_pos h0]
    have h0' : (k == 0) = true := by rw [h0]; rfl
    go_enter Tryd.func83, Tryd.ntmps83
    go_wp2
    go_ret
    exact ⟨ret_bool HT.out.symm, (Below.refl _ _).alloc (Nat.le_refl _) _⟩
  · have h0' : (k == 0) = false := by rw [beq_eq_false_iff_ne]; exact h0
    by_cases h1 : k = 1
    · have HT : Hid (tk k own text = !text.toList.isEmpty) := by unfold Hid tk; rw [if_neg h0, if_pos h1]
      have h1' : (k == 1) = true := by rw [h1]; rfl
      go_enter Tryd.func83, Tryd.ntmps83
      go_wp2
      go_ret
      exact ⟨ret_bool HT.out.symm, (Below.refl _ _).alloc (Nat.le_refl _) _⟩
    · have HT : Hid (tk k own text = true) := by unfold Hid tk; rw [if_neg h0, if_neg h1]
      have h1' : (k == 1) = false := by rw [beq_eq_false_iff_ne]; exact h1
      go_enter Tryd.func83, Tryd.ntmps83
      go_wp2
      go_ret
      exact ⟨ret_bool HT.out.symm, (Below.refl _ _).alloc (Nat.le_refl _) _⟩

set_option maxHeartbeats 1000000 in
theorem meets_any (k j : Int) (s t : ByteArray) (w : World) :
    Calls Tryd.prog 88 #[.agg #[.int .i64 k, .string s], .agg #[.int .i64 j, .string t]] w fun e w' => e = .returned (.bool (mt (k, s) (j, t))) ∧ Below w.heap.size w w' := by
  have hA : Below w.heap.size w ((w.alloc (.cells #[.int .i64 k, .string s] 127)).alloc (.cells #[.int .i64 j, .string t] 127)) := ((Below.refl _ _).alloc (Nat.le_refl _) _).alloc (by simp) _
  by_cases h0 : k = 0
  · have HT : Hid (mt (k, s) (j, t) = tk j t s) := by unfold Hid mt; rw [if_pos h0]
    have h0' : (k == 0) = true := by rw [h0]; rfl
    clear h0
    go_enter Tryd.func88, Tryd.ntmps88
    go_wp2_with fail
    refine (takes_any j t s _).mono ?_
    rintro e w1 ⟨rfl, hb1⟩
    generalize tk j t s = r at *
    go_wp2
    go_ret
    exact ⟨ret_bool HT.out.symm, bel_of hA hb1⟩
  · have h0' : (k == 0) = false := by rw [beq_eq_false_iff_ne]; exact h0
    by_cases h1 : j = 1
    · have HT : Hid (mt (k, s) (j, t) = true) := by unfold Hid mt; rw [if_neg h0, h1]; rfl
      have h1' : (j == 1) = true := by rw [h1]; rfl
      clear h0 h1
      go_enter Tryd.func88, Tryd.ntmps88
      go_wp2
      go_ret
      exact ⟨ret_bool HT.out.symm, hA⟩
    · have h1' : (j == 1) = false := by rw [beq_eq_false_iff_ne]; exact h1
      have HT : Hid (mt (k, s) (j, t) = tk k s t) := by unfold Hid mt; rw [if_neg h0, h1']; rfl
      clear h0 h1
      go_enter Tryd.func88, Tryd.ntmps88
      go_wp2_with fail
      refine (takes_any k s t _).mono ?_
      rintro e w1 ⟨rfl, hb1⟩
      generalize tk k s t = r at *
      go_wp2
      go_ret
      exact ⟨ret_bool HT.out.symm, bel_of hA hb1⟩

theorem any_take {ps : List (Int × ByteArray)} {q : Int × ByteArray} {k : Nat} (h : k < ps.length) : (ps.take (k + 1)).any (nameEq · q) = ((ps.take k).any (nameEq · q) || nameEq ps[k] q) := by
  rw [List.take_succ_eq_append_getElem h, List.any_append]; simp
set_option maxHeartbeats 1000000 in
theorem hasName_any (ps : List (Int × ByteArray)) (a : Option Addr) (cap : Nat) (k : Int) (t : ByteArray) (w : World) (hp : PcAt ps a w) (hl : ps.length ≤ 1000000) :
    Calls Tryd.prog 80 #[.slice a ps.length cap, .agg #[.int .i64 k, .string t]] w fun e w' => e = .returned (.bool (ps.any (nameEq · (k, t)))) ∧ Below w.heap.size w w' := by
  have hA := (Below.refl w.heap.size w).alloc (Nat.le_refl _) (.cells #[.int .i64 k, .string t] 127)
  have HP := hid (hp.below hA)
  have b0 : (w.alloc (.cells #[.int .i64 k, .string t] 127)).cell? ⟨w.heap.size, 0, none⟩ = some (.int .i64 k) := by simp
  have b1 : (w.alloc (.cells #[.int .i64 k, .string t] 127)).cell? ⟨w.heap.size, 1, none⟩ = some (.string t) := by simp
  have hsz : w.heap.size < (w.alloc (.cells #[.int .i64 k, .string t] 127)).heap.size := by simp
  clear hp
  go_enter Tryd.func80, Tryd.ntmps80
  go_wp2_with fail
  generalize w.alloc (.cells #[.int .i64 k, .string t] 127) = w1 at *
  go_loopw [6, 9] (fun _ i wr => ∃ q : Nat, q ≤ ps.length ∧ i = .int .i64 q ∧ Hid ((ps.take q).any (nameEq · (k, t)) = false) ∧ Below w1.heap.size w1 wr) (fun _ i _ => ps.length - (intOf i).toNat)
  case atStart => exact ⟨0, Nat.zero_le _, rfl, rfl, Below.refl _ _⟩
  case round =>
    obtain ⟨q, hq, rfl, H, hbw⟩ := hrel
    have c0 := cell_later hbw b0
    have c1 := cell_later hbw b1
    by_cases hlt : q < ps.length
    · obtain ⟨g, rfl, hg, hc1, hc2⟩ := (HP.out.below hbw) q hlt
      have HS := hid (any_take (q := (k, t)) hlt)
      obtain ⟨f, hf⟩ : ∃ f, f = ps[q] := ⟨_, rfl⟩
      rw [← hf] at hc1 hc2 HS
      clear hf
      obtain ⟨pk, pt⟩ := f
      simp only at hc1 hc2
      have hbn : Below w1.heap.size w1 (wr.alloc (.cells #[.int .i64 pk, .string pt] 127)) := bel_of hbw ((Below.refl _ _).alloc (Nat.le_refl _) _)
      have NO : Hid (nameEq (pk, pt) (k, t) = false → (ps.take (q + 1)).any (nameEq · (k, t)) = false) := fun h => by rw [HS.out, H.out, h]; rfl
      have hsz2 : w.heap.size < wr.heap.size := Nat.lt_of_lt_of_le hsz hbw.size
      cases h1 : (pk != 0)
      · have N1 := hid (NO.out (by unfold nameEq; rw [h1]; rfl))
        clear NO HS
        go_wp2
        exact ⟨⟨q + 1, by omega, by go_num, N1, hbn⟩, by simp [intOf]; omega⟩
      · cases h2 : (k != 0)
        · have N1 := hid (NO.out (by unfold nameEq; rw [h1, h2]; rfl))
          clear NO HS
          go_wp2
          exact ⟨⟨q + 1, by omega, by go_num, N1, hbn⟩, by simp [intOf]; omega⟩
        · cases h3 : (pt.toList == t.toList)
          · have N1 := hid (NO.out (by unfold nameEq; rw [h1, h2, h3]; rfl))
            clear NO HS
            go_wp2
            exact ⟨⟨q + 1, by omega, by go_num, N1, hbn⟩, by simp [intOf]; omega⟩
          · have HY : Hid (ps.any (nameEq · (k, t)) = true) := by
              unfold Hid
              have h4 : (ps.take (q + 1)).any (nameEq · (k, t)) = true := by rw [HS.out]; unfold nameEq; rw [h1, h2, h3]; simp
              rw [List.any_eq_true] at h4 ⊢
              obtain ⟨x, hx, hy⟩ := h4
              exact ⟨x, List.mem_of_mem_take hx, hy⟩
            clear NO HS
            go_wp2
            go_ret
            exact ⟨ret_bool HY.out.symm, bel_of hA hbn⟩
    · have HN : Hid (ps.any (nameEq · (k, t)) = false) := by
        have := H.out
        rw [List.take_of_length_le (by omega)] at this; exact this
      go_wp2
      go_ret
      exact ⟨ret_bool HN.out.symm, bel_of hA hbw⟩
end Go.Proofs.YtnohadlihgjppaaDoor
