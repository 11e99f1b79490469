/- Texts that follow one another, joined. -/
import Derived.Test.YtnohadlihgjppaaDoorJoin23
/- The reference's takes; nothing old in memory turns. -/
namespace Go.Proofs.YtnohadlihgjppaaDoor
open Go.RowKit

def tkR (p s : ByteArray) : Bool := if Pm.pieceK p.data.toList = 0 then p.toList == s.toList else ((Pm.pieceK p.data.toList == 2) || !s.toList.isEmpty)
set_option maxHeartbeats 400000 in
theorem rtakes_any (p s : ByteArray) (w : World) :
    Calls Tryd.prog 60 #[.string p, .string s] w fun e w' => e = .returned (.bool (tkR p s)) ∧ Below w.heap.size w w' := by
  have HT : Hid (tkR p s = if Pm.pieceK p.data.toList = 0 then p.toList == s.toList else ((Pm.pieceK p.data.toList == 2) || !s.toList.isEmpty)) := rfl
  generalize tkR p s = TT at *
  have HR := hid (fun W => rIsRest_any p W)
  have HF := hid (fun W => rIsFixed_any p W)
  generalize Pm.pieceK p.data.toList = K at *
  go_enter Tryd.func60, Tryd.ntmps60
  go_wp2_with fail
  refine (HR.out _).mono ?_
  rintro e w1 ⟨rfl, hb1⟩
  go_wp2_with fail
  refine (HF.out _).mono ?_
  rintro e w2 ⟨rfl, hb2⟩
  have hB2 := bel_of hb1 hb2
  clear HR HF
  by_cases h0 : K = 0
  · have hk : (K == 0) = true := by rw [h0]; rfl
    rw [if_pos h0] at HT
    rw [hk]
    go_wp2
    go_ret
    exact ⟨ret_bool (by rw [HT.out]), hB2⟩
  · have hk : (K == 0) = false := by rw [beq_eq_false_iff_ne]; exact h0
    rw [if_neg h0] at HT
    rw [hk]
    cases h2 : (K == 2)
    · rw [h2, Bool.false_or] at HT
      go_wp2
      go_ret
      exact ⟨ret_bool (by rw [HT.out]), hB2⟩
    · rw [h2, Bool.true_or] at HT
      go_wp2
      go_ret
      exact ⟨ret_bool (by rw [HT.out]), hB2⟩
end Go.Proofs.YtnohadlihgjppaaDoor

/- The reference's join, of texts that lie anywhere in a block; nothing old in memory turns. -/
namespace Go.Proofs.YtnohadlihgjppaaDoor
open Go.RowKit

def StO (ts : List ByteArray) (a : Option Addr) (w : World) : Prop :=
  ∀ i (h : i < ts.length), ∃ g o, a = some ⟨g, o, none⟩ ∧ g < w.heap.size ∧ w.cell? ⟨g, o + i, none⟩ = some (.string ts[i])
theorem StO.below {ts : List ByteArray} {a : Option Addr} {w w' : World} (h : StO ts a w) (hb : Below w.heap.size w w') : StO ts a w' := fun i hi => by
  obtain ⟨g, o, h1, h2, h3⟩ := h i hi
  exact ⟨g, o, h1, Nat.lt_of_lt_of_le h2 hb.size, cell_later hb h3⟩
def joinL : List (List UInt8) → List UInt8
  | [] => []
  | a :: r => a ++ r.flatMap (fun x => 47 :: x)
theorem joinL_snoc (l : List (List UInt8)) (x : List UInt8) : joinL (l ++ [x]) = if l.length = 0 then x else joinL l ++ 47 :: x := by
  cases l with
  | nil => simp [joinL]
  | cons a r => simp [joinL, List.flatMap_append]
theorem joinL_take (l : List (List UInt8)) (k : Nat) : (joinL (l.take k)).length ≤ (joinL l).length := by
  have h : joinL l = joinL (l.take k ++ l.drop k) := by rw [List.take_append_drop]
  rw [h]
  cases l.take k with
  | nil => simp [joinL]
  | cons a r => simp [joinL, List.flatMap_append]

set_option maxHeartbeats 1000000 in
theorem rjoin_any (ts : List ByteArray) (a : Option Addr) (ca : Nat) (w : World) (hst : StO ts a w) (hl : ts.length ≤ 4398046511104) (hj : (joinL (ts.map (·.data.toList))).length ≤ 4398046511104) :
    Calls Tryd.prog 87 #[.slice a ts.length ca] w fun e w' => (∃ s, e = .returned (.string s) ∧ s.data.toList = joinL (ts.map (·.data.toList))) ∧ w' = w := by
  have HS := hid hst
  clear hst
  go_enter Tryd.func87, Tryd.ntmps87
  go_wp2
  go_loop [3, 4] (fun s i => ∃ (k : Nat) (b : ByteArray), k ≤ ts.length ∧ i = .int .i64 k ∧ s = .string b ∧ Hid (b.data.toList = joinL ((ts.map (·.data.toList)).take k))) (fun _ i => ts.length - (intOf i).toNat)
  case atStart => exact ⟨0, ⟨#[]⟩, Nat.zero_le _, rfl, rfl, rfl⟩
  case round =>
    obtain ⟨k, b, hk, rfl, rfl, H⟩ := hrel
    by_cases hlt : k < ts.length
    · obtain ⟨g, o, rfl, hg, hc⟩ := HS.out k hlt
      have hnx : (ts.map (·.data.toList)).take (k + 1) = (ts.map (·.data.toList)).take k ++ [ts[k].data.toList] := by
        rw [List.take_add_one]; simp [hlt]
      have hstep := joinL_snoc ((ts.map (·.data.toList)).take k) ts[k].data.toList
      rw [← hnx, ← H.out, List.length_take, List.length_map, Nat.min_eq_left hk] at hstep
      have hle := joinL_take (ts.map (·.data.toList)) (k + 1)
      have hbl : b.data.toList.length = b.size := by simp
      have htl : ts[k].data.toList.length = ts[k].size := by simp
      have HST := hid hstep
      clear hnx
      by_cases hk0 : k = 0
      · rw [if_pos hk0] at HST
        have hb0 : Hid (b.data.toList = []) := by unfold Hid; rw [H.out, hk0]; rfl
        have hbz : b.size = 0 := by rw [← hbl, hb0.out]; rfl
        have hlz : ts[k].size ≤ 4398046511104 := by
          rw [hstep, if_pos hk0] at hle; omega
        generalize ts[k] = tx at *
        subst hk0
        rw [Nat.add_zero] at hc
        clear hstep H
        go_wp2
        exact ⟨⟨1, b ++ tx, by omega, by go_num, rfl, by unfold Hid; rw [HST.out]; simp [hb0.out]⟩, by simp [intOf]; omega⟩
      · rw [if_neg hk0] at HST
        have hkp : (0 : Int) < (k : Int) := by omega
        have hlz : b.size + 1 + ts[k].size ≤ 4398046511104 := by
          rw [hstep, if_neg hk0, List.length_append, List.length_cons] at hle; omega
        generalize ts[k] = tx at *
        clear hstep H
        go_wp2
        exact ⟨⟨k + 1, b ++ ⟨#[47]⟩ ++ tx, by omega, by go_num, rfl, by unfold Hid; rw [HST.out]; simp⟩, by simp [intOf]; omega⟩
    · have HE : Hid (b.data.toList = joinL (ts.map (·.data.toList))) := by
        have := H.out
        rw [List.take_of_length_le (by simp; omega)] at this; exact this
      go_wp2
      go_ret
      exact ⟨⟨b, rfl, HE.out⟩, rfl⟩
end Go.Proofs.YtnohadlihgjppaaDoor
