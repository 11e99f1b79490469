/- Texts that follow one another, joined. -/
import Derived.Test.YtnohadlihgjppaaDoorJoin19
import Derived.OwnWalk
/- routes.Overlap: whether two patterns meet, or that one is none; nothing old in memory turns. -/
namespace Go.Proofs.YtnohadlihgjppaaDoor
open Go.RowKit

def overlapS (a b : List UInt8) : Bool × Int :=
  match patternOf a with
  | none => (false, 8)
  | some ps => match patternOf b with
    | none => (false, 8)
    | some qs => (ovl ps qs, 0)
theorem patB_length : ∀ (ts : List (List UInt8)) (acc ps : List (Int × ByteArray)), patB ts acc = some ps → ps.length = acc.length + ts.length
  | [], acc, ps, h => by rw [patB] at h; cases h; simp
  | t :: r, acc, ps, h => by
    rw [patB] at h
    split at h
    · have := patB_length r _ _ h; simp at this; simp; omega
    · cases h
theorem patternOf_length {s : ByteArray} {ps : List (Int × ByteArray)} (h : patternOf s.data.toList = some ps) : ps.length ≤ 1000000 := by
  unfold patternOf at h
  split at h
  · rename_i hc
    have h1 := patB_length _ _ _ h
    have hdat := Lib.splitB_data ⟨#[47]⟩ 0 (Lib.countB (s.extract 1 s.size) ⟨#[47]⟩) (s.extract 1 s.size)
    have hex : (s.extract 1 s.size).data.toList = s.data.toList.drop 1 := by rw [Lib.extract_data, List.take_of_length_le (by simp)]
    have hlen : (Lib.splitB ⟨#[47]⟩ 0 (Lib.countB (s.extract 1 s.size) ⟨#[47]⟩) (s.extract 1 s.size)).length = Lib.countB (s.extract 1 s.size) ⟨#[47]⟩ + 1 := Lib.splitB_all _ (by decide) _ _ _ rfl
    have hcnt := Lib.countB_le ⟨#[47]⟩ (by decide) _ (s.extract 1 s.size) (Nat.le_refl _)
    have hd : (Lib.splitB ⟨#[47]⟩ 0 (Lib.countB (s.extract 1 s.size) ⟨#[47]⟩) (s.extract 1 s.size)).map (·.data.toList) = Lib.split (s.extract 1 s.size).data.toList [47] := Lib.splitB_data _ _ _ _
    rw [hex] at hd
    rw [← hd, List.length_map, hlen] at h1
    have := hc.1
    simp at hcnt this h1
    omega
  · cases h
set_option maxRecDepth 100000 in
set_option maxHeartbeats 1000000 in
theorem rOverlap_any (s t : ByteArray) (mx : Int) (w : World) (hs : s.size ≤ 281474976710656) (ht : t.size ≤ 281474976710656) (hm : w.cell? ⟨1, 0, none⟩ = some (.int .i64 mx)) :
    Calls Tryd.prog 37 #[.string s, .string t] w fun r w' =>
      r = .returned (.tuple #[.bool (overlapS s.data.toList t.data.toList).1, .int .i64 (overlapS s.data.toList t.data.toList).2]) ∧ Below w.heap.size w w' := by
  have HRP := hid (fun W (hW : Below w.heap.size w W) => readPattern_any s mx W hs (cell_later hW hm))
  have HRQ := hid (fun W (hW : Below w.heap.size w W) => readPattern_any t mx W ht (cell_later hW hm))
  have HL1 := hid (fun ps (h : patternOf s.data.toList = some ps) => patternOf_length h)
  generalize hR : overlapS s.data.toList t.data.toList = R
  have HR := hid hR
  clear hR
  unfold overlapS at HR
  generalize patternOf s.data.toList = P at *
  generalize patternOf t.data.toList = Q at *
  go_enter Tryd.func37, Tryd.ntmps37
  go_wp2_with fail
  refine (HRP.out _ (Below.refl _ _)).mono ?_
  rintro e w1 ⟨hr1, hb1⟩
  cases P with
  | none =>
    have HN : Hid (R = (false, 8)) := HR.out.symm
    clear HR HRP HRQ HL1
    obtain rfl : e = _ := hr1
    go_wp2
    go_ret2
    rw [HN.out]
    exact ⟨rfl, hb1⟩
  | some ps =>
    obtain ⟨v, rfl, ow1⟩ := hr1
    have hl1 := HL1.out ps rfl
    obtain ⟨pa, pc, rfl, hpc1⟩ := pc_of_owns ow1
    clear ow1 HRP HL1
    go_wp2_with fail
    refine (HRQ.out _ hb1).mono ?_
    rintro e w2 ⟨hr2, hb2⟩
    have hB2 := bel_of hb1 hb2
    cases Q with
    | none =>
      have HN : Hid (R = (false, 8)) := HR.out.symm
      clear HR HRQ
      obtain rfl : e = _ := hr2
      go_wp2
      go_ret2
      rw [HN.out]
      exact ⟨rfl, hB2⟩
    | some qs =>
      obtain ⟨v, rfl, ow2⟩ := hr2
      obtain ⟨qa, qc, rfl, hqc2⟩ := pc_of_owns ow2
      have hpc2 := hpc1.below hb2
      have HN : Hid (R = (ovl ps qs, 0)) := HR.out.symm
      have HO := hid (fun W h1 h2 => overlaps_any ps qs pa qa pc qc W h1 h2 hl1)
      clear HR HRQ ow2 hpc1
      go_wp2_with fail
      refine (HO.out _ hpc2 hqc2).mono ?_
      rintro e w3 ⟨rfl, hb3⟩
      go_wp2
      go_ret2
      rw [HN.out]
      exact ⟨rfl, bel_of hB2 hb3⟩
end Go.Proofs.YtnohadlihgjppaaDoor

/- porter.Overlap: the same. -/
namespace Go.Proofs.YtnohadlihgjppaaDoor
open Go.RowKit
set_option maxHeartbeats 1000000 in
theorem pOverlap_any (s t : ByteArray) (mx : Int) (w : World) (hs : s.size ≤ 281474976710656) (ht : t.size ≤ 281474976710656) (hm : w.cell? ⟨1, 0, none⟩ = some (.int .i64 mx)) :
    Calls Tryd.prog 20 #[.string s, .string t] w fun r w' =>
      r = .returned (.tuple #[.bool (overlapS s.data.toList t.data.toList).1, .int .i64 (overlapS s.data.toList t.data.toList).2]) ∧ Below w.heap.size w w' := by
  have HO := hid (rOverlap_any s t mx w hs ht hm)
  go_enter Tryd.func20, Tryd.ntmps20
  go_wp2_with (go_at_call 37; refine HO.out.mono ?_; rintro e w' ⟨rfl, hb⟩)
  go_ret2
  exact ⟨rfl, hb⟩
end Go.Proofs.YtnohadlihgjppaaDoor
