/- ReadField tells the field that a line is; own copies a field: each answers what the plain mathematics says; nothing old in memory turns. -/
import Derived.Test.YtnohadlihgjppaaGreatDoorWalkJ
namespace Go.Proofs.YtnohadlihgjppaaGreatDoor
open Go.RowKit

theorem trim_le (l : List UInt8) : (Lib.trimS l Pm.blanks).length ≤ l.length := by
  unfold Lib.trimS Lib.trimLeftS Lib.trimRightS
  have h1 := (List.dropWhile_sublist (fun x => Pm.blanks.contains x) (l := l.reverse)).length_le
  have h2 := (List.dropWhile_sublist (fun x => Pm.blanks.contains x) (l := (l.reverse.dropWhile (fun x => Pm.blanks.contains x)).reverse)).length_le
  rw [List.length_reverse] at h1 h2
  omega

theorem cell_old {w : World} {o : Obj} {a : Addr} {v : Value} (h : w.cell? a = some v) : (w.alloc o).cell? a = some v := cell_later ((Below.refl _ _).alloc (Nat.le_refl _) _) h

def fldV (o : Option (List UInt8 × List UInt8)) : Value := match o with
  | some (n, v) => .agg #[.string ⟨n.toArray⟩, .string ⟨v.toArray⟩]
  | none => .agg #[.string ⟨#[]⟩, .string ⟨#[]⟩]

set_option maxHeartbeats 800000 in
theorem wReadField_any (s : ByteArray) (w : World) (hs : s.size ≤ maxLen) :
    Calls Tryz.prog 75 #[.string s] w fun e w' => e = .returned (.tuple #[fldV (Pm.fieldS s.data.toList), .bool (Pm.fieldS s.data.toList).isSome]) ∧ Below w.heap.size w w' := by
  go_enter Tryz.func75, Tryz.ntmps75
  go_wp2_with fail
  refine (cut1_any s 58 _ hs).mono ?_
  rintro e w1 ⟨⟨a, b, rfl, ha, hb⟩, nd, rfl⟩
  have has : a.size ≤ maxLen := by
    have h3 := congrArg List.length (Pm.ahead_behind 58 s.data.toList)
    rw [List.length_append, ← ha] at h3
    simp at h3; omega
  have hbs : b.size ≤ maxLen := by
    have h3 := congrArg List.length (Pm.ahead_behind 58 s.data.toList)
    have h4 := size_of hb
    rw [List.length_append] at h3
    simp at h3 h4; omega
  have hts : (⟨(Lib.trimS b.data.toList Pm.blanks).toArray⟩ : ByteArray).size ≤ maxLen := by
    have h3 := trim_le b.data.toList
    have h4 : b.data.toList.length = b.size := by simp
    have h5 : (⟨(Lib.trimS b.data.toList Pm.blanks).toArray⟩ : ByteArray).size = (Lib.trimS b.data.toList Pm.blanks).length := by simp [ByteArray.size]
    omega
  have HF : Hid (Pm.fieldS s.data.toList = if (!(Pm.behind 58 s.data.toList).isEmpty && Pm.isField a.data.toList (Lib.trimS b.data.toList Pm.blanks)) = true then some (a.data.toList, Lib.trimS b.data.toList Pm.blanks) else none) := by
    unfold Hid Pm.fieldS; rw [ha, hb]
  clear ha hb
  cases hf : (Pm.behind 58 s.data.toList).isEmpty
  all_goals
    rw [hf] at HF
    clear hf
  · cases hi : Pm.isField a.data.toList (Lib.trimS b.data.toList Pm.blanks)
    all_goals
      rw [hi] at HF
      go_wp2_with fail
      refine (trim_any _ _ hbs).mono ?_
      rintro e w2 ⟨rfl, hb2⟩
      have hB2 := bel_of (below_drewN ((Below.refl _ w).alloc (Nat.le_refl _) _) _) hb2
      have q0 := cell_later hb2 (a := ⟨w.heap.size, 0, none⟩) (v := .string ⟨#[]⟩) (by simp)
      have q1 := cell_later hb2 (a := ⟨w.heap.size, 1, none⟩) (v := .string ⟨#[]⟩) (by simp)
      obtain ⟨hc2, hf2⟩ := bcell hb2
      have hz2 : w.heap.size < w2.heap.size := by have := hb2.size; simp at this; omega
      clear hb2
      go_wp2_with fail
      refine (wIsField_any _ _ _ has hts).mono ?_
      rintro e w3 ⟨rfl, hb3⟩
      rw [show (⟨(Lib.trimS b.data.toList Pm.blanks).toArray⟩ : ByteArray).data.toList = Lib.trimS b.data.toList Pm.blanks from rfl, hi]
      clear hi
      have hB3 := bel_of (hB2.alloc (Nat.le_of_lt hz2) _) hb3
      have r0 := cell_later hb3 (a := ⟨w.heap.size, 0, none⟩) (cell_old q0)
      have r1 := cell_later hb3 (a := ⟨w.heap.size, 1, none⟩) (cell_old q1)
      obtain ⟨hc3, hf3⟩ := bcell hb3
      have hz3 : w2.heap.size < w3.heap.size := by have := hb3.size; simp at this; omega
      clear hb3 hB2
      go_wp2
    · refine bodyPost_ret (v := .tuple #[.agg #[.string ⟨#[]⟩, .string ⟨#[]⟩], .bool false]) (by simp [results, Tryz.results75, go_sem, r0, r1]) rfl ⟨by rw [HF.out]; rfl, (hB3.setCell (Nat.le_refl _) _).setCell (Nat.le_refl _) _⟩
    · refine bodyPost_ret (v := .tuple #[.agg #[.string a, .string ⟨(Lib.trimS b.data.toList Pm.blanks).toArray⟩], .bool true]) (by simp [results, Tryz.results75, go_sem, r0, r1]) rfl ⟨by rw [HF.out]; simp [fldV], (hB3.setCell (Nat.le_refl _) _).setCell (Nat.le_refl _) _⟩
  · go_wp2_with fail
    refine (trim_any _ _ hbs).mono ?_
    rintro e w2 ⟨rfl, hb2⟩
    have hB2 := bel_of (below_drewN ((Below.refl _ w).alloc (Nat.le_refl _) _) _) hb2
    have q0 := cell_later hb2 (a := ⟨w.heap.size, 0, none⟩) (v := .string ⟨#[]⟩) (by simp)
    have q1 := cell_later hb2 (a := ⟨w.heap.size, 1, none⟩) (v := .string ⟨#[]⟩) (by simp)
    obtain ⟨hc2, hf2⟩ := bcell hb2
    have hz2 : w.heap.size < w2.heap.size := by have := hb2.size; simp at this; omega
    clear hb2
    go_wp2
    refine bodyPost_ret (v := .tuple #[.agg #[.string ⟨#[]⟩, .string ⟨#[]⟩], .bool false]) (by simp [results, Tryz.results75, go_sem, q0, q1, hz2]) rfl ⟨by rw [HF.out]; rfl, ((hB2.setCell (Nat.le_refl _) _).setCell (Nat.le_refl _) _).alloc (by simp; omega) _⟩

set_option maxHeartbeats 800000 in
theorem own_any (n v : ByteArray) (w : World) (hn : n.size ≤ 281474976710656) (hv : v.size ≤ 281474976710656) :
    Calls Tryz.prog 76 #[.agg #[.string n, .string v]] w fun e w' => e = .returned (.agg #[.string n, .string v]) ∧ Below w.heap.size w w' := by
  go_enter Tryz.func76, Tryz.ntmps76
  go_wp2
  go_region_with (first | (go_at_call_of 82 (Value.string n); refine (clone_any _ _ hn).mono ?_; rintro e w1 ⟨rfl, hb1⟩; obtain ⟨hc1, hf1⟩ := bcell hb1; have q0 := cell_later hb1 (a := ⟨w.heap.size + 1, 0, none⟩) (v := .string ⟨#[]⟩) (by simp); have q1 := cell_later hb1 (a := ⟨w.heap.size + 1, 1, none⟩) (v := .string ⟨#[]⟩) (by simp); have hz1 : w.heap.size + 1 < w1.heap.size := by (have := hb1.size; (try simp at this); omega)) | (go_at_call_of 82 (Value.string v); refine (clone_any _ _ hv).mono ?_; rintro e w2 ⟨rfl, hb2⟩; obtain ⟨hc2, hf2⟩ := bcell hb2; have r0 := cell_later hb2 q0; have r1 := cell_later hb2 q1; have hz2 : w.heap.size + 1 < w2.heap.size := by (have := hb2.size; (try simp at this); omega)))
  all_goals
    go_wp2
    refine bodyPost_ret (v := .agg #[.string n, .string v]) (by simp [results, Tryz.results76, go_sem, r0, r1]) rfl ⟨rfl, ?_⟩
    exact ((bel_of (bel_of (((Below.refl _ w).alloc (Nat.le_refl _) _).alloc (by simp) _).drew hb1) hb2).setCell (by simp) _).setCell (by simp) _
end Go.Proofs.YtnohadlihgjppaaGreatDoor
