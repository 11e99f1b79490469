/- Plain mathematics, twelfth part: the form of a version, byte by byte; lists of names that differ in the case of letters alone. -/
import Derived.Test.YtnohadlihgjppaaGreatDoorPlainI
import Derived.Test.YtnohadlihgjppaaGreatDoorPlainK
namespace Go.Proofs.YtnohadlihgjppaaGreatDoor.Pm

theorem ver_form {w : List UInt8} (h : isVersion w = true) : ∃ a b c, w = [72, 84, 84, 80, 47, a, b, c] := by
  unfold isVersion at h
  rw [Bool.and_eq_true] at h
  obtain ⟨h1, h2⟩ := h
  unfold Lib.hasPrefix at h1
  obtain ⟨r, hr⟩ := List.isPrefixOf_iff_prefix.1 h1
  subst hr
  have h3 : Lib.trimPrefix (http ++ r) http = r := by
    unfold Lib.trimPrefix Lib.hasPrefix
    rw [if_pos (List.isPrefixOf_iff_prefix.2 ⟨r, rfl⟩)]
    simp
  rw [h3] at h2
  unfold verTail at h2
  match r, h2 with
  | [a, b, c], _ => exact ⟨a, b, c, rfl⟩
theorem ver_at (a b c : UInt8) : isVersion [72, 84, 84, 80, 47, a, b, c] = (digB a && (b == 46 && digB c)) := by
  unfold isVersion Lib.trimPrefix Lib.hasPrefix http
  simp [List.isPrefixOf, verTail]
theorem num_in (c : UInt8) : inB [48, 49, 50, 51, 52, 53, 54, 55, 56, 57] c = digB c := by
  have := all256 (p := fun c => inB [48, 49, 50, 51, 52, 53, 54, 55, 56, 57] c == digB c) (by decide +kernel) c
  simpa using this
theorem b46 (b : UInt8) : (b == 46) = !((b.toNat : Int) != 46) := by
  have := all256 (p := fun b => (b == 46) == !((b.toNat : Int) != 46)) (by decide +kernel) b
  simpa using this
/- nine bytes that begin as a version does -/
theorem nine {v : List UInt8} (h : v.length = 9) (h6 : v.take 6 = [32, 72, 84, 84, 80, 47]) : ∃ a b c, v = [32, 72, 84, 84, 80, 47, a, b, c] := by
  match v, h with
  | [x0, x1, x2, x3, x4, x5, a, b, c], _ =>
    simp at h6
    obtain ⟨rfl, rfl, rfl, rfl, rfl, rfl⟩ := h6
    exact ⟨a, b, c, rfl⟩
end Go.Proofs.YtnohadlihgjppaaGreatDoor.Pm
