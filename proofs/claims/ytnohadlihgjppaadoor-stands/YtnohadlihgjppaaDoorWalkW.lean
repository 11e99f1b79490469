/- The law's own small help: pick and bounded. -/
import Derived.Test.YtnohadlihgjppaaDoorWalkU
namespace Go.Proofs.YtnohadlihgjppaaDoor
open Go.RowKit

def pickS (c n : Int) : Int := (if c < 0 then -(c + 1) else c) % n

set_option maxHeartbeats 1000000 in
theorem pick_any (c n : Int) (w : World) (h1 : -9223372036854775808 ≤ c) (h2 : c ≤ 9223372036854775807) (hn : 0 < n) (hn2 : n ≤ 9223372036854775807) :
    Calls Tryd.prog 9 #[.int .i64 c, .int .i64 n] w fun e w' => e = .returned (.int .i64 (pickS c n)) ∧ w' = w := by
  unfold pickS
  by_cases hc : c < 0
  · rw [if_pos hc]
    have w1 : IntKind.i64.wrap (c + 1) = c + 1 := by simp [IntKind.wrap, IntKind.bits, IntKind.signed]; omega
    have w2 : IntKind.i64.wrap (-(c + 1)) = -(c + 1) := by simp [IntKind.wrap, IntKind.bits, IntKind.signed]; omega
    have hz : ¬ n = 0 := by omega
    go_enter Tryd.func9, Tryd.ntmps9
    go_wp2
    go_ret
    refine ⟨?_, rfl⟩
    rw [show -(c + 1).tmod n = -(c + 1) % n from by rw [← Int.neg_tmod, Int.tmod_eq_emod_of_nonneg (by omega)]]
    rfl
  · rw [if_neg hc]
    have hz : ¬ n = 0 := by omega
    go_enter Tryd.func9, Tryd.ntmps9
    go_wp2
    go_ret
    exact ⟨rfl, rfl⟩
theorem pickS_bd (c n : Int) (hn : 0 < n) : 0 ≤ pickS c n ∧ pickS c n < n := ⟨Int.emod_nonneg _ (by omega), Int.emod_lt_of_pos _ hn⟩
set_option maxHeartbeats 1000000 in
theorem bounded_any (hd bd : Int) (w : World) (h1 : -9223372036854775808 ≤ hd) (h2 : hd ≤ 9223372036854775807) (h3 : -9223372036854775808 ≤ bd) (h4 : bd ≤ 9223372036854775807) :
    Calls Tryd.prog 7 #[.agg #[.int .i64 hd, .int .i64 bd]] w fun e w' => e = .returned (.agg #[.int .i64 (32 + pickS hd 469), .int .i64 (pickS bd 201)]) ∧ Below w.heap.size w w' := by
  have hp := pickS_bd hd 469 (by omega)
  have hq := pickS_bd bd 201 (by omega)
  go_enter Tryd.func7, Tryd.ntmps7
  have hw : IntKind.i64.wrap (32 + pickS hd 469) = 32 + pickS hd 469 := by simp [IntKind.wrap, IntKind.bits, IntKind.signed]; omega
  have HP := hid (fun W => pick_any hd 469 W h1 h2 (by omega) (by omega))
  have HQ := hid (fun W => pick_any bd 201 W h3 h4 (by omega) (by omega))
  go_wp2
  go_region_with (first | (go_at_call_of 9 (Value.int IntKind.i64 469); refine (HP.out _).mono ?_; rintro e w1 ⟨rfl, rfl⟩) | (go_at_call_of 9 (Value.int IntKind.i64 201); refine (HQ.out _).mono ?_; rintro e w1 ⟨rfl, rfl⟩))
  all_goals
    go_wp2
    refine bodyPost_ret (v := .agg #[.int .i64 (32 + pickS hd 469), .int .i64 (pickS bd 201)]) (by simp [results, Tryd.results7, go_sem]) rfl ⟨rfl, ?_⟩
    exact (((Below.refl _ _).alloc (Nat.le_refl _) _).alloc (by simp) _).drew

end Go.Proofs.YtnohadlihgjppaaDoor
