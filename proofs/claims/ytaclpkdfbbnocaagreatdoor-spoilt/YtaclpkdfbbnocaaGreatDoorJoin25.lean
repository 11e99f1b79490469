/- Texts that follow one another, joined. -/
import Derived.Test.YtaclpkdfbbnocaaGreatDoorJoin24
import Derived.Test.YtaclpkdfbbnocaaGreatDoorJoin23
import Derived.Test.YtaclpkdfbbnocaaGreatDoorJoin21
/- The law's own small help: pick and bounded. -/
namespace Go.Proofs.YtaclpkdfbbnocaaGreatDoor
open Go.RowKit

def pickS (c n : Int) : Int := (if c < 0 then -(c + 1) else c) % n

set_option maxHeartbeats 1000000 in
theorem pick_any (c n : Int) (w : World) (h1 : -9223372036854775808 ≤ c) (h2 : c ≤ 9223372036854775807) (hn : 0 < n) (hn2 : n ≤ 9223372036854775807) :
    Calls Tryz.prog 5 #[.int .i64 c, .int .i64 n] w fun e w' => e = .returned (.int .i64 (pickS c n)) ∧ w' = w := by
  unfold pickS
  by_cases hc : c < 0
  · rw [if_pos hc]
    have w1 : IntKind.i64.wrap (c + 1) = c + 1 := by simp [IntKind.wrap, IntKind.bits, IntKind.signed]; omega
    have w2 : IntKind.i64.wrap (-(c + 1)) = -(c + 1) := by simp [IntKind.wrap, IntKind.bits, IntKind.signed]; omega
    have hz : ¬ n = 0 := by omega
    go_enter Tryz.func5, Tryz.ntmps5
    go_wp2
    go_ret
    refine ⟨?_, rfl⟩
    rw [show -(c + 1).tmod n = -(c + 1) % n from by rw [← Int.neg_tmod, Int.tmod_eq_emod_of_nonneg (by omega)]]
    rfl
  · rw [if_neg hc]
    have hz : ¬ n = 0 := by omega
    go_enter Tryz.func5, Tryz.ntmps5
    go_wp2
    go_ret
    exact ⟨rfl, rfl⟩
theorem pickS_bd (c n : Int) (hn : 0 < n) : 0 ≤ pickS c n ∧ pickS c n < n := ⟨Int.emod_nonneg _ (by omega), Int.emod_lt_of_pos _ hn⟩
end Go.Proofs.YtaclpkdfbbnocaaGreatDoor

/- The walk of porterkeep's sized; nothing old in memory turns. -/
namespace Go.Proofs.YtaclpkdfbbnocaaGreatDoor
open Go.RowKit

theorem ZoAt.of_owns {w : World} {B : Nat} {e : TypeId} {v : Value} {n : Nat} {l : List Int} (h : w.ownsRow B e 1 v n (l.map (Value.int .i64))) : ∃ a cap, v = .slice a l.length cap ∧ ZoAt l a w := by
  obtain ⟨h1, h2⟩ := h
  simp at h1
  rcases h2 with ⟨rfl, hn⟩ | ⟨g, cap, cur, rfl, _, hg, _, _, _, hc⟩
  · have hl : l = [] := List.eq_nil_of_length_eq_zero (by omega)
    subst hl
    exact ⟨none, 0, rfl, fun i hi => absurd hi (by simp)⟩
  · refine ⟨some ⟨g, 0, none⟩, cap, by rw [h1], fun i hi => ⟨g, 0, rfl, (Array.getElem?_eq_some_iff.1 hg).1, ?_⟩⟩
    rw [Lib.cell_of_heap hg]
    have h3 : (l.map (Value.int .i64))[i]? = some (.int .i64 l[i]) := by simp [List.getElem?_map, List.getElem?_eq_getElem hi]
    rw [← hc, List.getElem?_take_of_lt (by omega)] at h3
    simpa using h3
set_option maxRecDepth 100000 in
set_option maxHeartbeats 1000000 in
theorem sized_any (zs : List Int) (b : Option Addr) (cb n : Nat) (w : World) (hzo : ZoAt zs b w) (hl : zs.length ≤ maxLen) (hn : n ≤ 1000) (hz : ∀ i (h : i < zs.length), -9223372036854775808 ≤ zs[i] ∧ zs[i] ≤ 9223372036854775807) :
    Calls Tryz.prog 12 #[.slice b zs.length cb, .int .i64 n] w fun e w' => (∃ b' cb', e = .returned (.slice b' (sizedL zs n).length cb') ∧ ZoAt (sizedL zs n) b' w') ∧ Below w.heap.size w w' := by
  obtain ⟨i0, hi, hz0, hz1, hz2⟩ := info_parts infoInt
  have HZ := hid hz
  have HO := hid hzo
  unfold maxLen at hl
  clear hz hzo
  go_enter Tryz.func12, Tryz.ntmps12
  go_wp2
  go_loopw [1, 5, 6, 7] (fun m v i _ wr => ∃ (k left : Nat) (P : List Int), k ≤ zs.length ∧ k + left ≤ n ∧ P.length = k ∧ m = .int .i64 left ∧ i = .int .i64 k ∧ Hid (sizedL zs n = P ++ sizedL (zs.drop k) left) ∧ wr.ownsRow w.heap.size 3 1 v k (P.map (Value.int .i64)) ∧ Below w.heap.size w wr) (fun _ _ i _ _ => zs.length - (intOf i).toNat)
  case atStart => exact ⟨0, n, [], Nat.zero_le _, by omega, rfl, rfl, rfl, rfl, World.ownsRow_nil _ _ _ _, Below.refl _ _⟩
  case round =>
    obtain ⟨k, left, P, hk, hkl, hP, rfl, rfl, HE, hown, hbw⟩ := hrel
    by_cases hlt : k < zs.length ∧ 0 < left
    · obtain ⟨hl1, hl2⟩ := hlt
      obtain ⟨g, o, rfl, hg, hc1⟩ := (HO.out.below hbw) k hl1
      obtain ⟨z1, z2⟩ := HZ.out k hl1
      have HPK := hid (fun W => pick_any zs[k] (left : Nat) W z1 z2 (by omega) (by omega))
      obtain ⟨p1, p2⟩ := pickS_bd zs[k] (left : Nat) (by omega)
      obtain ⟨pk, hpk⟩ : ∃ pk : Nat, pickS zs[k] (left : Nat) = pk := ⟨(pickS zs[k] (left : Nat)).toNat, by omega⟩
      have HX : Hid (sizedL zs n = (P ++ [(pk : Int) + 1]) ++ sizedL (zs.drop (k + 1)) ((left - (pk + 1) : Nat) : Int)) := by
        have h1 := sized_next zs k left hl1 (by omega)
        rw [show pickN zs[k] (left : Int) = (pk : Int) from hpk] at h1
        unfold Hid
        rw [HE.out, h1, List.append_assoc, show ((left - (pk + 1) : Nat) : Int) = (left : Int) - ((pk : Int) + 1) from by omega]; rfl
      rw [hpk] at HPK p2
      have hbs := hbw.size
      generalize zs[k] = z at *
      clear HE z1 z2 hpk p1
      have hw3 : wrap64 ((left : Int) - ((pk : Int) + 1)) = ((left - (pk + 1) : Nat) : Int) := by unfold wrap64; omega
      go_wp2_with fail
      refine (HPK.out _).mono ?_
      rintro e w1 ⟨rfl, hw1⟩
      subst hw1
      clear HPK
      go_wp2_with (at_builtin; refine wpList_append_own _ rfl _ _ 25 rfl w.heap.size 3 i0 (.int .i64 0) 1 8 Tryz.underlying25 hi hz0 hz1 hz2 rfl (by decide) _ _ _ rfl (hown.alloc _) ⟨w1.heap.size, 0, none⟩ 1 1 [.int .i64 ((pk : Int) + 1)] rfl rfl ?c1 ?c2 ?c3 ?c4 ?c5 ?_)
      case c1 =>
        intro j u hj
        match j, hj with
        | 0, hj => simp at hj; subst hj; simp [Addr.add]
      case c2 => intro u hu; simp at hu; subst hu; rfl
      case c3 => unfold maxLen; omega
      case c4 => omega
      case c5 => have := hbw.size; simp; omega
      intro v' w2 hown' hgrow _
      have hb3 : Below w.heap.size w w2 := (hbw.alloc hbw.size _).grown hgrow (by have := hbw.size; simp; omega) (own_ge hown)
      clear hgrow
      go_wp2
      refine ⟨⟨k + 1, left - (pk + 1), P ++ [(pk : Int) + 1], by omega, by omega, by simp [hP], by go_num, by go_num, HX, ?_, hb3⟩, by simp [intOf]; omega⟩
      rw [List.map_append]
      exact hown'
    · by_cases h0 : 0 < left
      · have hkz : ¬ k < zs.length := fun h => hlt ⟨h, h0⟩
        have HX : Hid (sizedL zs n = P ++ [(left : Int)]) := by
          unfold Hid; rw [HE.out, List.drop_eq_nil_of_le (by omega), sizedL, if_pos (by omega)]
        have hbs := hbw.size
        clear HE
        go_wp2_with (at_builtin; refine wpList_append_own _ rfl _ _ 25 rfl w.heap.size 3 i0 (.int .i64 0) 1 8 Tryz.underlying25 hi hz0 hz1 hz2 rfl (by decide) _ _ _ rfl (hown.alloc _) ⟨wr.heap.size, 0, none⟩ 1 1 [.int .i64 (left : Int)] rfl rfl ?c1 ?c2 ?c3 ?c4 ?c5 ?_)
        case c1 =>
          intro j u hj
          match j, hj with
          | 0, hj => simp at hj; subst hj; simp [Addr.add]
        case c2 => intro u hu; simp at hu; subst hu; rfl
        case c3 => unfold maxLen; omega
        case c4 => omega
        case c5 => have := hbw.size; simp; omega
        intro v' w2 hown' hgrow _
        have hb3 : Below w.heap.size w w2 := (hbw.alloc hbw.size _).grown hgrow (by have := hbw.size; simp; omega) (own_ge hown)
        have hown2 : w2.ownsRow w.heap.size 3 1 v' (k + 1) ((sizedL zs n).map (Value.int .i64)) := by rw [HX.out, List.map_append]; exact hown'
        clear hgrow hown'
        obtain ⟨a', c', rfl, hzo⟩ := ZoAt.of_owns hown2
        go_wp2
        go_ret
        exact ⟨⟨a', c', rfl, hzo⟩, hb3⟩
      · have HX : Hid (sizedL zs n = P) := by
          unfold Hid; rw [HE.out, sized_zero _ _ (by omega), List.append_nil]
        clear HE
        rw [← HX.out] at hown
        obtain ⟨a', c', rfl, hzo⟩ := ZoAt.of_owns hown
        by_cases h1 : k < zs.length
        · go_wp2
          go_ret
          exact ⟨⟨a', c', rfl, hzo⟩, hbw⟩
        · go_wp2
          go_ret
          exact ⟨⟨a', c', rfl, hzo⟩, hbw⟩
end Go.Proofs.YtaclpkdfbbnocaaGreatDoor
