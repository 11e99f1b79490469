/- Texts that follow one another, joined. -/
import Derived.Test.YtaclpkdfbbnocaaGreatDoorJoin29
/- The walk of porterkeep's spoilt; nothing old in memory turns. -/
namespace Go.Proofs.YtaclpkdfbbnocaaGreatDoor
open Go.RowKit

def verB : List UInt8 := [77, 32, 47, 32, 72, 84, 84, 80, 47, 49, 46, 48, 13, 10]
def spoilO (x r : List UInt8) (how : Int) (n way : Nat) : List UInt8 := if way < 7 then x ++ 10 :: ((spoilX how n way).1 ++ r) else verB ++ (x ++ 10 :: r)
def spoilE (how : Int) (n way : Nat) : Int := if way < 7 then (spoilX how n way).2 else 7
theorem ret_sp {a b : List UInt8} {e f : Int} (h : a = b) (h' : e = f) : Ending.returned (.tuple #[.string ⟨a.toArray⟩, .int .i64 e]) = .returned (.tuple #[.string ⟨b.toArray⟩, .int .i64 f]) := by rw [h, h']
theorem g_cat (n : Nat) : ((⟨#[99, 111, 110, 116, 101, 110, 116, 45, 108, 101, 110, 103, 116, 104, 58, 32, 32]⟩ : ByteArray) ++ ⟨(natT 10 (n + 1)).toArray⟩ ++ ⟨#[32, 13, 10]⟩).data.toList = gLine n ++ [13, 10] := by
  unfold gLine; simp
abbrev SpG (s : ByteArray) (x r : List UInt8) (how : Int) (n way : Nat) (w : World) : Prop := Calls Tryz.prog 8 #[.string s, .int .i64 how, .int .i64 way, .int .i64 n] w fun e w' => e = .returned (.tuple #[.string ⟨(spoilO x r how n way).toArray⟩, .int .i64 (spoilE how n way)]) ∧ Below w.heap.size w w'
abbrev AfC (s : ByteArray) (x r : List UInt8) : Prop := ∀ (t : ByteArray) (W : World), t.size ≤ 1000 → Calls Tryz.prog 15 #[.string s, .string t] W fun e w' => e = .returned (.string ⟨(x ++ 10 :: (t.data.toList ++ r)).toArray⟩) ∧ Below W.heap.size W w'
set_option maxRecDepth 100000 in
set_option maxHeartbeats 1000000 in
theorem sp0a (s : ByteArray) (x r : List UInt8) (n : Nat) (w : World) (HA : Hid (AfC s x r)) : SpG s x r 0 n 0 w := by
  go_enter Tryz.func8, Tryz.ntmps8
  go_wp2_with fail
  refine (HA.out _ _ (by decide)).mono ?_
  rintro e w2 ⟨rfl, hb2⟩
  go_wp2
  go_ret2
  exact ⟨ret_sp rfl rfl, hb2⟩
set_option maxRecDepth 100000 in
set_option maxHeartbeats 1000000 in
theorem sp0b (s : ByteArray) (x r : List UInt8) (n : Nat) (w : World) (HA : Hid (AfC s x r)) : SpG s x r 1 n 0 w := by
  go_enter Tryz.func8, Tryz.ntmps8
  go_wp2_with fail
  refine (HA.out _ _ (by decide)).mono ?_
  rintro e w2 ⟨rfl, hb2⟩
  go_wp2
  go_ret2
  exact ⟨ret_sp rfl rfl, hb2⟩
set_option maxRecDepth 100000 in
set_option maxHeartbeats 1000000 in
theorem sp1b (s : ByteArray) (x r : List UInt8) (n : Nat) (w : World) (HA : Hid (AfC s x r)) : SpG s x r 1 n 1 w := by
  go_enter Tryz.func8, Tryz.ntmps8
  go_wp2_with fail
  refine (HA.out _ _ (by decide)).mono ?_
  rintro e w2 ⟨rfl, hb2⟩
  go_wp2
  go_ret2
  exact ⟨ret_sp rfl rfl, hb2⟩
set_option maxRecDepth 100000 in
set_option maxHeartbeats 1000000 in
theorem sp2 (s : ByteArray) (x r : List UInt8) (how : Int) (n : Nat) (w : World) (HA : Hid (AfC s x r)) : SpG s x r how n 2 w := by
  go_enter Tryz.func8, Tryz.ntmps8
  go_wp2_with fail
  refine (HA.out _ _ (by decide)).mono ?_
  rintro e w2 ⟨rfl, hb2⟩
  go_wp2
  go_ret2
  exact ⟨ret_sp rfl rfl, hb2⟩
set_option maxRecDepth 100000 in
set_option maxHeartbeats 1000000 in
theorem sp3 (s : ByteArray) (x r : List UInt8) (how : Int) (n : Nat) (w : World) (HA : Hid (AfC s x r)) : SpG s x r how n 3 w := by
  go_enter Tryz.func8, Tryz.ntmps8
  go_wp2_with fail
  refine (HA.out _ _ (by decide)).mono ?_
  rintro e w2 ⟨rfl, hb2⟩
  go_wp2
  go_ret2
  exact ⟨ret_sp rfl rfl, hb2⟩
set_option maxRecDepth 100000 in
set_option maxHeartbeats 1000000 in
theorem sp4 (s : ByteArray) (x r : List UInt8) (how : Int) (n : Nat) (w : World) (HA : Hid (AfC s x r)) : SpG s x r how n 4 w := by
  go_enter Tryz.func8, Tryz.ntmps8
  go_wp2_with fail
  refine (HA.out _ _ (by decide)).mono ?_
  rintro e w2 ⟨rfl, hb2⟩
  go_wp2
  go_ret2
  exact ⟨ret_sp rfl rfl, hb2⟩
set_option maxRecDepth 100000 in
set_option maxHeartbeats 1000000 in
theorem sp5 (s : ByteArray) (x r : List UInt8) (how : Int) (n : Nat) (w : World) (HA : Hid (AfC s x r)) : SpG s x r how n 5 w := by
  go_enter Tryz.func8, Tryz.ntmps8
  go_wp2_with fail
  refine (HA.out _ _ (by decide)).mono ?_
  rintro e w2 ⟨rfl, hb2⟩
  go_wp2
  go_ret2
  exact ⟨ret_sp rfl rfl, hb2⟩
set_option maxRecDepth 100000 in
set_option maxHeartbeats 1000000 in
theorem sp6 (s : ByteArray) (x r : List UInt8) (how : Int) (n : Nat) (w : World) (HA : Hid (AfC s x r)) : SpG s x r how n 6 w := by
  go_enter Tryz.func8, Tryz.ntmps8
  go_wp2_with fail
  refine (HA.out _ _ (by decide)).mono ?_
  rintro e w2 ⟨rfl, hb2⟩
  go_wp2
  go_ret2
  exact ⟨ret_sp rfl rfl, hb2⟩
set_option maxRecDepth 100000 in
set_option maxHeartbeats 1000000 in
theorem sp7 (s : ByteArray) (x r : List UInt8) (how : Int) (n : Nat) (w : World) (HV : Hid (∀ W, Calls Tryz.prog 15 #[.string ⟨#[77, 32, 47, 32, 72, 84, 84, 80, 47, 49, 46, 48, 13, 10]⟩, .string s] W fun e w' => e = .returned (.string ⟨(verB ++ (x ++ 10 :: r)).toArray⟩) ∧ Below W.heap.size W w')) : SpG s x r how n 7 w := by
  go_enter Tryz.func8, Tryz.ntmps8
  go_wp2_with fail
  refine (HV.out _).mono ?_
  rintro e w2 ⟨rfl, hb2⟩
  go_wp2
  go_ret2
  exact ⟨ret_sp rfl rfl, hb2⟩
set_option maxRecDepth 100000 in
set_option maxHeartbeats 1000000 in
theorem sp1a (s : ByteArray) (x r : List UInt8) (n : Nat) (w : World) (hn : n ≤ 200) (HA : Hid (AfC s x r)) : SpG s x r 0 n 1 w := by
  have HNU := hid (fun W => number_any (n + 1) W (by omega))
  have hnl := natT_le (b := 10) (u := n + 1) (by omega) (by omega)
  have HG := hid (g_cat n)
  have hwn : wrap64 ((n : Int) + 1) = ((n + 1 : Nat) : Int) := by unfold wrap64; omega
  have hTz : (⟨(natT 10 (n + 1)).toArray⟩ : ByteArray).size ≤ 64 := hnl
  have HO : Hid (spoilO x r 0 n 1 = x ++ 10 :: ((gLine n ++ [13, 10]) ++ r)) := rfl
  have HZ : Hid (((⟨#[99, 111, 110, 116, 101, 110, 116, 45, 108, 101, 110, 103, 116, 104, 58, 32, 32]⟩ : ByteArray) ++ ⟨(natT 10 (n + 1)).toArray⟩ ++ ⟨#[32, 13, 10]⟩).size ≤ 1000) := by
    unfold Hid
    rw [ByteArray.size_append, ByteArray.size_append]
    have e1 : (⟨#[99, 111, 110, 116, 101, 110, 116, 45, 108, 101, 110, 103, 116, 104, 58, 32, 32]⟩ : ByteArray).size = 17 := rfl
    have e2 : (⟨#[32, 13, 10]⟩ : ByteArray).size = 3 := rfl
    omega
  generalize (⟨(natT 10 (n + 1)).toArray⟩ : ByteArray) = T at *
  clear hnl
  go_enter Tryz.func8, Tryz.ntmps8
  go_wp2_with fail
  refine (HNU.out _).mono ?_
  rintro e w1 ⟨rfl, hb1⟩
  clear HNU
  go_wp2_with fail
  refine (HA.out _ _ HZ.out).mono ?_
  rintro e w2 ⟨rfl, hb2⟩
  rw [HG.out]
  have hB := bel_of hb1 hb2
  go_wp2
  go_ret2
  exact ⟨ret_sp (by rw [HO.out]; simp) rfl, hB⟩
theorem spoilt_any (s : ByteArray) (x r : List UInt8) (how : Int) (n way : Nat) (w : World) (hs : s.data.toList = x ++ 10 :: r) (hx : ∀ c ∈ x, c ≠ 10) (hz : s.size ≤ 1000000) (hh : how = 0 ∨ how = 1) (hn : n ≤ 200) (hw : way < 8) : SpG s x r how n way w := by
  have HA : Hid (AfC s x r) := fun t W ht => after_any s t x r W hs hx (by omega)
  have HV : Hid (∀ W, Calls Tryz.prog 15 #[.string ⟨#[77, 32, 47, 32, 72, 84, 84, 80, 47, 49, 46, 48, 13, 10]⟩, .string s] W fun e w' => e = .returned (.string ⟨(verB ++ (x ++ 10 :: r)).toArray⟩) ∧ Below W.heap.size W w') := fun W => by
    have h := after_any ⟨#[77, 32, 47, 32, 72, 84, 84, 80, 47, 49, 46, 48, 13, 10]⟩ s [77, 32, 47, 32, 72, 84, 84, 80, 47, 49, 46, 48, 13] [] W rfl (by decide) (by show 14 + s.size ≤ _; omega)
    rw [hs, List.append_nil] at h
    exact h
  have hc : way = 0 ∨ way = 1 ∨ way = 2 ∨ way = 3 ∨ way = 4 ∨ way = 5 ∨ way = 6 ∨ way = 7 := by omega
  rcases hc with rfl | rfl | rfl | rfl | rfl | rfl | rfl | rfl
  · rcases hh with rfl | rfl
    · exact sp0a s x r n w HA
    · exact sp0b s x r n w HA
  · rcases hh with rfl | rfl
    · exact sp1a s x r n w hn HA
    · exact sp1b s x r n w HA
  · exact sp2 s x r how n w HA
  · exact sp3 s x r how n w HA
  · exact sp4 s x r how n w HA
  · exact sp5 s x r how n w HA
  · exact sp6 s x r how n w HA
  · exact sp7 s x r how n w HV
end Go.Proofs.YtaclpkdfbbnocaaGreatDoor

/- Plain mathematics: what Reframed and Spoilt say of a fit request that is told. -/
namespace Go.Proofs.YtaclpkdfbbnocaaGreatDoor

def sM (m : ByteArray) : ByteArray := ⟨(fitM m.data.toList).toArray⟩
def sT (t : ByteArray) : ByteArray := ⟨(fitT t.data.toList).toArray⟩
def sB (b : ByteArray) : ByteArray := ⟨(b.data.toList.take 200).toArray⟩
def sS (m t : ByteArray) (fs : List Pr2) (b : ByteArray) (how : Int) (zs : List Int) : ByteArray := ⟨(printL (fitM m.data.toList) (fitT t.data.toList) (fitFs fs) (b.data.toList.take 200) how (zlOf how zs (sB b).size)).toArray⟩
theorem sB_len (b : ByteArray) : (b.data.toList.take 200).length = (sB b).size ∧ (sB b).size ≤ 200 := by
  have h : (sB b).data.toList.length = (sB b).size := by simp
  have e : (sB b).data.toList = b.data.toList.take 200 := rfl
  rw [e] at h
  refine ⟨h, ?_⟩
  rw [← h, List.length_take]; omega
theorem sS_how (b : ByteArray) (how : Int) (zs : List Int) (hh : how = 0 ∨ how = 1) : howOk how (zlOf how zs (sB b).size) ((b.data.toList.take 200).length : Nat) = true := by
  rw [(sB_len b).1]; exact zl_ok hh zs _
theorem sS_frame (m t : ByteArray) (fs : List Pr2) (b : ByteArray) (how : Int) (zs : List Int) (r : List UInt8) (hh : how = 0 ∨ how = 1) :
    frameS ((sS m t fs b how zs).data.toList ++ r) 500 200 = (0, fitM m.data.toList, fitT t.data.toList, (fitFs fs).map toL ++ [lastL how (sB b).size], b.data.toList.take 200, (sS m t fs b how zs).data.toList.length) := by
  have h := fit_framed m.data.toList t.data.toList fs (b.data.toList.take 200) how (zlOf how zs (sB b).size) r hh (sS_how b how zs hh) (by rw [(sB_len b).1]; exact (sB_len b).2)
  rw [(sB_len b).1] at h
  exact h
theorem lns_small (m t : ByteArray) (fs : List Pr2) (b : ByteArray) (how : Int) (hh : how = 0 ∨ how = 1) : Told (fitM m.data.toList) (fitT t.data.toList) (fitFs fs) (b.data.toList.take 200) how :=
  fit_told m.data.toList t.data.toList fs (b.data.toList.take 200) how hh (by rw [(sB_len b).1]; exact (sB_len b).2)
theorem zl_all {how : Int} (hh : how = 0 ∨ how = 1) (zs : List Int) (n : Nat) (hn : n ≤ 200) : (∀ s ∈ zlOf how zs n, 1 ≤ s ∧ s ≤ 9223372036854775807) ∧ (zlOf how zs n).length ≤ 200 := by
  rcases hh with rfl | rfl
  · exact ⟨fun s hs => by simp [zlOf] at hs, by simp [zlOf]⟩
  · have e : zlOf 1 zs n = sizedL zs n := rfl
    rw [e]
    obtain ⟨h1, h2⟩ := (sizesOk_iff (sizedL zs n) n (by omega)).1 (sized_ok zs n (by omega))
    have h3 := sized_len zs n (by omega)
    refine ⟨fun s hs => ⟨h1 s hs, ?_⟩, by omega⟩
    have hm : s ≤ (sizedL zs n).sum := by
      generalize sizedL zs n = L at *
      clear h2 h3 e
      induction L with
      | nil => cases hs
      | cons x l ih =>
        have hp := sum_pos l (fun y hy => h1 y (by simp [hy]))
        rw [List.sum_cons]
        rcases List.mem_cons.mp hs with rfl | hs
        · omega
        · have := ih (fun y hy => h1 y (by simp [hy])) hs
          have := h1 x (by simp)
          omega
    omega
theorem sS_len (m t : ByteArray) (fs : List Pr2) (b : ByteArray) (how : Int) (zs : List Int) (hh : how = 0 ∨ how = 1) : (sS m t fs b how zs).size ≤ 100000 ∧ 0 < (sS m t fs b how zs).size := by
  have h := lns_small m t fs b how hh
  have h1 := h.ln
  have e := printL_parts (fitM m.data.toList) (fitT t.data.toList) (fitFs fs) (b.data.toList.take 200) how (zlOf how zs (sB b).size)
  have hz : (sS m t fs b how zs).data.toList.length = (sS m t fs b how zs).size := by simp
  have e2 : (sS m t fs b how zs).data.toList = printL (fitM m.data.toList) (fitT t.data.toList) (fitFs fs) (b.data.toList.take 200) how (zlOf how zs (sB b).size) := rfl
  rw [← hz, e2, e]
  obtain ⟨z1, z2⟩ := zl_all hh zs (sB b).size (sB_len b).2
  have h3 := chL_len (zlOf how zs (sB b).size) (b.data.toList.take 200) z1
  have h4 := sB_len b
  have h5 : (bodyT how (zlOf how zs (sB b).size) (b.data.toList.take 200)).length ≤ 69 * 200 + 200 + 5 := by
    unfold bodyT; split <;> omega
  have h6 : Pm.http11.length ≤ 20 := by decide
  simp only [List.length_append, List.length_cons, List.length_nil]
  omega
theorem sS_split (m t : ByteArray) (fs : List Pr2) (b : ByteArray) (how : Int) (zs : List Int) (hh : how = 0 ∨ how = 1) :
    ∃ x r : List UInt8, (sS m t fs b how zs).data.toList = x ++ 10 :: r ∧ (∀ c ∈ x, c ≠ 10) ∧ ∀ (way : Nat) (tail : List UInt8), way < 8 → frameS (spoilO x r how (sB b).size way ++ tail) 500 200 = frameBad (spoilE how (sB b).size way) := by
  have h := lns_small m t fs b how hh
  have e := printL_parts (fitM m.data.toList) (fitT t.data.toList) (fitFs fs) (b.data.toList.take 200) how (zlOf how zs (sB b).size)
  have e2 : (sS m t fs b how zs).data.toList = printL (fitM m.data.toList) (fitT t.data.toList) (fitFs fs) (b.data.toList.take 200) how (zlOf how zs (sB b).size) := rfl
  obtain ⟨p1, p2, _⟩ := h.parts
  refine ⟨fitM m.data.toList ++ [32] ++ fitT t.data.toList ++ [32] ++ Pm.http11 ++ [13], _, by rw [e2, e]; simp only [List.append_assoc, List.cons_append, List.nil_append]; rfl, ?_, ?_⟩
  · intro c hc
    simp only [List.mem_append, List.mem_singleton] at hc
    rcases hc with ((((hc | rfl) | hc) | rfl) | hc) | rfl
    · exact (method_told p1 c hc).2
    · decide
    · exact (target_told p2 c hc).2
    · decide
    · have : ∀ c ∈ Pm.http11, c ≠ 10 := by decide
      exact this c hc
    · decide
  · intro way tail hw
    by_cases h7 : way < 7
    · have h2 := spoilt_way h (zlOf how zs (sB b).size) tail way
      rw [(sB_len b).1] at h2
      unfold spoilO spoilE
      rw [if_pos h7, if_pos h7, ← h2]
      congr 2
      unfold afterL
      simp only [List.append_assoc, List.cons_append, List.nil_append]
    · unfold spoilO spoilE
      rw [if_neg h7, if_neg h7, List.append_assoc]
      exact spoilt_version _
end Go.Proofs.YtaclpkdfbbnocaaGreatDoor
