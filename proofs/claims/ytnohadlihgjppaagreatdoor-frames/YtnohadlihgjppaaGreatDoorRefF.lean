/- The reference's chunks: they tell what the plain mathematics says; nothing old in memory turns. -/
import Derived.Test.YtnohadlihgjppaaGreatDoorRefE
namespace Go.Proofs.YtnohadlihgjppaaGreatDoor
open Go.RowKit

theorem chunksR_succ (f : Nat) (l : List UInt8) (hd : Nat) (left : Int) : chunksR (f + 1) l hd left =
    if sizeE l ≠ 0 then (sizeE l, [], 0)
    else if 0 < sizeN l then
      (if (chunkS (l.drop (Pm.lineS l 10 3).2.2) (sizeN l).toNat left).1 ≠ 0 then ((chunkS (l.drop (Pm.lineS l 10 3).2.2) (sizeN l).toNat left).1, [], 0)
       else if (chunksR f (l.drop ((Pm.lineS l 10 3).2.2 + (chunkS (l.drop (Pm.lineS l 10 3).2.2) (sizeN l).toNat left).2.2)) hd (left - (chunkS (l.drop (Pm.lineS l 10 3).2.2) (sizeN l).toNat left).2.1.length)).1 ≠ 0 then ((chunksR f (l.drop ((Pm.lineS l 10 3).2.2 + (chunkS (l.drop (Pm.lineS l 10 3).2.2) (sizeN l).toNat left).2.2)) hd (left - (chunkS (l.drop (Pm.lineS l 10 3).2.2) (sizeN l).toNat left).2.1.length)).1, [], 0)
       else (0, (chunkS (l.drop (Pm.lineS l 10 3).2.2) (sizeN l).toNat left).2.1 ++ (chunksR f (l.drop ((Pm.lineS l 10 3).2.2 + (chunkS (l.drop (Pm.lineS l 10 3).2.2) (sizeN l).toNat left).2.2)) hd (left - (chunkS (l.drop (Pm.lineS l 10 3).2.2) (sizeN l).toNat left).2.1.length)).2.1, (Pm.lineS l 10 3).2.2 + (chunkS (l.drop (Pm.lineS l 10 3).2.2) (sizeN l).toNat left).2.2 + (chunksR f (l.drop ((Pm.lineS l 10 3).2.2 + (chunkS (l.drop (Pm.lineS l 10 3).2.2) (sizeN l).toNat left).2.2)) hd (left - (chunkS (l.drop (Pm.lineS l 10 3).2.2) (sizeN l).toNat left).2.1.length)).2.2))
    else if (Pm.trailS (hd + 1) (l.drop (Pm.lineS l 10 3).2.2) hd 0).1 ≠ 0 then ((Pm.trailS (hd + 1) (l.drop (Pm.lineS l 10 3).2.2) hd 0).1, [], 0)
    else (0, [], (Pm.lineS l 10 3).2.2 + (Pm.trailS (hd + 1) (l.drop (Pm.lineS l 10 3).2.2) hd 0).2) := rfl
def chEnd (k : Nat) (R : Int × List UInt8 × Nat) : Int := if R.1 = 0 then ((k + R.2.2 : Nat) : Int) else 0
theorem suf2 {l : List UInt8} {n : Nat} (h : n + 1 < l.length) : Lib.hasSuffix (l.take (n + 2)) [13, 10] = (l[n] == 13 && l[n + 1] == 10) := by
  rw [show n + 2 = (n + 1) + 1 from rfl, List.take_succ_eq_append_getElem h, List.take_succ_eq_append_getElem (by omega : n < l.length)]
  unfold Lib.hasSuffix
  rw [Bool.eq_iff_iff, List.isSuffixOf_iff_suffix]
  constructor
  · intro ⟨t, ht⟩
    rw [List.append_assoc] at ht
    have := (List.append_inj' ht rfl).2
    simp at this; simp [← this.1, ← this.2]
  · intro h2
    simp at h2; rw [h2.1, h2.2]; exact ⟨l.take n, by simp⟩
theorem chunk_large {l : List UInt8} {n : Nat} {room : Int} (h : room < n) : chunkS l n room = (4, [], 0) := by unfold chunkS; rw [if_pos h]
theorem chunk_more {l : List UInt8} {n : Nat} {room : Int} (h : ¬ room < n) (h2 : l.length < n + 2) : chunkS l n room = (2, [], 0) := by unfold chunkS; rw [if_neg h, if_pos h2]
theorem chunk_bad {l : List UInt8} {n : Nat} {room : Int} (h : ¬ room < n) (h2 : n + 1 < l.length) (h3 : (l[n] == 13 && l[n + 1] == 10) = false) : chunkS l n room = (3, [], n + 2) := by
  unfold chunkS; rw [if_neg h, if_neg (by omega), suf2 h2, h3]; rfl
theorem chunk_good {l : List UInt8} {n : Nat} {room : Int} (h : ¬ room < n) (h2 : n + 1 < l.length) (h3 : (l[n] == 13 && l[n + 1] == 10) = true) : chunkS l n room = (0, l.take n, n + 2) := by
  have hs := suf2 h2
  rw [h3] at hs
  unfold chunkS; rw [if_neg h, if_neg (by omega), if_pos hs]
  unfold Lib.trimSuffix
  rw [if_pos hs, List.length_take, List.take_take]
  simp only [List.length_cons, List.length_nil]
  rw [show min (min (n + 2) l.length - (0 + 1 + 1)) (n + 2) = n from by omega]
theorem size_ok {l : List UInt8} (h1 : (Pm.lineS l 10 3).1 = 0) (h2 : Pm.numOk 16 8 (Pm.lineS l 10 3).2.1 = true) : sizeE l = 0 ∧ sizeN l = Pm.numM 16 8 (Pm.lineS l 10 3).2.1 := by
  unfold sizeE sizeN Pm.numE Pm.numN Pm.numM
  rw [if_pos h1, if_pos h1, h2]; exact ⟨rfl, rfl⟩
theorem size_bad {l : List UInt8} (h1 : (Pm.lineS l 10 3).1 = 0) (h2 : Pm.numOk 16 8 (Pm.lineS l 10 3).2.1 = false) : sizeE l = 3 := by
  unfold sizeE Pm.numE
  rw [if_pos h1, h2]; rfl
theorem size_err {l : List UInt8} (h1 : (Pm.lineS l 10 3).1 ≠ 0) : sizeE l = (Pm.lineS l 10 3).1 := by
  unfold sizeE; rw [if_neg h1]

theorem chunkS_ok (l : List UInt8) (n : Nat) (room : Int) (h : (chunkS l n room).1 = 0) : (chunkS l n room).2.1.length + (chunkS l n room).2.2 ≤ 2 * (chunkS l n room).2.2 ∧ (chunkS l n room).2.2 ≤ l.length := by
  unfold chunkS at h ⊢
  split at h <;> rename_i h1
  · simp at h
  rw [if_neg h1]
  split at h <;> rename_i h2
  · simp at h
  rw [if_neg h2]
  split at h <;> rename_i h3
  · rw [if_pos h3]
    simp only
    have h4 : (Lib.trimSuffix (l.take (n + 2)) [13, 10]).length ≤ n + 2 := by
      unfold Lib.trimSuffix; rw [if_pos h3, List.length_take, List.length_take]; omega
    omega
  · simp at h
theorem chunksR_len (hd : Nat) : ∀ (f : Nat) (l : List UInt8) (left : Int), (chunksR f l hd left).2.1.length ≤ l.length := by
  intro f
  induction f with
  | zero => intro l left; exact Nat.zero_le _
  | succ f ih =>
    intro l left
    rw [chunksR_succ]
    have ok := chunkS_ok (l.drop (Pm.lineS l 10 3).2.2) (sizeN l).toNat left
    generalize chunkS (l.drop (Pm.lineS l 10 3).2.2) (sizeN l).toNat left = c at *
    have h5 := ih (l.drop ((Pm.lineS l 10 3).2.2 + c.2.2)) (left - c.2.1.length)
    generalize chunksR f (l.drop ((Pm.lineS l 10 3).2.2 + c.2.2)) hd (left - c.2.1.length) = r at *
    split
    · exact Nat.zero_le _
    · split
      · split
        · exact Nat.zero_le _
        · rename_i h3
          split
          · exact Nat.zero_le _
          · obtain ⟨k1, k2⟩ := ok (by simpa using h3)
            simp only [List.length_append, List.length_drop] at *
            omega
      · split <;> exact Nat.zero_le _
theorem ret_chunk {a : ByteArray} {l : List UInt8} {n m e f : Int} (h : a.data.toList = l) (h2 : n = m) (h3 : e = f) :
    Ending.returned (.tuple #[.string a, .int .i64 n, .int .i64 e]) = .returned (.tuple #[.string ⟨l.toArray⟩, .int .i64 m, .int .i64 f]) := by
  rw [bytes_of h, h2, h3]

set_option maxRecDepth 100000 in
set_option maxHeartbeats 3000000 in
theorem rchunked_to (s : ByteArray) (hd : Nat) (hs : s.size ≤ 281474976710656) (hh : hd ≤ 500) (f : Nat) : ∀ (k : Nat) (left : Int) (w : World), k ≤ s.size → s.size - k < f → 0 ≤ left → left ≤ 200 →
    Calls Tryz.prog 27 #[.string s, .int .i64 k, .int .i64 left, .int .i64 hd] w fun r w' =>
      r = .returned (.tuple #[.string ⟨(chunksR f (s.data.toList.drop k) hd left).2.1.toArray⟩, .int .i64 (chEnd k (chunksR f (s.data.toList.drop k) hd left)), .int .i64 (chunksR f (s.data.toList.drop k) hd left).1]) ∧ Below w.heap.size w w' := by
  induction f with
  | zero => intro k left w _ h; omega
  | succ f ih =>
    intro k left w hk hf l0 l1
    have IH := hid ih
    clear ih
    have hsm : s.size ≤ maxLen := by unfold maxLen; omega
    have hk10 : (k : Int) + 8 + 2 = ((k + 10 : Nat) : Int) := by omega
    have HL := hid (rline_any s k (k + 10) 3 w hsm hk (by omega) (by omega))
    rw [show k + 10 - k = 10 from by omega] at HL
    have hok := hid (Pm.lineS_ok (l := s.data.toList.drop k) (lim := 10) (long := 3) (by omega))
    have HR := hid (chunksR_succ f (s.data.toList.drop k) hd left)
    have HE := hid (@size_err (s.data.toList.drop k))
    have HB := hid (@size_bad (s.data.toList.drop k))
    have HO := hid (@size_ok (s.data.toList.drop k))
    generalize hRR : chunksR (f + 1) (s.data.toList.drop k) hd left = R at *
    clear hRR
    generalize hLL : Pm.lineS (s.data.toList.drop k) 10 3 = L at *
    clear hLL
    go_enter Tryz.func27, Tryz.ntmps27
    go_wp2_with fail
    refine HL.out.mono ?_
    rintro e w1 ⟨rfl, hb1⟩
    generalize hlb : (⟨L.2.1.toArray⟩ : ByteArray) = lb
    have hld : lb.data.toList = L.2.1 := by rw [← hlb]
    clear hlb HL hk10
    rw [← hld] at hok HB HO
    by_cases h1 : L.1 = 0
    · obtain ⟨o1, o2, o3, o4⟩ := hok.out h1
      have o5 : L.2.2 ≤ s.size - k := by simpa using o3
      have hls : lb.size ≤ maxLen := by
        have : lb.data.toList.length = lb.size := by simp
        unfold maxLen; omega
      rw [h1]
      have HN := hid (fun W => rnumber_any lb 16 8 W hls (by omega) (by omega))
      cases hn : Pm.numOk 16 8 lb.data.toList
      · have hnm : Pm.numM 16 8 lb.data.toList = -1 := by unfold Pm.numM; rw [hn]; rfl
        have hse := HB.out h1 hn
        have HRR : Hid (R = (3, [], 0)) := by unfold Hid; rw [HR.out, hse]; rfl
        rw [hnm] at HN
        clear HR HB HO HE
        go_wp2_with (go_at_call 42; refine (HN.out _).mono ?_; rintro e w2 ⟨rfl, hb2⟩)
        go_ret3
        exact ⟨ret_chunk (by rw [HRR.out]) (by rw [HRR.out]; rfl) (by rw [HRR.out]), hb1.trans (hb2.mono hb1.size)⟩
      · obtain ⟨hse, hsn⟩ := HO.out h1 hn
        have hbd := Pm.numM_bd (base := 16) (most := 8) (l := lb.data.toList) (by omega) (by omega) (by omega)
        have hnn : 0 ≤ Pm.numM 16 8 lb.data.toList := by
          unfold Pm.numM; rw [hn]
          simp only [Pm.numOk, Bool.and_eq_true, decide_eq_true_eq] at hn
          exact (Pm.numv_bd 16 _ (by omega) (by omega) hn.2 (by omega)).1
        obtain ⟨n, hnn2⟩ : ∃ n : Nat, Pm.numM 16 8 lb.data.toList = n := ⟨(Pm.numM 16 8 lb.data.toList).toNat, by omega⟩
        rw [hse, if_neg (by simp), hsn, hnn2, Int.toNat_natCast] at HR
        rw [hnn2] at HN hbd
        clear HB HO HE hse hsn hnn hnn2 hn
        generalize L.2.2 = z at *
        clear o2 o3 o4 h1 hok hld
        simp only [List.drop_drop] at HR
        by_cases hn0 : n = 0
        · subst hn0
          rw [if_neg (by simp)] at HR
          have HTR := hid (fun W => rtrailer_any s (k + z) hd W (by omega) (by omega) hh)
          generalize Pm.trailS (hd + 1) (s.data.toList.drop (k + z)) hd 0 = T at *
          clear IH
          go_wp2_with (go_at_call 42; refine (HN.out _).mono ?_; rintro e w2 ⟨rfl, hb2⟩)
          refine (HTR.out _).mono ?_
          rintro e w3 ⟨rfl, hb3⟩
          have hB3 := (hb1.trans (hb2.mono hb1.size)).trans (hb3.mono (hb1.trans (hb2.mono hb1.size)).size)
          clear HN HTR
          generalize hte : trailEnd (k + z) T = te
          have HTE := hid hte
          clear hte
          go_wp2
          go_ret3
          by_cases ht : T.1 = 0
          · rw [if_neg (by simp [ht])] at HR
            exact ⟨ret_chunk (by rw [HR.out]) (by rw [HR.out, ← HTE.out]; unfold chEnd trailEnd; rw [if_pos ht, if_pos rfl]; simp only; omega) (by rw [HR.out]; exact ht), hB3⟩
          · rw [if_pos ht] at HR
            exact ⟨ret_chunk (by rw [HR.out]) (by rw [HR.out, ← HTE.out]; unfold chEnd trailEnd; rw [if_neg ht, if_neg ht]) (by rw [HR.out]), hB3⟩
        · rw [if_pos (by omega)] at HR
          have hn0' : ((n : Int) == 0) = false := by rw [beq_eq_false_iff_ne]; omega
          have hdl : (s.data.toList.drop (k + z)).length = s.size - (k + z) := by simp
          by_cases hlg : left < n
          · have HRR : Hid (R = (4, [], 0)) := by unfold Hid; rw [HR.out, chunk_large hlg]; rfl
            clear HR IH
            go_wp2_with (go_at_call 42; refine (HN.out _).mono ?_; rintro e w2 ⟨rfl, hb2⟩)
            go_ret3
            exact ⟨ret_chunk (by rw [HRR.out]) (by rw [HRR.out]; rfl) (by rw [HRR.out]), hb1.trans (hb2.mono hb1.size)⟩
          · by_cases hmo : s.size - (k + z) < n + 2
            · have HRR : Hid (R = (2, [], 0)) := by unfold Hid; rw [HR.out, chunk_more hlg (by rw [hdl]; exact hmo)]; rfl
              clear HR IH
              go_wp2_with (go_at_call 42; refine (HN.out _).mono ?_; rintro e w2 ⟨rfl, hb2⟩)
              go_ret3
              exact ⟨ret_chunk (by rw [HRR.out]) (by rw [HRR.out]; rfl) (by rw [HRR.out]), hb1.trans (hb2.mono hb1.size)⟩
            · have hp1 : k + z + n + 1 < s.size := by omega
              have hp0 : k + z + n < s.size := by omega
              obtain ⟨g1, g2⟩ := drop_get (s := s) (k := k + z) (j := n) (by omega)
              obtain ⟨g3, g4⟩ := drop_get (s := s) (k := k + z) (j := n + 1) (by omega)
              have G2 := hid g2
              have G4 := hid g4
              clear g2 g4
              have HBD := hid (fun h => chunk_bad (room := left) hlg g3 h)
              have HGD := hid (fun h => chunk_good (room := left) hlg g3 h)
              cases h13 : ((s[k + z + n].toNat : Int) != 13)
              · cases h10 : ((s[k + z + n + 1].toNat : Int) != 10)
                · have hgd := HGD.out (by rw [G2.out, G4.out]; simp only [Bool.and_eq_true, beq_iff_eq]; exact ⟨nat_eq13 h13, by apply UInt8.toNat_inj.1; simp at h10; show s[k + z + n + 1].toNat = 10; omega⟩)
                  rw [hgd] at HR
                  simp only [ne_eq, not_true_eq_false, if_false] at HR
                  have htl : ((s.data.toList.drop (k + z)).take n).length = n := by rw [List.length_take, hdl]; omega
                  rw [htl, show k + (z + (n + 2)) = k + z + n + 2 from by omega] at HR
                  have HIH := hid (fun W => IH.out (k + z + n + 2) (left - n) W (by omega) (by omega) (by omega) (by omega))
                  have hex : (s.extract (k + z) (k + z + n)).data.toList = (s.data.toList.drop (k + z)).take n := by rw [Lib.extract_data, show k + z + n - (k + z) = n from by omega]
                  have hrl := chunksR_len hd f (s.data.toList.drop (k + z + n + 2)) (left - n)
                  simp only [List.length_drop, Array.length_toList] at hrl
                  have hrl2 : (chunksR f (s.data.toList.drop (k + z + n + 2)) hd (left - n)).2.1.length ≤ s.size := by
                    have : s.data.size = s.size := rfl
                    omega
                  clear hrl
                  generalize chunksR f (s.data.toList.drop (k + z + n + 2)) hd (left - n) = R2 at *
                  generalize (s.data.toList.drop (k + z)).take n = ck at *
                  have HEX := hid hex
                  clear IH HBD HGD G2 G4 hgd htl hdl hex
                  go_wp2_with (go_at_call 42; refine (HN.out _).mono ?_; rintro e w2 ⟨rfl, hb2⟩)
                  refine (HIH.out _).mono ?_
                  rintro e w3 ⟨rfl, hb3⟩
                  have hB3 := (hb1.trans (hb2.mono hb1.size)).trans (hb3.mono (hb1.trans (hb2.mono hb1.size)).size)
                  clear HN HIH
                  generalize hrb : (⟨R2.2.1.toArray⟩ : ByteArray) = rb
                  have hrd : rb.data.toList = R2.2.1 := by rw [← hrb]
                  have hrs : rb.size ≤ s.size := by rw [size_of hrd]; exact hrl2
                  generalize hce : chEnd (k + z + n + 2) R2 = ce
                  have HCE := hid hce
                  have HRD := hid hrd
                  clear hrb hrd hce hrl2
                  by_cases hr : R2.1 = 0
                  · rw [if_neg (by simp [hr])] at HR
                    rw [hr]
                    go_wp2
                    go_ret3
                    refine ⟨ret_chunk ?_ ?_ ?_, hB3⟩
                    · rw [HR.out, ByteArray.data_append, Array.toList_append, HEX.out, HRD.out]
                    · rw [HR.out, ← HCE.out]; unfold chEnd; rw [if_pos hr, if_pos rfl]; simp only; omega
                    · rw [HR.out]
                  · rw [if_pos hr] at HR
                    have hne : (R2.1 != 0) = true := by rw [bne_iff_ne]; exact hr
                    go_wp2
                    go_ret3
                    refine ⟨ret_chunk ?_ ?_ ?_, hB3⟩
                    · rw [HR.out]
                    · rw [HR.out]; unfold chEnd; rw [if_neg hr]
                    · rw [HR.out]
                · have hbd2 := HBD.out (by rw [G2.out, G4.out]; simp only [Bool.and_eq_false_iff]; right; rw [beq_eq_false_iff_ne]; intro hc; have hc2 : s[k + z + n + 1] = 10 := hc; rw [hc2] at h10; simp at h10)
                  have HRR : Hid (R = (3, [], 0)) := by unfold Hid; rw [HR.out, hbd2]; rfl
                  clear HR IH HBD HGD G2 G4
                  go_wp2_with (go_at_call 42; refine (HN.out _).mono ?_; rintro e w2 ⟨rfl, hb2⟩)
                  go_ret3
                  exact ⟨ret_chunk (by rw [HRR.out]) (by rw [HRR.out]; rfl) (by rw [HRR.out]), hb1.trans (hb2.mono hb1.size)⟩
              · have hbd2 := HBD.out (by rw [G2.out, G4.out]; simp only [Bool.and_eq_false_iff]; left; rw [beq_eq_false_iff_ne]; exact nat_ne13 h13)
                have HRR : Hid (R = (3, [], 0)) := by unfold Hid; rw [HR.out, hbd2]; rfl
                clear HR IH HBD HGD G2 G4
                go_wp2_with (go_at_call 42; refine (HN.out _).mono ?_; rintro e w2 ⟨rfl, hb2⟩)
                go_ret3
                exact ⟨ret_chunk (by rw [HRR.out]) (by rw [HRR.out]; rfl) (by rw [HRR.out]), hb1.trans (hb2.mono hb1.size)⟩
    · have hse := HE.out h1
      have HRR : Hid (R = (L.1, [], 0)) := by unfold Hid; rw [HR.out, hse, if_pos h1]
      have hne : (L.1 != 0) = true := by rw [bne_iff_ne]; exact h1
      clear HR HB HO HE
      go_wp2
      go_ret3
      exact ⟨ret_chunk (by rw [HRR.out]) (by rw [HRR.out]; unfold chEnd; rw [if_neg h1]) (by rw [HRR.out]), hb1⟩
end Go.Proofs.YtnohadlihgjppaaGreatDoor
