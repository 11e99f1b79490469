/- Texts that follow one another, joined. -/
import Derived.Test.YtaclpkdfbbnocaaGreatDoorJoin25
import Derived.Test.YtaclpkdfbbnocaaGreatDoorJoin28
import Derived.Test.YtaclpkdfbbnocaaGreatDoorJoin23
/- The walk of porterkeep's told; nothing old in memory turns. -/
namespace Go.Proofs.YtaclpkdfbbnocaaGreatDoor
open Go.RowKit

def zlOf (how : Int) (zs : List Int) (n : Nat) : List Int := if how = 1 then sizedL zs n else []
theorem zl_ok {how : Int} (h : how = 0 ∨ how = 1) (zs : List Int) (n : Nat) : howOk how (zlOf how zs n) n = true := by
  rcases h with rfl | rfl
  · rfl
  · exact sized_ok zs n (by omega)
theorem printS_ok {m t : List UInt8} {fs : List Pr2} {b : List UInt8} {how : Int} {zs : List Int} (h1 : pOk m t fs = true) (h2 : howOk how zs b.length = true) : printS m t fs b how zs = (printL m t fs b how zs, 0) := by
  unfold printS; rw [h1, h2]; rfl
abbrev Tab10k (w : World) : Prop := Lib.TabBelow Tryz.prog w.heap.size w "internal/strconv.uint64pow10" .u64 Lib.pow10Tab
theorem tabk_below {w w' : World} (h : Tab10k w) (hb : Below w.heap.size w w') : Tab10k w' := fun W hW => h W (bel_of hb hW)
set_option maxRecDepth 100000 in
set_option maxHeartbeats 1000000 in
theorem told_any (m t : ByteArray) (fs : List Pr2) (a : Option Addr) (ca : Nat) (body : ByteArray) (how : Int) (zs : List Int) (b : Option Addr) (cb : Nat) (w : World) (hf : FoAt fs a w) (hzo : ZoAt zs b w) (hl : zs.length ≤ maxLen) (hzb : ∀ i (h : i < zs.length), -9223372036854775808 ≤ zs[i] ∧ zs[i] ≤ 9223372036854775807)
    (hn : fs.length ≤ 1000) (hm : m.size ≤ 1000) (ht : t.size ≤ 1000) (hb : body.size ≤ 200) (hz : ∀ i (h : i < fs.length), fs[i].1.size ≤ 1000 ∧ fs[i].2.size ≤ 1000) (hfz : (fldsL fs).length ≤ 10000000000) (hh : how = 0 ∨ how = 1) (hp : pOk m.data.toList t.data.toList fs = true)
    (htb : Tab10k w) (h15 : w.cell? ⟨6, 15, none⟩ = some (.int .u8 4)) :
    Calls Tryz.prog 6 #[.agg #[.string m, .string t, .slice a fs.length ca, .string body], .int .i64 how, .slice b zs.length cb] w fun e w' => e = .returned (.string ⟨(printL m.data.toList t.data.toList fs body.data.toList how (zlOf how zs body.size)).toArray⟩) ∧ Below w.heap.size w w' := by
  have hA := (Below.refl w.heap.size w).alloc (Nat.le_refl _) (.cells #[.string m, .string t, .slice a fs.length ca, .string body] 24)
  have ro1 : RoAt w.heap.size m t (.slice a fs.length ca) body (w.alloc (.cells #[.string m, .string t, .slice a fs.length ca, .string body] 24)) := heap_alloc_new w _
  have hbl : body.data.toList.length = body.size := by simp
  have hok := zl_ok hh zs body.size
  rw [← hbl] at hok
  have HPS := hid (printS_ok (b := body.data.toList) hp hok)
  rw [hbl] at HPS
  have hzlen : (zlOf how zs body.size).length ≤ 200 := by
    unfold zlOf; split
    · have := sized_len zs body.size (by omega); omega
    · simp
  have HSZ := hid (fun W (hW : Below w.heap.size w W) => sized_any zs b cb body.size W (hzo.below hW) hl (by omega) hzb)
  have HPR := hid (fun b' cb' W (hW : Below w.heap.size w W) (hz' : ZoAt (zlOf how zs body.size) b' W) => pPrint_any m t fs a ca body how (zlOf how zs body.size) b' cb' W (hf.below hW) hz' (by omega) (by omega) (by omega) (by omega) (by omega) (fun i hi => by have := hz i hi; omega) hfz (tabk_below htb hW) (cell_later hW h15))
  rw [HPS.out] at HPR
  obtain ⟨c0, c1, c2, c3⟩ := ro1.cells
  have al1 := ro1.lt
  clear hf hzo hzb hz hfz hp htb h15 hok HPS hbl
  generalize hPL : printL m.data.toList t.data.toList fs body.data.toList how (zlOf how zs body.size) = PL at *
  clear hPL
  rcases hh with rfl | rfl
  · have e : zlOf 0 zs body.size = [] := rfl
    rw [e] at HPR
    clear HSZ hzlen e
    go_enter Tryz.func6, Tryz.ntmps6
    go_wp2_with fail
    refine (HPR.out none 0 _ hA (fun i hi => absurd hi (by simp))).mono ?_
    rintro e w2 ⟨rfl, hb2⟩
    have hB2 := bel_of hA hb2
    clear HPR c0 c1 c2 c3 ro1
    go_wp2
    go_ret
    exact ⟨rfl, hB2⟩
  · have e : zlOf 1 zs body.size = sizedL zs body.size := rfl
    rw [e] at HPR hzlen
    clear e
    go_enter Tryz.func6, Tryz.ntmps6
    go_wp2_with fail
    refine (HSZ.out _ hA).mono ?_
    rintro e w2 ⟨⟨b', cb', rfl, hz2⟩, hb2⟩
    have hB2 := bel_of hA hb2
    have HP2 := hid (HPR.out b' cb' w2 hB2 hz2)
    have ro2 := ro1.below hb2 al1
    clear HSZ c0 c1 c2 c3 ro1 HPR hz2
    obtain ⟨c0, c1, c2, c3⟩ := ro2.cells
    have al2 := ro2.lt
    generalize sizedL zs body.size = ZL at *
    go_wp2_with fail
    refine HP2.out.mono ?_
    rintro e w3 ⟨rfl, hb3⟩
    have hB3 := bel_of hB2 hb3
    clear HP2 c0 c1 c2 c3 ro2
    go_wp2
    go_ret
    exact ⟨rfl, hB3⟩
end Go.Proofs.YtaclpkdfbbnocaaGreatDoor

/- The walks of porterkeep's number and after; nothing old in memory turns. -/
namespace Go.Proofs.YtaclpkdfbbnocaaGreatDoor
open Go.RowKit

theorem dig_byte (d : Nat) (h : d < 10) : (strOfNums [48 + (d : Int)]).data.toList = [digC d] := by
  rw [strOf_one]; unfold digC; rw [if_pos h]
  congr 1
theorem conv_cell {g : Nat} {v : Int} {w : World} (h : w.cell? ⟨g, 0, none⟩ = some (.int .u8 v)) : (convert 46 9 (.slice (some ⟨g, 0, none⟩) 1 1)).run Tryz.prog w = .ok (.string (strOfNums [v])) w := by
  refine run_convert_bytes_arg w 46 5 Tryz.underlying46 Tryz.underlying5 g 0 1 1 [v] rfl ?_ 9 Tryz.underlying9
  intro i hi
  obtain rfl : i = 0 := by omega
  simpa using h
set_option maxRecDepth 100000 in
set_option maxHeartbeats 1000000 in
theorem number_any (n : Nat) : ∀ (w : World), n ≤ 1000000 →
    Calls Tryz.prog 16 #[.int .i64 n] w fun e w' => e = .returned (.string ⟨(natT 10 n).toArray⟩) ∧ Below w.heap.size w w' := by
  induction n using Nat.strongRecOn with
  | _ n ih =>
    intro w hn
    by_cases h : n < 10
    · have HN := hid (natT_small h)
      have HD := hid (dig_byte n h)
      have hcv := conv_one (48 + (n : Int))
      clear ih
      go_enter Tryz.func16, Tryz.ntmps16
      go_wp2
      go_ret
      refine ⟨ret_strL ?_, (Below.refl _ _).alloc (Nat.le_refl _) _⟩
      rw [HN.out, HD.out]
    · have hle := Nat.div_le_self n 10
      have IH := hid (fun W => ih (n / 10) (Nat.div_lt_self (by omega) (by omega)) W (by omega))
      have HN := hid (natT_big (b := 10) (by omega) h)
      have hlen := natT_le (b := 10) (u := n / 10) (by omega) (by omega)
      have hm : n % 10 < 10 := Nat.mod_lt _ (by omega)
      have HD := hid (dig_byte (n % 10) hm)
      have hq : wrap64 ((n : Int) / 10) = ((n / 10 : Nat) : Int) := by
        have : ((n : Int) / 10) = ((n / 10 : Nat) : Int) := by omega
        rw [this]; exact wrap64_nat (by omega)
      have hq2 : IntKind.i64.wrap ((n : Int) / 10) = ((n / 10 : Nat) : Int) := by simp [IntKind.wrap, IntKind.bits, IntKind.signed]; omega
      have hr : (n : Int).tmod 10 = ((n % 10 : Nat) : Int) := by rw [Int.tmod_eq_emod_of_nonneg (by omega)]; omega
      have hw1 : IntKind.i64.wrap (48 + ((n % 10 : Nat) : Int)) = 48 + ((n % 10 : Nat) : Int) := by simp [IntKind.wrap, IntKind.bits, IntKind.signed]; omega
      have hw2 : IntKind.u8.wrap (48 + ((n % 10 : Nat) : Int)) = 48 + ((n % 10 : Nat) : Int) := by simp [IntKind.wrap, IntKind.bits, IntKind.signed]; omega
      have hcv := conv_one (48 + ((n % 10 : Nat) : Int))
      have hcz := strOf_size (48 + ((n % 10 : Nat) : Int))
      generalize n / 10 = q at *
      generalize n % 10 = r at *
      clear ih
      generalize hT : (⟨(natT 10 q).toArray⟩ : ByteArray) = T at *
      have hTd : T.data.toList = natT 10 q := by rw [← hT]
      have hTz : T.size ≤ 64 := by
        have : T.data.toList.length = T.size := by simp
        rw [hTd] at this; omega
      have HTD := hid hTd
      clear hT hTd hlen
      have hcA : (w.alloc (.cells #[.int .u8 (48 + (r : Int))] 5)).drew.cell? ⟨w.heap.size, 0, none⟩ = some (.int .u8 (48 + (r : Int))) := by simp
      have hcvA := conv_cell hcA
      go_enter Tryz.func16, Tryz.ntmps16
      go_wp2_with fail
      go_region_with (first
        | (go_at_call 16; refine (IH.out _).mono ?_; rintro e w1 ⟨rfl, hb1⟩; have hcell := cell_later hb1 hcA; have hcv1 := conv_cell hcell)
        | (go_at_call 16; refine (IH.out _).mono ?_; rintro e w1 ⟨rfl, hb1⟩))
      all_goals
        go_wp2
        go_ret
        refine ⟨ret_strL ?_, ?_⟩
        · rw [HN.out, ByteArray.data_append, Array.toList_append, HTD.out, HD.out]
        · first
            | exact bel_of ((Below.refl w.heap.size w).alloc (Nat.le_refl _) _).drew hb1
            | exact (bel_of (Below.refl w.heap.size w).drew hb1).alloc (bel_of (Below.refl w.heap.size w).drew hb1).size _
theorem after_at (s : ByteArray) (x r : List UInt8) (hs : s.data.toList = x ++ 10 :: r) (hx : ∀ c ∈ x, c ≠ 10) : s.size = x.length + 1 + r.length ∧ (∀ k (h : k < s.size), k < x.length → ¬ (s[k].toNat : Int) = 10) ∧ (∀ (h : x.length < s.size), (s[x.length].toNat : Int) = 10) ∧ (s.extract 0 (x.length + 1)).data.toList = x ++ [10] ∧ (s.extract (x.length + 1) s.size).data.toList = r := by
  have hz := size_of hs
  have hl : s.size = x.length + 1 + r.length := by rw [hz]; simp; omega
  have hg : ∀ k (h : k < s.size), s[k] = (x ++ 10 :: r)[k]'(by simp; omega) := fun k h => by
    have h1 : s.data.toList[k]'(by simpa using h) = s[k] := rfl
    rw [← h1]; congr 1
  refine ⟨hl, fun k h hk => ?_, fun h => ?_, ?_, ?_⟩
  · rw [hg k h, List.getElem_append_left hk]
    intro h2
    exact hx _ (List.getElem_mem hk) (UInt8.toNat_inj.1 (by show _ = 10; omega))
  · rw [hg _ h, List.getElem_append_right (Nat.le_refl _)]; simp
  · rw [Lib.extract_data, hs]; simp [List.take_append, List.take_of_length_le]
  · rw [Lib.extract_data, hs, List.take_of_length_le (by simp; omega)]; simp [List.drop_append]
set_option maxRecDepth 100000 in
set_option maxHeartbeats 1000000 in
theorem after_any (s t : ByteArray) (x r : List UInt8) (w : World) (hs : s.data.toList = x ++ 10 :: r) (hx : ∀ c ∈ x, c ≠ 10) (hz : s.size + t.size ≤ 1000000000) :
    Calls Tryz.prog 15 #[.string s, .string t] w fun e w' => e = .returned (.string ⟨(x ++ 10 :: (t.data.toList ++ r)).toArray⟩) ∧ Below w.heap.size w w' := by
  obtain ⟨hl, HK, H10, HX, HR⟩ := after_at s x r hs hx
  obtain ⟨q, hq⟩ : ∃ q : Nat, q = x.length := ⟨_, rfl⟩
  rw [← hq] at hl HX HR
  rw [hl] at HR
  have HK : Hid (∀ k (h : k < s.size), k < q → ¬ (s[k].toNat : Int) = 10) := fun k h h2 => HK k h (by omega)
  have H10 : ∀ (h : q < s.size), (s[q].toNat : Int) = 10 := fun h => by subst hq; exact H10 h
  have H10 := H10 (by omega)
  have HX := hid HX
  have HR := hid HR
  clear hq hs hx
  go_enter Tryz.func15, Tryz.ntmps15
  go_wp2
  go_loopw [5] (fun i wr => ∃ k : Nat, k ≤ q ∧ i = .int .i64 k ∧ wr = w) (fun i _ => s.size - (intOf i).toNat)
  case atStart => exact ⟨0, Nat.zero_le _, rfl, rfl⟩
  case round =>
    obtain ⟨k, hk, rfl, rfl⟩ := hrel
    by_cases hlt : k < q
    · have hks : k < s.size := by omega
      have hc := HK.out k hks hlt
      go_wp2
      exact ⟨⟨k + 1, by omega, by go_num, by first | rfl | trivial⟩, by simp [intOf]; omega⟩
    · obtain rfl : k = q := by omega
      have hks : k < s.size := by omega
      clear hlt
      go_wp2_with fail
      go_region
      go_wp2
      go_ret
      refine ⟨ret_strL ?_, (Below.refl _ _).drew⟩
      rw [ByteArray.data_append, Array.toList_append, ByteArray.data_append, Array.toList_append, HX.out, HR.out]; simp
end Go.Proofs.YtaclpkdfbbnocaaGreatDoor
