/- Texts that follow one another, joined. -/
import Derived.Test.YtpfendckgeoonaaGreatDoorJoin22
import Derived.Sort.OwnSorted
import Derived.Shelf.Slices.In.SortNone
/- slices.Sort of one text or none; what Methods tells where one pattern at most has the path; nothing old in memory turns. -/
namespace Go.Proofs.YtpfendckgeoonaaGreatDoor
open Go.RowKit

set_option maxRecDepth 100000 in
set_option maxHeartbeats 1000000 in
theorem len64_small (n : Nat) (w : World) (hn : n = 0 ∨ n = 1) : Calls Tryz.prog 91 #[.int .u64 n] w fun e w' => e = .returned (.int .i64 n) ∧ Below w.heap.size w w' := by
  have e0 : Lib.len8 0 = 0 := by decide +kernel
  have e1 : Lib.len8 1 = 1 := by decide +kernel
  rcases hn with rfl | rfl
  · go_enter Tryz.func91, Tryz.ntmps91
    go_wp2
    refine bodyPost_ret (v := .int .i64 0) (by simp [results, Tryz.results91, go_sem]) rfl ?_
    exact ⟨rfl, Below.refl _ _⟩
  · go_enter Tryz.func91, Tryz.ntmps91
    go_wp2
    refine bodyPost_ret (v := .int .i64 1) (by simp [results, Tryz.results91, go_sem]) rfl ?_
    exact ⟨rfl, Below.refl _ _⟩
set_option maxRecDepth 100000 in
set_option maxHeartbeats 1000000 in
theorem bitsLen_small (n : Nat) (w : World) (hn : n = 0 ∨ n = 1) : Calls Tryz.prog 65 #[.int .u64 n] w fun e w' => e = .returned (.int .i64 n) ∧ Below w.heap.size w w' := by
  have HL := hid (fun W => len64_small n W hn)
  rcases hn with rfl | rfl
  all_goals
    go_enter Tryz.func65, Tryz.ntmps65
    go_wp2_with fail
    refine (HL.out _).mono ?_
    rintro e w1 ⟨rfl, hb1⟩
    go_wp2
    go_ret
    exact ⟨rfl, hb1⟩
set_option maxRecDepth 100000 in
set_option maxHeartbeats 1000000 in
theorem insertion_small (v : Value) (n : Nat) (w : World) (hn : n = 0 ∨ n = 1) : Calls Tryz.prog 81 #[v, .int .i64 0, .int .i64 n] w fun e w' => e = .returned (.tuple #[]) ∧ Below w.heap.size w w' := by
  have h1 : ¬ (1 : Int) < (n : Int) := by omega
  clear hn
  go_enter Tryz.func81, Tryz.ntmps81
  go_wp2
  go_loopw [6] (fun i wr => i = .int .i64 1 ∧ Below w.heap.size w wr) (fun _ _ => 0)
  case atStart => exact ⟨rfl, Below.refl _ _⟩
  case round =>
    obtain ⟨rfl, hbw⟩ := hrel
    go_wp2
    refine bodyPost_end (v := .tuple #[]) (by simp [results, Tryz.results81, go_sem]) rfl ?_
    exact ⟨rfl, hbw⟩
set_option maxRecDepth 100000 in
set_option maxHeartbeats 1000000 in
theorem pdq_small (v : Value) (n : Nat) (w : World) (hn : n = 0 ∨ n = 1) : Calls Tryz.prog 64 #[v, .int .i64 0, .int .i64 n, .int .i64 n] w fun e w' => e = .returned (.tuple #[]) ∧ Below w.heap.size w w' := by
  have HI := hid (fun W => insertion_small v n W hn)
  have h1 : (n : Int) ≤ 12 := by omega
  clear hn
  go_enter Tryz.func64, Tryz.ntmps64
  go_wp2
  go_loopw [1, 2, 3] (fun a b l wr => a = .int .i64 0 ∧ b = .int .i64 n ∧ l = .int .i64 n ∧ Below w.heap.size w wr) (fun _ _ _ _ => 0)
  case atStart => exact ⟨rfl, rfl, rfl, Below.refl _ _⟩
  case round =>
    obtain ⟨rfl, rfl, rfl, hbw⟩ := hrel
    go_wp2_with fail
    refine (HI.out _).mono ?_
    rintro e w1 ⟨rfl, hb1⟩
    have hB := bel_of hbw hb1
    go_wp2
    try rw [Exit.noGoto_ret]
    refine bodyPost_ret (v := .tuple #[]) (by simp [results, Tryz.results64, go_sem]) rfl ?_
    exact ⟨rfl, hB⟩
set_option maxRecDepth 100000 in
set_option maxHeartbeats 1000000 in
theorem sort_small (a : Option Addr) (n c : Nat) (w : World) (hn : n = 0 ∨ n = 1) : Calls Tryz.prog 43 #[.slice a n c] w fun e w' => e = .returned (.tuple #[]) ∧ Below w.heap.size w w' := by
  have HL := hid (fun W => bitsLen_small n W hn)
  have HP := hid (fun W => pdq_small (.slice a n c) n W hn)
  have hw : IntKind.u64.wrap (n : Int) = (n : Int) := by rcases hn with rfl | rfl <;> rfl
  clear hn
  go_enter Tryz.func43, Tryz.ntmps43
  go_wp2_with fail
  refine (HL.out _).mono ?_
  rintro e w1 ⟨rfl, hb1⟩
  go_wp2_with fail
  refine (HP.out _).mono ?_
  rintro e w2 ⟨rfl, hb2⟩
  have hB := bel_of hb1 hb2
  go_wp2
  refine bodyPost_end (v := .tuple #[]) (by simp [results, Tryz.results43, go_sem]) rfl ?_
  exact ⟨rfl, hB⟩
def methG (l : List UInt8) (es : List Ent) : List ByteArray := (es.filter fun e => (matchB e.ps (l.drop 1) true []).isSome).map (·.m)
theorem methG_next (l : List UInt8) (es : List Ent) (k : Nat) (h : k < es.length) : methG l (es.take (k + 1)) = methG l (es.take k) ++ (if (matchB es[k].ps (l.drop 1) true []).isSome = true then [es[k].m] else []) := by
  unfold methG
  rw [List.take_succ_eq_append_getElem h, List.filter_append, List.map_append]
  congr 1
  by_cases hm : (matchB es[k].ps (l.drop 1) true []).isSome = true
  · rw [if_pos hm]
    have : [es[k]].filter (fun e => (matchB e.ps (l.drop 1) true []).isSome) = [es[k]] := List.filter_cons_of_pos hm
    rw [this]; rfl
  · rw [if_neg hm]
    have : [es[k]].filter (fun e => (matchB e.ps (l.drop 1) true []).isSome) = [] := List.filter_cons_of_neg hm
    rw [this]; rfl
theorem methG_len (l : List UInt8) (es : List Ent) (k : Nat) : (methG l (es.take k)).length ≤ (es.take k).length := by
  unfold methG; rw [List.length_map]; exact List.length_filter_le _ _
set_option maxRecDepth 100000 in
set_option maxHeartbeats 2000000 in
theorem tMethods_any (gt o B : Nat) (es : List Ent) (v : Value) (s : ByteArray) (w : World) (hT : TbAt gt o B es v w) (hp : Pm.isPath s.data.toList = true) (h1s : 1 ≤ s.size) (hs : s.size ≤ 140737488355328) (hone : (methG s.data.toList es).length ≤ 1) :
    Calls Tryz.prog 23 #[.pointer (some ⟨gt, o, none⟩), .string s] w fun r w' => (∃ vv, r = .returned vv ∧ w'.ownsRow w.heap.size 9 1 vv (methG s.data.toList es).length ((methG s.data.toList es).map Value.string)) ∧ Below w.heap.size w w' := by
  obtain ⟨i0, hi, hz0, hz1, hz2⟩ := info_parts Tryz.info9
  have HIP := hid (fun W => wIsPath_any s W hs)
  rw [hp] at HIP
  have HT := hid hT
  obtain ⟨av, cv, rfl, hen⟩ := en_of_owns hT.row
  have HE := hid hen
  have cel := hT.cel
  have lt0 := hT.lt
  have hfw := hT.few
  clear hT hen
  go_enter Tryz.func23, Tryz.ntmps23
  go_wp2_with fail
  refine (HIP.out _).mono ?_
  rintro e w1 ⟨rfl, hb1⟩
  have cel1 := cell_later hb1 cel
  have lt1 : gt < w1.heap.size := Nat.lt_of_lt_of_le lt0 hb1.size
  clear HIP cel lt0
  go_wp2_with fail
  go_loopw [5, 18] (fun ms i wr => ∃ k : Nat, k ≤ es.length ∧ i = .int .i64 k ∧ wr.ownsRow w.heap.size 9 1 ms (methG s.data.toList (es.take k)).length ((methG s.data.toList (es.take k)).map Value.string) ∧ Below w.heap.size w wr) (fun _ i _ => es.length - (intOf i).toNat)
  case atStart => exact ⟨0, Nat.zero_le _, rfl, World.ownsRow_nil _ _ _ _, hb1⟩
  case round =>
    obtain ⟨k, hk, rfl, hown, hbw⟩ := hrel
    by_cases hlt : k < es.length
    · obtain ⟨g, rfl, hg, hc1, hc2⟩ := (HE.out.below hbw) k hlt
      have hpc := (HT.out.pat k hlt).below hbw
      have hps := HT.out.szs k hlt
      have HN := hid (methG_next s.data.toList es k hlt)
      have hml := methG_len s.data.toList es k
      rw [List.length_take] at hml
      generalize es[k] = en at *
      obtain ⟨em, eps, ea, ec⟩ := en
      simp only at hc1 hc2 hpc hps HN
      have hA := (Below.refl wr.heap.size wr).alloc (Nat.le_refl _) (.cells #[.string em, .slice ea eps.length ec] 97)
      have hB := bel_of hbw hA
      have HM := hid (fun W (hW : Below w.heap.size w W) (h : PcAt eps ea W) => match_any eps ea ec s W h hps h1s hs)
      have oA := owns_below hown hA
      have en0 := heap_alloc_new wr (.cells #[.string em, .slice ea eps.length ec] 97)
      go_wp2_with fail
      generalize hwa : wr.alloc (.cells #[.string em, .slice ea eps.length ec] 97) = wa at *
      refine (HM.out _ hB (hpc.below hA)).mono ?_
      rintro e w2 ⟨hma, hb2⟩
      have hB2 := bel_of hB hb2
      have o2 := owns_below oA hb2
      have ece : w2.cell? ⟨wr.heap.size, 0, none⟩ = some (.string em) := cell_later hb2 (by rw [Lib.cell_of_heap en0]; rfl)
      have elt : wr.heap.size < w2.heap.size := Nat.lt_of_lt_of_le (by rw [← hwa]; simp) hb2.size
      clear HM hb2 hA oA en0 hB hwa hpc
      generalize methG s.data.toList (es.take k) = MK at *
      cases hMB : matchB eps (List.drop 1 s.data.toList) true [] with
      | none =>
        rw [hMB] at hma HN
        obtain rfl : e = .returned (.tuple #[.slice none 0 0, .bool false]) := hma
        go_wp2
        refine ⟨⟨k + 1, by omega, by go_num, ?_, hB2⟩, by simp [intOf]; omega⟩
        rw [HN.out]; simpa using o2
      | some pf =>
        rw [hMB] at hma HN
        obtain ⟨vv, rfl, ow⟩ := hma
        have HN2 : Hid (methG s.data.toList (es.take (k + 1)) = MK ++ [em]) := by
          unfold Hid; rw [HN.out]; rfl
        clear ow HN hMB
        go_wp2_with (at_builtin; refine wpList_append_own _ rfl _ _ 48 rfl w.heap.size 9 i0 (.string ⟨#[]⟩) 1 16 Tryz.underlying48 hi hz0 hz1 hz2 rfl (by decide) _ _ _ rfl (o2.alloc _) ⟨w2.heap.size, 0, none⟩ 1 1 [.string em] rfl rfl ?c1 ?c2 ?c3 ?c4 ?c5 ?_)
        case c1 =>
          intro j u hj
          match j, hj with
          | 0, hj => simp at hj; subst hj; simp [Addr.add]
        case c2 => intro u hu; simp at hu; subst hu; rfl
        case c3 => unfold maxLen; omega
        case c4 => omega
        case c5 => have := hB2.size; simp; omega
        intro v' w3 hown' hgrow _
        have hb3 : Below w.heap.size w w3 := (hB2.alloc hB2.size _).grown hgrow (by have := hB2.size; simp; omega) (own_ge o2)
        clear hgrow
        go_wp2
        refine ⟨⟨k + 1, by omega, by go_num, ?_, hb3⟩, by simp [intOf]; omega⟩
        rw [HN2.out, List.length_append, List.map_append]
        exact hown'
    · have hke : es.take k = es := List.take_of_length_le (by omega)
      rw [hke] at hown
      have hlen : (methG s.data.toList es).length = 0 ∨ (methG s.data.toList es).length = 1 := by omega
      generalize hMK : methG s.data.toList es = MK at *
      obtain ⟨a', c', rfl⟩ : ∃ a c, u5 = .slice a MK.length c := by
        rcases hown.2 with ⟨h2, h3⟩ | ⟨g, cap, cur, hv, _⟩
        · exact ⟨none, 0, by rw [h3]; exact h2⟩
        · exact ⟨_, _, hv⟩
      have HS := hid (fun W => sort_small a' MK.length c' W hlen)
      go_wp2_with fail
      refine (HS.out _).mono ?_
      rintro e w2 ⟨rfl, hb2⟩
      have hB2 := bel_of hbw hb2
      have HO := hid (owns_below hown hb2)
      clear HS hown hlen
      go_wp2
      go_ret
      exact ⟨⟨.slice a' MK.length c', rfl, by rw [hMK]; exact HO.out⟩, hB2⟩
set_option maxHeartbeats 400000 in
theorem pMethods_any (gt B : Nat) (es : List Ent) (v : Value) (s : ByteArray) (w : World) (hT : TbAt gt 0 B es v w) (hp : Pm.isPath s.data.toList = true) (h1s : 1 ≤ s.size) (hs : s.size ≤ 140737488355328) (hone : (methG s.data.toList es).length ≤ 1) :
    Calls Tryz.prog 12 #[.pointer (some ⟨gt, 0, none⟩), .string s] w fun r w' => (∃ vv, r = .returned vv ∧ w'.ownsRow w.heap.size 9 1 vv (methG s.data.toList es).length ((methG s.data.toList es).map Value.string)) ∧ Below w.heap.size w w' := by
  have HF := hid (tMethods_any gt 0 B es v s w hT hp h1s hs hone)
  generalize methG s.data.toList es = FF at *
  have lt0 := hT.lt
  clear hT
  go_enter Tryz.func12, Tryz.ntmps12
  go_wp2_with fail
  refine HF.out.mono ?_
  rintro e w1 ⟨⟨vv, rfl, ow⟩, hb1⟩
  have HOW := hid ow
  clear ow HF
  go_wp2
  go_ret
  exact ⟨⟨vv, rfl, HOW.out⟩, hb1⟩
end Go.Proofs.YtpfendckgeoonaaGreatDoor

/- slices.Sort of texts that the call itself has made; Methods tells all methods, sorted. -/
namespace Go.Proofs.YtpfendckgeoonaaGreatDoor
open Go.RowKit
open Go.Sort

def srt (l : List (List UInt8)) : List (List UInt8) := l.mergeSort fun x y => decide (x ≤ y)
theorem srt_len (l : List (List UInt8)) : (srt l).length = l.length := by unfold srt; simp
def encs (l : List (List UInt8)) : List Value := l.map fun s => Value.string ⟨s.toArray⟩
theorem encs_of (l : List ByteArray) : encs (l.map fun b => b.data.toList) = l.map Value.string := by
  unfold encs; rw [List.map_map]; rfl
theorem encs_len (l : List (List UInt8)) : (encs l).length = l.length := by unfold encs; simp
theorem sort_own (v : Value) (l : List (List UInt8)) (B : Nat) (w : World) (h : w.ownsRow B 9 1 v l.length (encs l)) (hl : l.length ≤ 1000000) :
    Calls Tryz.prog 43 #[v] w fun e w' => e = .returned (.tuple #[]) ∧ w'.ownsRow B 9 1 v l.length (encs (srt l)) ∧ w.grownBy w' v.ownBlock := by
  rcases h.2 with ⟨rfl, h0⟩ | ⟨g, cap, cur, rfl, hB, hg, hc, hm, hs, ht⟩
  · have hl0 : l = [] := List.eq_nil_of_length_eq_zero h0
    subst hl0
    refine (Any.slices_Sort_string_none Tryz.lays190 none 0 w).mono ?_
    rintro e w' ⟨rfl, rfl⟩
    refine ⟨rfl, ?_, World.grownBy.refl _ _⟩
    have : srt [] = [] := by unfold srt; simp
    rw [this]; exact h
  · have hH : Holds encStr w g 0 l.toArray := holds_of_block hg (by rw [Nat.mul_one] at ht; exact ht)
    have hblk : g < w.heap.size := (Array.getElem?_eq_some_iff.1 hg).1
    refine (Tryz.slices_Sort_string g 0 cap l w hH hblk (by omega)).mono ?_
    rintro e w' ⟨rfl, n, os, rfl⟩
    refine ⟨rfl, ?_, grownBy_sorted _⟩
    exact ownsRow_sorted (srt_len l) hB hg hc hm hs
def methS (l : List UInt8) (es : List Ent) : List (List UInt8) := srt ((methG l es).map fun b => b.data.toList)
theorem methS_len (l : List UInt8) (es : List Ent) : (methS l es).length = (methG l es).length := by unfold methS; rw [srt_len, List.length_map]
set_option maxRecDepth 100000 in
set_option maxHeartbeats 2000000 in
theorem tMethods_all (gt o B : Nat) (es : List Ent) (v : Value) (s : ByteArray) (w : World) (hT : TbAt gt o B es v w) (hp : Pm.isPath s.data.toList = true) (h1s : 1 ≤ s.size) (hs : s.size ≤ 140737488355328) :
    Calls Tryz.prog 23 #[.pointer (some ⟨gt, o, none⟩), .string s] w fun r w' => (∃ vv, r = .returned vv ∧ w'.ownsRow w.heap.size 9 1 vv (methS s.data.toList es).length (encs (methS s.data.toList es))) ∧ Below w.heap.size w w' := by
  obtain ⟨i0, hi, hz0, hz1, hz2⟩ := info_parts Tryz.info9
  have HIP := hid (fun W => wIsPath_any s W hs)
  rw [hp] at HIP
  have HT := hid hT
  obtain ⟨av, cv, rfl, hen⟩ := en_of_owns hT.row
  have HE := hid hen
  have cel := hT.cel
  have lt0 := hT.lt
  have hfw := hT.few
  clear hT hen
  go_enter Tryz.func23, Tryz.ntmps23
  go_wp2_with fail
  refine (HIP.out _).mono ?_
  rintro e w1 ⟨rfl, hb1⟩
  have cel1 := cell_later hb1 cel
  have lt1 : gt < w1.heap.size := Nat.lt_of_lt_of_le lt0 hb1.size
  clear HIP cel lt0
  go_wp2_with fail
  go_loopw [5, 18] (fun ms i wr => ∃ k : Nat, k ≤ es.length ∧ i = .int .i64 k ∧ wr.ownsRow w.heap.size 9 1 ms (methG s.data.toList (es.take k)).length ((methG s.data.toList (es.take k)).map Value.string) ∧ Below w.heap.size w wr) (fun _ i _ => es.length - (intOf i).toNat)
  case atStart => exact ⟨0, Nat.zero_le _, rfl, World.ownsRow_nil _ _ _ _, hb1⟩
  case round =>
    obtain ⟨k, hk, rfl, hown, hbw⟩ := hrel
    by_cases hlt : k < es.length
    · obtain ⟨g, rfl, hg, hc1, hc2⟩ := (HE.out.below hbw) k hlt
      have hpc := (HT.out.pat k hlt).below hbw
      have hps := HT.out.szs k hlt
      have HN := hid (methG_next s.data.toList es k hlt)
      have hml := methG_len s.data.toList es k
      rw [List.length_take] at hml
      generalize es[k] = en at *
      obtain ⟨em, eps, ea, ec⟩ := en
      simp only at hc1 hc2 hpc hps HN
      have hA := (Below.refl wr.heap.size wr).alloc (Nat.le_refl _) (.cells #[.string em, .slice ea eps.length ec] 97)
      have hB := bel_of hbw hA
      have HM := hid (fun W (hW : Below w.heap.size w W) (h : PcAt eps ea W) => match_any eps ea ec s W h hps h1s hs)
      have oA := owns_below hown hA
      have en0 := heap_alloc_new wr (.cells #[.string em, .slice ea eps.length ec] 97)
      go_wp2_with fail
      generalize hwa : wr.alloc (.cells #[.string em, .slice ea eps.length ec] 97) = wa at *
      refine (HM.out _ hB (hpc.below hA)).mono ?_
      rintro e w2 ⟨hma, hb2⟩
      have hB2 := bel_of hB hb2
      have o2 := owns_below oA hb2
      have ece : w2.cell? ⟨wr.heap.size, 0, none⟩ = some (.string em) := cell_later hb2 (by rw [Lib.cell_of_heap en0]; rfl)
      have elt : wr.heap.size < w2.heap.size := Nat.lt_of_lt_of_le (by rw [← hwa]; simp) hb2.size
      clear HM hb2 hA oA en0 hB hwa hpc
      generalize methG s.data.toList (es.take k) = MK at *
      cases hMB : matchB eps (List.drop 1 s.data.toList) true [] with
      | none =>
        rw [hMB] at hma HN
        obtain rfl : e = .returned (.tuple #[.slice none 0 0, .bool false]) := hma
        go_wp2
        refine ⟨⟨k + 1, by omega, by go_num, ?_, hB2⟩, by simp [intOf]; omega⟩
        rw [HN.out]; simpa using o2
      | some pf =>
        rw [hMB] at hma HN
        obtain ⟨vv, rfl, ow⟩ := hma
        have HN2 : Hid (methG s.data.toList (es.take (k + 1)) = MK ++ [em]) := by
          unfold Hid; rw [HN.out]; rfl
        clear ow HN hMB
        go_wp2_with (at_builtin; refine wpList_append_own _ rfl _ _ 48 rfl w.heap.size 9 i0 (.string ⟨#[]⟩) 1 16 Tryz.underlying48 hi hz0 hz1 hz2 rfl (by decide) _ _ _ rfl (o2.alloc _) ⟨w2.heap.size, 0, none⟩ 1 1 [.string em] rfl rfl ?c1 ?c2 ?c3 ?c4 ?c5 ?_)
        case c1 =>
          intro j u hj
          match j, hj with
          | 0, hj => simp at hj; subst hj; simp [Addr.add]
        case c2 => intro u hu; simp at hu; subst hu; rfl
        case c3 => unfold maxLen; omega
        case c4 => omega
        case c5 => have := hB2.size; simp; omega
        intro v' w3 hown' hgrow _
        have hb3 : Below w.heap.size w w3 := (hB2.alloc hB2.size _).grown hgrow (by have := hB2.size; simp; omega) (own_ge o2)
        clear hgrow
        go_wp2
        refine ⟨⟨k + 1, by omega, by go_num, ?_, hb3⟩, by simp [intOf]; omega⟩
        rw [HN2.out, List.length_append, List.map_append]
        exact hown'
    · have hke : es.take k = es := List.take_of_length_le (by omega)
      rw [hke] at hown
      have hml := methG_len s.data.toList es k
      rw [hke] at hml
      have HSS : Hid (methS s.data.toList es = srt ((methG s.data.toList es).map fun b => b.data.toList)) := rfl
      generalize methG s.data.toList es = MK at *
      generalize hMS : methS s.data.toList es = MS at *
      have hown' : wr.ownsRow w.heap.size 9 1 u5 (MK.map fun b => b.data.toList).length (encs (MK.map fun b => b.data.toList)) := by rw [List.length_map, encs_of]; exact hown
      have HS := hid (sort_own u5 (MK.map fun b => b.data.toList) w.heap.size wr hown' (by rw [List.length_map]; omega))
      rw [← HSS.out] at HS
      have hown2 := hid hown'
      have hsz : MS.length = (MK.map fun b => b.data.toList).length := by rw [HSS.out, srt_len]
      generalize (MK.map fun b => b.data.toList) = MQ at *
      clear hown hown' HSS
      go_wp2_with fail
      refine HS.out.mono ?_
      rintro e w2 ⟨rfl, ho, hgr⟩
      have hB2 : Below w.heap.size w w2 := hbw.grown hgr hbw.size (own_ge hown2.out)
      have HO := hid ho
      clear HS ho hgr hown2
      go_wp2
      go_ret
      exact ⟨⟨u5, rfl, by rw [hMS, hsz]; exact HO.out⟩, hB2⟩
set_option maxHeartbeats 400000 in
theorem pMethods_all (gt B : Nat) (es : List Ent) (v : Value) (s : ByteArray) (w : World) (hT : TbAt gt 0 B es v w) (hp : Pm.isPath s.data.toList = true) (h1s : 1 ≤ s.size) (hs : s.size ≤ 140737488355328) :
    Calls Tryz.prog 12 #[.pointer (some ⟨gt, 0, none⟩), .string s] w fun r w' => (∃ vv, r = .returned vv ∧ w'.ownsRow w.heap.size 9 1 vv (methS s.data.toList es).length (encs (methS s.data.toList es))) ∧ Below w.heap.size w w' := by
  have HF := hid (tMethods_all gt 0 B es v s w hT hp h1s hs)
  generalize methS s.data.toList es = FF at *
  have lt0 := hT.lt
  clear hT
  go_enter Tryz.func12, Tryz.ntmps12
  go_wp2_with fail
  refine HF.out.mono ?_
  rintro e w1 ⟨⟨vv, rfl, ow⟩, hb1⟩
  have HOW := hid ow
  clear ow HF
  go_wp2
  go_ret
  exact ⟨⟨vv, rfl, HOW.out⟩, hb1⟩
end Go.Proofs.YtpfendckgeoonaaGreatDoor
