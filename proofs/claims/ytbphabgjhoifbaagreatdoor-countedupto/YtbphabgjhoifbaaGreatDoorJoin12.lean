/- Texts that follow one another, joined. -/
import Derived.Test.YtbphabgjhoifbaaGreatDoorJoin11
/- To which route a method leads by a path. -/
namespace Go.Proofs.YtbphabgjhoifbaaGreatDoor
open Go.RowKit

def hdL : List UInt8 := [72, 69, 65, 68]
def gtL : List UInt8 := [71, 69, 84]
theorem beq_head (m : ByteArray) : (m.toList == [72, 69, 65, 68]) = decide (m.data.toList = hdL) := by
  rw [ByteArray.toList_eq, Bool.eq_iff_iff, beq_iff_eq, decide_eq_true_iff]; rfl
theorem beq_get (m : ByteArray) : (m.toList == [71, 69, 84]) = decide (m.data.toList = gtL) := by
  rw [ByteArray.toList_eq, Bool.eq_iff_iff, beq_iff_eq, decide_eq_true_iff]; rfl
theorem beq_slash (m : ByteArray) : (m.toList == [47]) = decide (m.data.toList = [47]) := by
  rw [ByteArray.toList_eq, Bool.eq_iff_iff, beq_iff_eq, decide_eq_true_iff]
def leadG (m l : List UInt8) (es : List Ent) : Nat × List Prm × Int :=
  if (findG m l es 0).2.2 ≠ 0 ∧ m = hdL then findG gtL l es 0 else findG m l es 0
theorem findG_bare (m l : List UInt8) : ∀ (es : List Ent) (k : Nat), findG m l (es.map Ent.bare) k = findG m l es k
  | [], _ => rfl
  | e :: r, k => by
    rw [List.map_cons, findG, findG, findG_bare m l r (k + 1)]; rfl
theorem leadG_bare (m l : List UInt8) (es : List Ent) : leadG m l (es.map Ent.bare) = leadG m l es := by
  unfold leadG; simp only [findG_bare]
def LdPost (F : Nat × List Prm × Int) (w : World) (x : Ending) (w' : World) : Prop :=
  (∃ vv, x = .returned (.tuple #[.int .i64 F.1, vv, .bool (decide (F.2.2 = 0))]) ∧ w'.ownsRow w.heap.size 256 2 vv F.2.1.length (prCells F.2.1)) ∧ Below w.heap.size w w'
set_option maxRecDepth 100000 in
set_option maxHeartbeats 2000000 in
theorem lead_any (gs B : Nat) (es : List Ent) (v : Value) (m s : ByteArray) (w : World) (hT : TbAt gs 0 B es v w) (hp : Pm.isPath s.data.toList = true) (h1s : 1 ≤ s.size) (hs : s.size ≤ 140737488355328) :
    Calls Tryz.prog 79 #[.pointer (some ⟨gs, 0, none⟩), .string m, .string s] w (LdPost (leadG m.data.toList s.data.toList es) w) := by
  have lt0 := hT.lt
  have HF := hid (fun W (hW : Below w.heap.size w W) => tFind_any gs 0 B es v m s W (hT.below hW) hp h1s hs)
  have HF2 := hid (fun W (hW : Below w.heap.size w W) => tFind_any gs 0 B es v ⟨#[71, 69, 84]⟩ s W (hT.below hW) hp h1s hs)
  have hLG : leadG m.data.toList s.data.toList es = if (findG m.data.toList s.data.toList es 0).2.2 ≠ 0 ∧ m.data.toList = hdL then findG gtL s.data.toList es 0 else findG m.data.toList s.data.toList es 0 := rfl
  have hgl : (⟨#[71, 69, 84]⟩ : ByteArray).data.toList = gtL := rfl
  rw [hgl] at HF2
  generalize leadG m.data.toList s.data.toList es = LL at *
  generalize findG m.data.toList s.data.toList es 0 = FF at *
  generalize findG gtL s.data.toList es 0 = GG at *
  have HLG := hid hLG
  have hbe := beq_head m
  have hq : (LL.2.2 == 0) = decide (LL.2.2 = 0) := rfl
  clear hT hLG hgl
  go_enter Tryz.func79, Tryz.ntmps79
  go_wp2_with fail
  refine (HF.out _ (Below.refl _ _)).mono ?_
  rintro x w1 ⟨⟨vv, rfl, ow⟩, hb1⟩
  have HO := hid ow
  have lt1 : gs < w1.heap.size := Nat.lt_of_lt_of_le lt0 hb1.size
  clear ow HF
  by_cases h0 : FF.2.2 = 0
  · have hL : LL = FF := by rw [HLG.out, if_neg (fun h => h.1 h0)]
    subst hL
    clear HLG HF2
    go_wp2
    refine bodyPost_ret (v := .tuple #[.int .i64 LL.1, vv, .bool (decide (LL.2.2 = 0))]) (by simp [results, Tryz.results79, go_sem, h0]) rfl ?_
    exact ⟨⟨vv, rfl, HO.out⟩, hb1⟩
  · by_cases hh : m.data.toList = hdL
    · have hL : LL = GG := by rw [HLG.out, if_pos ⟨h0, hh⟩]
      subst hL
      rw [decide_eq_true hh] at hbe
      clear HLG HO
      go_wp2_with fail
      refine (HF2.out _ hb1).mono ?_
      rintro x w2 ⟨⟨vg, rfl, og⟩, hb2⟩
      have HO := hid (owns_base og hb1.size)
      have hB := bel_of hb1 hb2
      clear og
      go_wp2
      refine bodyPost_ret (v := .tuple #[.int .i64 LL.1, vg, .bool (decide (LL.2.2 = 0))]) (by simp [results, Tryz.results79, go_sem]) rfl ?_
      exact ⟨⟨vg, rfl, HO.out⟩, hB⟩
    · have hL : LL = FF := by rw [HLG.out, if_neg (fun h => hh h.2)]
      subst hL
      rw [decide_eq_false hh] at hbe
      clear HLG HF2
      go_wp2
      refine bodyPost_ret (v := .tuple #[.int .i64 LL.1, vv, .bool (decide (LL.2.2 = 0))]) (by simp [results, Tryz.results79, go_sem, h0]) rfl ?_
      exact ⟨⟨vv, rfl, HO.out⟩, hb1⟩
end Go.Proofs.YtbphabgjhoifbaaGreatDoor

/- The other path, and whether a method leads to a route by it. -/
namespace Go.Proofs.YtbphabgjhoifbaaGreatDoor
open Go.RowKit

namespace Pm
theorem unesc_slash : ∀ (n : Nat) (l : List UInt8), l.length ≤ n → (unesc (l ++ [47])).isSome = (unesc l).isSome
  | _, [], _ => rfl
  | _, [c], _ => by
    by_cases h : c = 37 <;> simp [unesc, h]
  | _, [c, a], _ => by
    by_cases h : c = 37
    · subst h
      have : digsB 16 [a, 47] = false := by
        have h47 : 16 ≤ dval 47 := by decide
        simp [digsB]
        intro _
        exact h47
      simp [unesc, this]
    · rw [List.cons_append, unesc_plain _ _ h, unesc_plain c [a] h]
      by_cases ha : a = 37 <;> simp [unesc, ha]
  | 0, c :: a :: b :: r, hn => by simp at hn
  | n + 1, c :: a :: b :: r, hn => by
    by_cases h : c = 37
    · subst h
      have ih := unesc_slash n r (by simp at hn; omega)
      simp only [List.cons_append, unesc, if_true]
      cases digsB 16 [a, b] <;> simp [ih]
    · have ih := unesc_slash n (a :: b :: r) (by simp at hn ⊢; omega)
      rw [List.cons_append, unesc_plain _ _ h, unesc_plain c (a :: b :: r) h]
      simpa using ih
end Pm
def otherL (l : List UInt8) : List UInt8 := if Lib.hasSuffix l [47] = true then l.take (l.length - 1) else l ++ [47]
theorem suffix_snoc {l : List UInt8} (h : Lib.hasSuffix l [47] = true) : ∃ r, l = r ++ [47] ∧ l.take (l.length - 1) = r := by
  unfold Lib.hasSuffix at h
  rw [List.isSuffixOf_iff_suffix] at h
  obtain ⟨r, rfl⟩ := h
  exact ⟨r, rfl, by simp⟩
theorem other_path {l : List UInt8} (h : Pm.isPath l = true) (h1 : l ≠ [47]) : Pm.isPath (otherL l) = true ∧ 1 ≤ (otherL l).length ∧ (otherL l).length ≤ l.length + 1 := by
  unfold Pm.isPath at h ⊢
  rw [Bool.and_eq_true] at h ⊢
  obtain ⟨h2, h3⟩ := h
  have hne : ∃ t, l = 47 :: t := by
    unfold Lib.hasPrefix at h3
    cases l with
    | nil => simp at h3
    | cons c t => simp at h3; exact ⟨t, by rw [h3]⟩
  obtain ⟨t, rfl⟩ := hne
  unfold otherL
  by_cases hs : Lib.hasSuffix (47 :: t) [47] = true
  · obtain ⟨r, hr, ht⟩ := suffix_snoc hs
    rw [if_pos hs, ht]
    rw [hr] at h2 h1
    rw [Pm.unesc_slash _ _ (Nat.le_refl _)] at h2
    have hl : (47 :: t).length = r.length + 1 := by rw [hr]; simp
    cases r with
    | nil => exact absurd rfl h1
    | cons c r' =>
      simp at hr
      obtain ⟨rfl, rfl⟩ := hr
      exact ⟨⟨h2, by simp [Lib.hasPrefix]⟩, by simp, by simp⟩
  · rw [if_neg hs, Pm.unesc_slash _ _ (Nat.le_refl _)]
    exact ⟨⟨h2, by simp [Lib.hasPrefix]⟩, by simp, by simp⟩
def otG (m l : List UInt8) (es : List Ent) : List UInt8 × Bool := if l = [47] then ([], false) else (otherL l, decide ((leadG m (otherL l) es).2.2 = 0))
def OtPost (F : List UInt8 × Bool) (w : World) (x : Ending) (w' : World) : Prop :=
  (∃ o : ByteArray, x = .returned (.tuple #[.string o, .bool F.2]) ∧ o.data.toList = F.1) ∧ Below w.heap.size w w'
theorem lead_as (gs B : Nat) (es : List Ent) (v : Value) (m o : ByteArray) (L : List UInt8) (ho : o.data.toList = L) (w : World) (hT : TbAt gs 0 B es v w) (hp : Pm.isPath L = true) (h1 : 1 ≤ L.length) (h2 : L.length ≤ 140737488355328) :
    Calls Tryz.prog 79 #[.pointer (some ⟨gs, 0, none⟩), .string m, .string o] w (LdPost (leadG m.data.toList L es) w) := by
  subst ho
  have e : o.data.toList.length = o.size := by simp
  exact lead_any gs B es v m o w hT hp (by omega) (by omega)
set_option maxRecDepth 100000 in
set_option maxHeartbeats 2000000 in
theorem leadOther_any (gs B : Nat) (es : List Ent) (v : Value) (m s : ByteArray) (w : World) (hT : TbAt gs 0 B es v w) (hp : Pm.isPath s.data.toList = true) (hs : s.size ≤ 140737488355000) :
    Calls Tryz.prog 80 #[.pointer (some ⟨gs, 0, none⟩), .string m, .string s] w (OtPost (otG m.data.toList s.data.toList es) w) := by
  have lt0 := hT.lt
  have hbe := beq_slash s
  have hsl : s.data.toList.length = s.size := by simp
  by_cases h1 : s.data.toList = [47]
  · have hG : otG m.data.toList s.data.toList es = ([], false) := if_pos h1
    rw [hG]
    rw [decide_eq_true h1] at hbe
    clear hG h1 hT
    go_enter Tryz.func80, Tryz.ntmps80
    go_wp2
    refine bodyPost_ret (v := .tuple #[.string ⟨#[]⟩, .bool false]) (by simp [results, Tryz.results80, go_sem]) rfl ?_
    exact ⟨⟨_, rfl, rfl⟩, Below.refl _ _⟩
  · have hG : otG m.data.toList s.data.toList es = (otherL s.data.toList, decide ((leadG m.data.toList (otherL s.data.toList) es).2.2 = 0)) := if_neg h1
    obtain ⟨ho1, ho2, ho3⟩ := other_path hp h1
    have HLD := hid (fun (o : ByteArray) (ho : o.data.toList = otherL s.data.toList) W (hW : Below w.heap.size w W) => lead_as gs B es v m o _ ho W (hT.below hW) ho1 ho2 (by omega))
    rw [hG]
    rw [decide_eq_false h1] at hbe
    have HCS := hid (fun W => Tryz.strings_CutSuffix s ⟨#[47]⟩ W (by omega))
    have hsep : (⟨#[47]⟩ : ByteArray).data.toList = [47] := rfl
    rw [hsep] at HCS
    cases hsf : Lib.hasSuffix s.data.toList [47]
    · have hot : otherL s.data.toList = s.data.toList ++ [47] := by unfold otherL; rw [hsf]; rfl
      have HOT : Hid ((s ++ (⟨#[47]⟩ : ByteArray)).data.toList = otherL s.data.toList) := by unfold Hid; rw [hot]; simp
      rw [hsf] at HCS
      generalize otherL s.data.toList = OL at *
      clear hT hG h1 ho1 hot hsep
      go_enter Tryz.func80, Tryz.ntmps80
      go_wp2_with fail
      refine (HCS.out _).mono ?_
      rintro x w1 ⟨rfl, rfl⟩
      go_wp2_with fail
      refine (HLD.out _ HOT.out _ (Below.refl _ _)).mono ?_
      rintro x w2 ⟨⟨vv, rfl, -⟩, hb2⟩
      generalize leadG m.data.toList OL es = LG at *
      go_wp2
      refine bodyPost_ret (v := .tuple #[.string (s ++ ⟨#[47]⟩), .bool (decide (LG.2.2 = 0))]) (by simp [results, Tryz.results80, go_sem]) rfl ?_
      exact ⟨⟨_, rfl, HOT.out⟩, hb2⟩
    · have hot : Lib.trimSuffix s.data.toList [47] = otherL s.data.toList := by unfold otherL Lib.trimSuffix; rw [hsf]; rfl
      rw [hsf, hot] at HCS
      generalize otherL s.data.toList = OL at *
      clear hT hG h1 ho1 hot hsep
      go_enter Tryz.func80, Tryz.ntmps80
      go_wp2_with fail
      refine (HCS.out _).mono ?_
      rintro x w1 ⟨rfl, rfl⟩
      go_wp2_with fail
      refine (HLD.out _ (by simp) _ (Below.refl _ _)).mono ?_
      rintro x w2 ⟨⟨vv, rfl, -⟩, hb2⟩
      generalize leadG m.data.toList OL es = LG at *
      go_wp2
      refine bodyPost_ret (v := .tuple #[.string ⟨OL.toArray⟩, .bool (decide (LG.2.2 = 0))]) (by simp [results, Tryz.results80, go_sem]) rfl ?_
      exact ⟨⟨_, rfl, by simp⟩, hb2⟩
def movG (m : List UInt8) : Int := if m = gtL ∨ m = hdL then 301 else 308
set_option maxRecDepth 100000 in
set_option maxHeartbeats 1000000 in
theorem moved_any (m : ByteArray) (w : World) :
    Calls Tryz.prog 81 #[.string m] w fun x w' => x = .returned (.int .i64 (movG m.data.toList)) ∧ Below w.heap.size w w' := by
  have hb1 := beq_get m
  have hb2 := beq_head m
  by_cases h1 : m.data.toList = gtL
  · rw [decide_eq_true h1] at hb1
    have hM : movG m.data.toList = 301 := if_pos (.inl h1)
    rw [hM]
    clear hb2
    go_enter Tryz.func81, Tryz.ntmps81
    go_wp2
    go_ret
    exact ⟨rfl, Below.refl _ _⟩
  · rw [decide_eq_false h1] at hb1
    by_cases h2 : m.data.toList = hdL
    · rw [decide_eq_true h2] at hb2
      have hM : movG m.data.toList = 301 := if_pos (.inr h2)
      rw [hM]
      go_enter Tryz.func81, Tryz.ntmps81
      go_wp2
      go_ret
      exact ⟨rfl, Below.refl _ _⟩
    · rw [decide_eq_false h2] at hb2
      have hM : movG m.data.toList = 308 := if_neg (fun h => h.elim h1 h2)
      rw [hM]
      go_enter Tryz.func81, Tryz.ntmps81
      go_wp2
      go_ret
      exact ⟨rfl, Below.refl _ _⟩
end Go.Proofs.YtbphabgjhoifbaaGreatDoor

/- The methods that lead somewhere by a path. -/
namespace Go.Proofs.YtbphabgjhoifbaaGreatDoor
open Go.RowKit

theorem own_strs {w : World} {B : Nat} {v : Value} {l : List (List UInt8)} (h : w.ownsRow B 9 1 v l.length (encs l)) : (v = .slice none 0 0 ∧ l = []) ∨ ∃ g cap, v = .slice (some ⟨g, 0, none⟩) l.length cap ∧ g < w.heap.size ∧ l.length ≤ cap ∧ ∀ j (hj : j < l.length), w.cell? ⟨g, j, none⟩ = some (.string ⟨l[j].toArray⟩) := by
  rcases h.2 with ⟨h2, h3⟩ | ⟨g, cap, cur, hv, hB, hg, hc, hm, hs, ht⟩
  · exact .inl ⟨h2, List.eq_nil_of_length_eq_zero h3⟩
  · refine .inr ⟨g, cap, hv, (Array.getElem?_eq_some_iff.1 hg).1, hc, fun j hj => ?_⟩
    rw [Lib.cell_of_heap hg]
    have e : (encs l)[j]? = some (.string ⟨l[j].toArray⟩) := by unfold encs; rw [List.getElem?_map, List.getElem?_eq_getElem hj]; rfl
    rw [← ht, List.getElem?_take] at e
    split at e
    · simpa using e
    · cases e
theorem containsS_iff (l : List (List UInt8)) (x : ByteArray) : Lib.containsS (l.map fun s => (⟨s.toArray⟩ : ByteArray)) x = decide (x.data.toList ∈ l) := by
  rw [Bool.eq_iff_iff, Lib.containsS_iff, decide_eq_true_iff, List.mem_map]
  constructor
  · rintro ⟨s, hs, rfl⟩; simpa using hs
  · intro h; exact ⟨_, h, rfl⟩
theorem contains_own (v : Value) (l : List (List UInt8)) (x : ByteArray) (B : Nat) (w : World) (h : w.ownsRow B 9 1 v l.length (encs l)) (hl : l.length ≤ 1000000) :
    Calls Tryz.prog 113 #[v, .string x] w fun e w' => e = .returned (.bool (decide (x.data.toList ∈ l))) ∧ w' = w := by
  rcases own_strs h with ⟨rfl, rfl⟩ | ⟨g, cap, rfl, hg, hc, hce⟩
  · exact (Tryz.slices_Contains_string_empty none 0 x w).mono fun e w' ⟨h1, h2⟩ => ⟨by rw [h1]; simp, h2⟩
  · refine (Tryz.slices_Contains_string g 0 l.length cap (l.map fun s => (⟨s.toArray⟩ : ByteArray)) x w (by simp) (by omega) (fun j hj => ?_)).mono fun e w' ⟨h1, h2⟩ => ⟨?_, h2⟩
    · rw [List.length_map] at hj
      rw [Nat.zero_add, hce j hj]
      simp [List.getD, hj]
    · rw [h1, List.take_of_length_le (by simp), containsS_iff]
def alwG (l : List UInt8) (es : List Ent) : List (List UInt8) := if gtL ∈ methS l es ∧ hdL ∉ methS l es then srt (methS l es ++ [hdL]) else methS l es
theorem join_own (v : Value) (l : List (List UInt8)) (sep : ByteArray) (B : Nat) (w : World) (h : w.ownsRow B 9 1 v l.length (encs l)) (hl : l.length ≤ 1000000) (hj : (Lib.join l sep.data.toList).length ≤ 140737488355328) :
    Calls Tryz.prog 83 #[v, .string sep] w fun e w' => e = .returned (.string ⟨(Lib.join l sep.data.toList).toArray⟩) ∧ Below w.heap.size w w' := by
  have hml : (l.map fun s => (⟨s.toArray⟩ : ByteArray)).map (·.data.toList) = l := by rw [List.map_map]; simp [Function.comp_def]
  rcases own_strs h with ⟨rfl, rfl⟩ | ⟨g, cap, rfl, hg, hc, hce⟩
  · exact (Tryz.strings_Join_none none 0 sep w).mono fun e w' ⟨h1, h2⟩ => ⟨h1, by rw [h2]; exact Below.refl _ _⟩
  · have H := Tryz.strings_Join g 0 cap (l.map fun s => (⟨s.toArray⟩ : ByteArray)) sep w (fun j x hx => by
      rw [List.getElem?_map] at hx
      have hjl : j < l.length := by
        rcases Nat.lt_or_ge j l.length with q | q
        · exact q
        · rw [List.getElem?_eq_none q] at hx; cases hx
      rw [List.getElem?_eq_getElem hjl] at hx
      rw [Nat.zero_add, hce j hjl]
      simpa using hx) hg (by rw [List.length_map]; omega) (by rw [List.length_map]; exact hc) (by rw [hml]; exact hj)
    rw [hml, List.length_map] at H
    exact H
theorem methS_few (l : List UInt8) (es : List Ent) : (methS l es).length ≤ es.length := by
  rw [methS_len]
  have := methG_len l es es.length
  rw [List.take_length] at this
  exact this
set_option maxRecDepth 100000 in
set_option maxHeartbeats 2000000 in
theorem allowed_any (gs B : Nat) (es : List Ent) (v : Value) (s : ByteArray) (w : World) (hT : TbAt gs 0 B es v w) (hp : Pm.isPath s.data.toList = true) (h1s : 1 ≤ s.size) (hs : s.size ≤ 140737488355328) :
    Calls Tryz.prog 82 #[.pointer (some ⟨gs, 0, none⟩), .string s] w fun x w' => (∃ vv, x = .returned vv ∧ w'.ownsRow w.heap.size 9 1 vv (alwG s.data.toList es).length (encs (alwG s.data.toList es))) ∧ Below w.heap.size w w' := by
  obtain ⟨i0, hi, hz0, hz1, hz2⟩ := info_parts Tryz.info9
  have lt0 := hT.lt
  have hfw := hT.few
  have hms := methS_few s.data.toList es
  have HM := hid (tMethods_all gs 0 B es v s w hT hp h1s hs)
  have HAL : Hid (alwG s.data.toList es = if gtL ∈ methS s.data.toList es ∧ hdL ∉ methS s.data.toList es then srt (methS s.data.toList es ++ [hdL]) else methS s.data.toList es) := rfl
  generalize alwG s.data.toList es = AL at *
  generalize methS s.data.toList es = MS at *
  clear hT
  go_enter Tryz.func82, Tryz.ntmps82
  go_wp2_with fail
  refine HM.out.mono ?_
  rintro x w1 ⟨⟨vv, rfl, ow⟩, hb1⟩
  have HC1 := hid (contains_own vv MS ⟨#[71, 69, 84]⟩ w.heap.size w1 ow (by omega))
  have HC2 := hid (contains_own vv MS ⟨#[72, 69, 65, 68]⟩ w.heap.size w1 ow (by omega))
  have e1 : (decide ((⟨#[71, 69, 84]⟩ : ByteArray).data.toList ∈ MS)) = decide (gtL ∈ MS) := rfl
  have e2 : (decide ((⟨#[72, 69, 65, 68]⟩ : ByteArray).data.toList ∈ MS)) = decide (hdL ∈ MS) := rfl
  rw [e1] at HC1
  rw [e2] at HC2
  have HO := hid ow
  have hsl : ∃ a c, vv = .slice a MS.length c := sl_of ow
  obtain ⟨a, c, rfl⟩ := hsl
  clear HM ow e1 e2
  go_wp2_with fail
  refine HC1.out.mono ?_
  rintro x w2 ⟨rfl, rfl⟩
  by_cases hg : gtL ∈ MS
  · by_cases hh : hdL ∈ MS
    · have hA : AL = MS := by rw [HAL.out, if_neg (fun q => q.2 hh)]
      subst hA
      rw [decide_eq_true hg] at *
      rw [decide_eq_true hh] at HC2
      clear HAL HC1
      go_wp2_with fail
      refine HC2.out.mono ?_
      rintro x w3 ⟨rfl, rfl⟩
      go_wp2
      go_ret
      exact ⟨⟨_, rfl, HO.out⟩, hb1⟩
    · have hA : AL = srt (MS ++ [hdL]) := by rw [HAL.out, if_pos ⟨hg, hh⟩]
      rw [decide_eq_true hg] at *
      rw [decide_eq_false hh] at HC2
      clear HAL HC1
      go_wp2_with fail
      refine HC2.out.mono ?_
      rintro x w3 ⟨rfl, rfl⟩
      have o2 := HO.out
      go_wp2_with (at_builtin; refine wpList_append_own _ rfl _ _ 31 rfl w.heap.size 9 i0 (.string ⟨#[]⟩) 1 16 Tryz.underlying31 hi hz0 hz1 hz2 rfl (by decide) _ _ _ rfl (o2.alloc _) ⟨w3.heap.size, 0, none⟩ 1 1 [.string ⟨#[72, 69, 65, 68]⟩] rfl rfl ?c1 ?c2 ?c3 ?c4 ?c5 ?_)
      case c1 =>
        intro j u hj
        match j, hj with
        | 0, hj => simp at hj; subst hj; simp [Addr.add]
      case c2 => intro u hu; simp at hu; subst hu; rfl
      case c3 => unfold maxLen; omega
      case c4 => omega
      case c5 => have := hb1.size; simp; omega
      intro v' w4 hown' hgrow _
      have hb4 : Below w.heap.size w w4 := (hb1.alloc hb1.size _).grown hgrow (by have := hb1.size; simp; omega) (own_ge o2)
      have hown2 : w4.ownsRow w.heap.size 9 1 v' (MS ++ [hdL]).length (encs (MS ++ [hdL])) := by
        have e : encs (MS ++ [hdL]) = encs MS ++ [.string ⟨#[72, 69, 65, 68]⟩] := by unfold encs; rw [List.map_append]; rfl
        rw [e, List.length_append]; exact hown'
      have HS := hid (sort_own v' (MS ++ [hdL]) w.heap.size w4 hown2 (by rw [List.length_append]; simp; omega))
      rw [← hA] at HS
      have hle : AL.length = (MS ++ [hdL]).length := by rw [hA, srt_len]
      rw [← hle] at HS
      have HW := hid hown2
      clear hown' hown2 hgrow HC2 hA
      go_wp2_with fail
      refine HS.out.mono ?_
      rintro x w5 ⟨rfl, ho5, hg5⟩
      have hb5 : Below w.heap.size w w5 := hb4.grown hg5 hb4.size (own_ge HW.out)
      have HO5 := hid ho5
      clear ho5 hg5 HS HW
      go_wp2
      go_ret
      exact ⟨⟨_, rfl, HO5.out⟩, hb5⟩
  · have hA : AL = MS := by rw [HAL.out, if_neg (fun q => hg q.1)]
    subst hA
    rw [decide_eq_false hg] at *
    clear HAL HC1 HC2
    go_wp2
    go_ret
    exact ⟨⟨_, rfl, HO.out⟩, hb1⟩
end Go.Proofs.YtbphabgjhoifbaaGreatDoor

/- Where a request of a method and a target leads. -/
namespace Go.Proofs.YtbphabgjhoifbaaGreatDoor
open Go.RowKit

structure DsR where
  st : Int
  ro : Nat
  ps : List Prm
  al : List UInt8
  lo : List UInt8
  e : Int
def dspG (m t : List UInt8) (es : List Ent) : DsR :=
  if Pm.isMethod m = false ∨ Pm.isTarget t = false then ⟨0, 0, [], [], [], 3⟩
  else if (leadG m (Pm.ahead 63 t) es).2.2 = 0 then ⟨200, (leadG m (Pm.ahead 63 t) es).1, (leadG m (Pm.ahead 63 t) es).2.1, [], [], 0⟩
  else if (otG m (Pm.ahead 63 t) es).2 = true then ⟨movG m, 0, [], [], (otG m (Pm.ahead 63 t) es).1 ++ Pm.behind 63 t, 0⟩
  else if alwG (Pm.ahead 63 t) es ≠ [] then ⟨405, 0, [], Lib.join (alwG (Pm.ahead 63 t) es) [44, 32], [], 0⟩
  else ⟨404, 0, [], [], [], 0⟩
def DpPost (R : DsR) (w : World) (x : Ending) (w' : World) : Prop :=
  (∃ vv, ∃ ua ul : ByteArray, x = .returned (.tuple #[.agg #[.int .i64 R.st, .int .i64 R.ro, vv, .string ua, .string ul], .int .i64 R.e]) ∧ ua.data.toList = R.al ∧ ul.data.toList = R.lo ∧ w'.ownsRow w.heap.size 256 2 vv R.ps.length (prCells R.ps)) ∧ Below w.heap.size w w'
def FnB (g : Nat) (st ro : Int) (vv : Value) (al lo : ByteArray) (w : World) : Prop := w.heap[g]? = some (.cells #[.int .i64 st, .int .i64 ro, vv, .string al, .string lo] 138 (0, 0))
theorem FnB.cells {g : Nat} {st ro : Int} {vv : Value} {al lo : ByteArray} {w : World} (h : FnB g st ro vv al lo w) : w.cell? ⟨g, 0, none⟩ = some (.int .i64 st) ∧ w.cell? ⟨g, 1, none⟩ = some (.int .i64 ro) ∧ w.cell? ⟨g, 2, none⟩ = some vv ∧ w.cell? ⟨g, 3, none⟩ = some (.string al) ∧ w.cell? ⟨g, 4, none⟩ = some (.string lo) := by
  refine ⟨?_, ?_, ?_, ?_, ?_⟩ <;> (rw [Lib.cell_of_heap h]; rfl)
theorem FnB.free {g : Nat} {st ro : Int} {vv : Value} {al lo : ByteArray} {w : World} (h : FnB g st ro vv al lo w) (j : Nat) : w.frozen? ⟨g, j, none⟩ = false := Lib.frozen_of_heap h j
theorem FnB.lt {g : Nat} {st ro : Int} {vv : Value} {al lo : ByteArray} {w : World} (h : FnB g st ro vv al lo w) : g < w.heap.size := block_lt_of_cell h.cells.1
theorem FnB.below {g : Nat} {st ro : Int} {vv : Value} {al lo : ByteArray} {w w' : World} (h : FnB g st ro vv al lo w) (hb : Below w.heap.size w w') : FnB g st ro vv al lo w' := by
  have := hb.block g h.lt; unfold FnB at *; rw [this]; exact h
def setF (g : Nat) (st ro : Int) (vv : Value) (al lo : ByteArray) (w : World) : World := ((((w.setCell ⟨g, 0, none⟩ (.int .i64 st)).setCell ⟨g, 1, none⟩ (.int .i64 ro)).setCell ⟨g, 2, none⟩ vv).setCell ⟨g, 3, none⟩ (.string al)).setCell ⟨g, 4, none⟩ (.string lo)
theorem FnB.set {g : Nat} {st ro : Int} {vv : Value} {al lo : ByteArray} {w : World} (h : FnB g st ro vv al lo w) (st' ro' : Int) (vv' : Value) (al' lo' : ByteArray) : FnB g st' ro' vv' al' lo' (setF g st' ro' vv' al' lo' w) := by
  unfold FnB setF at *
  rw [heap_setCell_same _ g 4 _ _ _ (heap_setCell_same _ g 3 _ _ _ (heap_setCell_same _ g 2 _ _ _ (heap_setCell_same _ g 1 _ _ _ (heap_setCell_same _ g 0 _ _ _ h))))]
  rfl
theorem below_setF {g B : Nat} {st ro : Int} {vv : Value} {al lo : ByteArray} {w w' : World} (h : Below B w w') (hB : B ≤ g) : Below B w (setF g st ro vv al lo w') :=
  ((((h.setCell hB _).setCell hB _).setCell hB _).setCell hB _).setCell hB _
theorem owns_setF {g B : Nat} {e : TypeId} {sz n : Nat} {v : Value} {xs : List Value} {st ro : Int} {vv : Value} {al lo : ByteArray} {w : World} (h : w.ownsRow B e sz v n xs) (hn : v.ownBlock ≠ some g) : (setF g st ro vv al lo w).ownsRow B e sz v n xs :=
  owns_not (owns_not (owns_not (owns_not (owns_not h hn 0 _) hn 1 _) hn 2 _) hn 3 _) hn 4 _
set_option maxRecDepth 100000 in
set_option maxHeartbeats 2000000 in
theorem dispatch_bad (p : Value) (m t : ByteArray) (w : World) (hm : m.size ≤ maxLen) (ht : t.size ≤ 140737488355328) (h : Pm.isMethod m.data.toList = false ∨ Pm.isTarget t.data.toList = false) :
    Calls Tryz.prog 56 #[p, .string m, .string t] w (DpPost ⟨0, 0, [], [], [], 3⟩ w) := by
  have HM := hid (fun W => wIsMethod_any m W hm)
  have HT := hid (fun W => wIsTarget_any t W ht)
  have hA := (Below.refl w.heap.size w).alloc (Nat.le_refl _) (.cells #[.int .i64 0, .int .i64 0, .slice none 0 0, .string ⟨#[]⟩, .string ⟨#[]⟩] 138)
  have h0 : FnB w.heap.size 0 0 (.slice none 0 0) ⟨#[]⟩ ⟨#[]⟩ (w.alloc (.cells #[.int .i64 0, .int .i64 0, .slice none 0 0, .string ⟨#[]⟩, .string ⟨#[]⟩] 138)) := heap_alloc_new w _
  go_enter Tryz.func56, Tryz.ntmps56
  go_wp2_with fail
  generalize w.alloc (.cells #[.int .i64 0, .int .i64 0, .slice none 0 0, .string ⟨#[]⟩, .string ⟨#[]⟩] 138) = w1 at *
  refine (HM.out _).mono ?_
  rintro x w2 ⟨rfl, rfl⟩
  cases hmm : Pm.isMethod m.data.toList
  · obtain ⟨c0, c1, c2, c3, c4⟩ := h0.cells
    have f0 := h0.free 0
    have f1 := h0.free 1
    have f2 := h0.free 2
    have f3 := h0.free 3
    have f4 := h0.free 4
    have l0 := h0.lt
    have H1 := hid (h0.set 0 0 (.slice none 0 0) ⟨#[]⟩ ⟨#[]⟩)
    obtain ⟨d0, d1, d2, d3, d4⟩ := H1.out.cells
    unfold setF at d0 d1 d2 d3 d4
    go_wp2
    refine bodyPost_ret (v := .tuple #[.agg #[.int .i64 0, .int .i64 0, .slice none 0 0, .string ⟨#[]⟩, .string ⟨#[]⟩], .int .i64 3]) (by simp [results, Tryz.results56, go_sem, d0, d1, d2, d3, d4]) rfl ?_
    exact ⟨⟨_, _, _, rfl, rfl, rfl, World.ownsRow_nil _ _ _ _⟩, below_setF hA (Nat.le_refl _)⟩
  · have ht0 : Pm.isTarget t.data.toList = false := h.resolve_left (by rw [hmm]; simp)
    rw [ht0] at HT
    go_wp2_with fail
    refine (HT.out _).mono ?_
    rintro x w3 ⟨rfl, hb3⟩
    have hB3 := bel_of hA hb3
    have h3 := h0.below hb3
    obtain ⟨c0, c1, c2, c3, c4⟩ := h3.cells
    have f0 := h3.free 0
    have f1 := h3.free 1
    have f2 := h3.free 2
    have f3 := h3.free 3
    have f4 := h3.free 4
    have l0 := h3.lt
    have H1 := hid (h3.set 0 0 (.slice none 0 0) ⟨#[]⟩ ⟨#[]⟩)
    obtain ⟨d0, d1, d2, d3, d4⟩ := H1.out.cells
    unfold setF at d0 d1 d2 d3 d4
    go_wp2
    refine bodyPost_ret (v := .tuple #[.agg #[.int .i64 0, .int .i64 0, (.slice none 0 0), .string ⟨#[]⟩, .string ⟨#[]⟩], .int .i64 3]) (by simp [results, Tryz.results56, go_sem, d0, d1, d2, d3, d4]) rfl ?_
    exact ⟨⟨_, _, _, rfl, rfl, rfl, World.ownsRow_nil _ _ _ _⟩, below_setF hB3 (Nat.le_refl _)⟩
theorem other_as (gs B : Nat) (es : List Ent) (v : Value) (m o : ByteArray) (L : List UInt8) (ho : o.data.toList = L) (w : World) (hT : TbAt gs 0 B es v w) (hp : Pm.isPath L = true) (h2 : L.length ≤ 140737488355000) :
    Calls Tryz.prog 80 #[.pointer (some ⟨gs, 0, none⟩), .string m, .string o] w (OtPost (otG m.data.toList L es) w) := by
  subst ho
  have e : o.data.toList.length = o.size := by simp
  exact leadOther_any gs B es v m o w hT hp (by omega)
theorem allowed_as (gs B : Nat) (es : List Ent) (v : Value) (o : ByteArray) (L : List UInt8) (ho : o.data.toList = L) (w : World) (hT : TbAt gs 0 B es v w) (hp : Pm.isPath L = true) (h1 : 1 ≤ L.length) (h2 : L.length ≤ 140737488355328) :
    Calls Tryz.prog 82 #[.pointer (some ⟨gs, 0, none⟩), .string o] w fun x w' => (∃ vv, x = .returned vv ∧ w'.ownsRow w.heap.size 9 1 vv (alwG L es).length (encs (alwG L es))) ∧ Below w.heap.size w w' := by
  subst ho
  have e : o.data.toList.length = o.size := by simp
  exact allowed_any gs B es v o w hT hp (by omega) (by omega)
theorem otG_len (m l : List UInt8) (es : List Ent) (h : Pm.isPath l = true) : (otG m l es).1.length ≤ l.length + 1 := by
  unfold otG
  by_cases h1 : l = [47]
  · rw [if_pos h1]; simp
  · rw [if_neg h1]; exact (other_path h h1).2.2
theorem alwG_few (l : List UInt8) (es : List Ent) : (alwG l es).length ≤ es.length + 1 := by
  have := methS_few l es
  unfold alwG
  split
  · rw [srt_len, List.length_append]; simp; omega
  · omega
set_option maxRecDepth 100000 in
set_option maxHeartbeats 1000000 in
theorem dispatch_ok (gs B : Nat) (es : List Ent) (v : Value) (m t : ByteArray) (w : World) (hT : TbAt gs 0 B es v w) (hm : m.size ≤ maxLen) (ht : t.size ≤ 140737488350000) (h1 : Pm.isMethod m.data.toList = true) (h2 : Pm.isTarget t.data.toList = true) (hj : (Lib.join (alwG (Pm.ahead 63 t.data.toList) es) [44, 32]).length ≤ 140737488355328) :
    Calls Tryz.prog 56 #[.pointer (some ⟨gs, 0, none⟩), .string m, .string t] w (DpPost (dspG m.data.toList t.data.toList es) w) := by
  have hpt : Pm.isPath (Pm.ahead 63 t.data.toList) = true := by
    rw [Pm.isTarget_path, Bool.and_eq_true] at h2; exact h2.1
  have htl : t.data.toList.length = t.size := by simp
  have hal : (Pm.ahead 63 t.data.toList).length ≤ t.size := by rw [← htl]; exact (List.takeWhile_prefix _).length_le
  have hbl : (Pm.behind 63 t.data.toList).length ≤ t.size := by rw [← htl]; exact (List.dropWhile_suffix _).length_le
  have hne : 1 ≤ (Pm.ahead 63 t.data.toList).length := by
    unfold Pm.isPath at hpt
    rw [Bool.and_eq_true] at hpt
    cases hq : Pm.ahead 63 t.data.toList with
    | nil => rw [hq] at hpt; exact absurd hpt.2 (by decide)
    | cons c r => simp
  have hfew := hT.few
  have HR : Hid (dspG m.data.toList t.data.toList es = if (leadG m.data.toList (Pm.ahead 63 t.data.toList) es).2.2 = 0 then ⟨200, (leadG m.data.toList (Pm.ahead 63 t.data.toList) es).1, (leadG m.data.toList (Pm.ahead 63 t.data.toList) es).2.1, [], [], 0⟩
  else if (otG m.data.toList (Pm.ahead 63 t.data.toList) es).2 = true then ⟨movG m.data.toList, 0, [], [], (otG m.data.toList (Pm.ahead 63 t.data.toList) es).1 ++ Pm.behind 63 t.data.toList, 0⟩
  else if alwG (Pm.ahead 63 t.data.toList) es ≠ [] then ⟨405, 0, [], Lib.join (alwG (Pm.ahead 63 t.data.toList) es) [44, 32], [], 0⟩
  else ⟨404, 0, [], [], [], 0⟩) := by
    unfold Hid dspG
    rw [if_neg (by rw [h1, h2]; simp)]
  have HM := hid (fun W => wIsMethod_any m W hm)
  have HTg := hid (fun W => wIsTarget_any t W (by omega))
  rw [h1] at HM
  rw [h2] at HTg
  have HSP := hid (fun W => splitTarget_any t W (by unfold maxLen; omega))
  have HMV := hid (fun W => moved_any m W)
  have HLD := hid (fun (o : ByteArray) (ho : o.data.toList = Pm.ahead 63 t.data.toList) W (hW : Below w.heap.size w W) => lead_as gs B es v m o _ ho W (hT.below hW) hpt hne (by omega))
  have HLO := hid (fun (o : ByteArray) (ho : o.data.toList = Pm.ahead 63 t.data.toList) W (hW : Below w.heap.size w W) => other_as gs B es v m o _ ho W (hT.below hW) hpt (by omega))
  have HAL := hid (fun (o : ByteArray) (ho : o.data.toList = Pm.ahead 63 t.data.toList) W (hW : Below w.heap.size w W) => allowed_as gs B es v o _ ho W (hT.below hW) hpt hne (by omega))
  have hol := otG_len m.data.toList (Pm.ahead 63 t.data.toList) es hpt
  have haf := alwG_few (Pm.ahead 63 t.data.toList) es
  have lt0 := hT.lt
  have hA := (Below.refl w.heap.size w).alloc (Nat.le_refl _) (.cells #[.int .i64 0, .int .i64 0, .slice none 0 0, .string ⟨#[]⟩, .string ⟨#[]⟩] 138)
  have h0 : FnB w.heap.size 0 0 (.slice none 0 0) ⟨#[]⟩ ⟨#[]⟩ (w.alloc (.cells #[.int .i64 0, .int .i64 0, .slice none 0 0, .string ⟨#[]⟩, .string ⟨#[]⟩] 138)) := heap_alloc_new w _
  generalize dspG m.data.toList t.data.toList es = R at *
  generalize leadG m.data.toList (Pm.ahead 63 t.data.toList) es = LG at *
  generalize otG m.data.toList (Pm.ahead 63 t.data.toList) es = OG at *
  generalize alwG (Pm.ahead 63 t.data.toList) es = AG at *
  generalize movG m.data.toList = MG at *
  generalize hPA : Pm.ahead 63 t.data.toList = PA at *
  generalize hPB : Pm.behind 63 t.data.toList = PB at *
  clear hT hpt h1 h2 htl hPA hPB
  go_enter Tryz.func56, Tryz.ntmps56
  go_wp2_with fail
  generalize w.alloc (.cells #[.int .i64 0, .int .i64 0, .slice none 0 0, .string ⟨#[]⟩, .string ⟨#[]⟩] 138) = w1 at *
  refine (HM.out _).mono ?_
  rintro x w2 ⟨rfl, rfl⟩
  go_wp2_with fail
  refine (HTg.out _).mono ?_
  rintro x w3 ⟨rfl, hb3⟩
  have hB3 := bel_of hA hb3
  have h3 := h0.below hb3
  go_wp2_with fail
  refine (HSP.out _).mono ?_
  rintro x w4 ⟨⟨pa, pb, rfl, hpa, hpb⟩, hb4⟩
  have hB4 := bel_of hB3 hb4
  have h4 := h3.below hb4
  clear h0 h3 hb3 hb4 hA hB3 HM HTg HSP
  go_wp2_with fail
  refine (HLD.out _ hpa _ hB4).mono ?_
  rintro x w5 ⟨⟨vv, rfl, ow⟩, hb5⟩
  have hB5 := bel_of hB4 hb5
  have h5 := h4.below hb5
  have HO := hid ow
  obtain ⟨ax, cx, rfl⟩ := sl_of ow
  clear ow
  by_cases q1 : LG.2.2 = 0
  · have hR := HR.out
    rw [if_pos q1] at hR
    subst hR
    rw [decide_eq_true q1]
    have hno : (Value.slice ax LG.2.1.length cx).ownBlock ≠ some w.heap.size := fun e => by have := own_ge HO.out _ e; have := h4.lt; omega
    have HO2 := hid (owns_base HO.out hB4.size)
    clear HR HLD HLO HAL HMV h4 HO
    obtain ⟨c0, c1, c2, c3, c4⟩ := h5.cells
    have f0 := h5.free 0
    have f1 := h5.free 1
    have f2 := h5.free 2
    have f3 := h5.free 3
    have f4 := h5.free 4
    have l0 := h5.lt
    have H1 := hid (h5.set 200 LG.1 (.slice ax LG.2.1.length cx) ⟨#[]⟩ ⟨#[]⟩)
    obtain ⟨d0, d1, d2, d3, d4⟩ := H1.out.cells
    unfold setF at d0 d1 d2 d3 d4
    go_wp2
    refine bodyPost_ret (v := .tuple #[.agg #[.int .i64 200, .int .i64 LG.1, .slice ax LG.2.1.length cx, .string ⟨#[]⟩, .string ⟨#[]⟩], .int .i64 0]) (by simp [results, Tryz.results56, go_sem, d0, d1, d2, d3, d4]) rfl ?_
    exact ⟨⟨_, _, _, rfl, rfl, rfl, owns_setF HO2.out hno⟩, below_setF hB5 (Nat.le_refl _)⟩
  · rw [decide_eq_false q1]
    clear HO
    go_wp2_with fail
    refine (HLO.out _ hpa _ hB5).mono ?_
    rintro x w6 ⟨⟨ob, rfl, hob⟩, hb6⟩
    have hB6 := bel_of hB5 hb6
    have h6 := h5.below hb6
    by_cases q2 : OG.2 = true
    · have hR := HR.out
      rw [if_neg q1, if_pos q2] at hR
      subst hR
      rw [q2]
      have hsz : (ob ++ pb).size ≤ 281474976710656 := by
        have e1 : ob.data.toList.length = ob.size := by simp
        have e2 : pb.data.toList.length = pb.size := by simp
        rw [ByteArray.size_append]; rw [hob] at e1; rw [hpb] at e2; omega
      have hsm : ob.size + pb.size ≤ 281474976710656 := by rw [ByteArray.size_append] at hsz; exact hsz
      have hk1 : ob.size + pb.size ≤ 9223372036854775807 := by omega
      have hk2 : ¬ 9223372036854775807 < ob.size + pb.size := by omega
      have HCL := hid (fun W => clone_any (ob ++ pb) W hsz)
      have hlo : (ob ++ pb).data.toList = OG.1 ++ PB := by rw [← hob, ← hpb]; simp
      clear HR HLD HLO HAL h4 h5
      go_wp2_with fail
      refine (HCL.out _).mono ?_
      rintro x w7 ⟨rfl, hb7⟩
      have hB7 := bel_of hB6 hb7
      have h7 := h6.below hb7
      go_wp2_with fail
      refine (HMV.out _).mono ?_
      rintro x w8 ⟨rfl, hb8⟩
      have hB8 := bel_of hB7 hb8
      have h8 := h7.below hb8
      clear h6 h7 hb7 hb8 HMV HCL
      obtain ⟨c0, c1, c2, c3, c4⟩ := h8.cells
      have f0 := h8.free 0
      have f1 := h8.free 1
      have f2 := h8.free 2
      have f3 := h8.free 3
      have f4 := h8.free 4
      have l0 := h8.lt
      have H1 := hid (h8.set MG 0 (.slice none 0 0) ⟨#[]⟩ (ob ++ pb))
      obtain ⟨d0, d1, d2, d3, d4⟩ := H1.out.cells
      unfold setF at d0 d1 d2 d3 d4
      go_wp2
      refine bodyPost_ret (v := .tuple #[.agg #[.int .i64 MG, .int .i64 0, (.slice none 0 0), .string ⟨#[]⟩, .string (ob ++ pb)], .int .i64 0]) (by simp [results, Tryz.results56, go_sem, d0, d1, d2, d3, d4]) rfl ?_
      exact ⟨⟨_, _, _, rfl, rfl, hlo, World.ownsRow_nil _ _ _ _⟩, below_setF hB8 (Nat.le_refl _)⟩
    · have q2' : OG.2 = false := by simpa using q2
      rw [q2']
      clear HLO HMV
      go_wp2_with fail
      refine (HAL.out _ hpa _ hB6).mono ?_
      rintro x w7 ⟨⟨va, rfl, oa⟩, hb7⟩
      have hB7 := bel_of hB6 hb7
      have h7 := h6.below hb7
      obtain ⟨aa, ca, rfl⟩ := sl_of oa
      by_cases q3 : AG ≠ []
      · have hR := HR.out
        rw [if_neg q1, if_neg q2, if_pos q3] at hR
        subst hR
        have hpos : (0 : Int) < (AG.length : Int) := by
          have := List.length_pos_iff.2 q3; omega
        have HJ := hid (join_own _ AG ⟨#[44, 32]⟩ _ w7 oa (by omega) hj)
        have hsep : (⟨#[44, 32]⟩ : ByteArray).data.toList = [44, 32] := rfl
        rw [hsep] at HJ
        generalize Lib.join AG [44, 32] = JG at *
        clear HR HLD HAL h4 h5 h6 oa hsep
        go_wp2_with fail
        refine HJ.out.mono ?_
        rintro x w8 ⟨rfl, hb8⟩
        have hB8 := bel_of hB7 hb8
        have h8 := h7.below hb8
        clear h7 hb8 HJ
        obtain ⟨c0, c1, c2, c3, c4⟩ := h8.cells
        have f0 := h8.free 0
        have f1 := h8.free 1
        have f2 := h8.free 2
        have f3 := h8.free 3
        have f4 := h8.free 4
        have l0 := h8.lt
        have H1 := hid (h8.set 405 0 (.slice none 0 0) ⟨JG.toArray⟩ ⟨#[]⟩)
        obtain ⟨d0, d1, d2, d3, d4⟩ := H1.out.cells
        unfold setF at d0 d1 d2 d3 d4
        go_wp2
        refine bodyPost_ret (v := .tuple #[.agg #[.int .i64 405, .int .i64 0, (.slice none 0 0), .string ⟨JG.toArray⟩, .string ⟨#[]⟩], .int .i64 0]) (by simp [results, Tryz.results56, go_sem, d0, d1, d2, d3, d4]) rfl ?_
        exact ⟨⟨_, _, _, rfl, (by simp), rfl, World.ownsRow_nil _ _ _ _⟩, below_setF hB8 (Nat.le_refl _)⟩
      · have hR := HR.out
        rw [if_neg q1, if_neg q2, if_neg q3] at hR
        subst hR
        have hz : AG = [] := Classical.not_not.1 q3
        subst hz
        clear HR HLD HAL h4 h5 h6 oa
        obtain ⟨c0, c1, c2, c3, c4⟩ := h7.cells
        have f0 := h7.free 0
        have f1 := h7.free 1
        have f2 := h7.free 2
        have f3 := h7.free 3
        have f4 := h7.free 4
        have l0 := h7.lt
        have H1 := hid (h7.set 404 0 (.slice none 0 0) ⟨#[]⟩ ⟨#[]⟩)
        obtain ⟨d0, d1, d2, d3, d4⟩ := H1.out.cells
        unfold setF at d0 d1 d2 d3 d4
        go_wp2
        refine bodyPost_ret (v := .tuple #[.agg #[.int .i64 404, .int .i64 0, (.slice none 0 0), .string ⟨#[]⟩, .string ⟨#[]⟩], .int .i64 0]) (by simp [results, Tryz.results56, go_sem, d0, d1, d2, d3, d4]) rfl ?_
        exact ⟨⟨_, _, _, rfl, rfl, rfl, World.ownsRow_nil _ _ _ _⟩, below_setF hB7 (Nat.le_refl _)⟩
end Go.Proofs.YtbphabgjhoifbaaGreatDoor

/- A site of any configuration; what rests on a table's methods and patterns alone; the list of methods is short. -/
namespace Go.Proofs.YtbphabgjhoifbaaGreatDoor
open Go.RowKit

theorem new_any (hd bd : Int) (rs : List Rt) (ws : List Wr) (ar : Option Addr) (cr : Nat) (aw : Option Addr) (cw : Nat) (mx : Int) (w : World) (hR : MuAt 6 Rt.cells rs ar w) (hW : MuAt 4 Wr.cells ws aw w) (hro : ∀ r ∈ rs, RtOk r) (hwo : ∀ x ∈ ws, x.n.size ≤ 281474976710656 ∧ x.v.size ≤ 281474976710656) (hm : w.cell? ⟨1, 0, none⟩ = some (.int .i64 mx)) :
    Calls Tryz.prog 34 #[.agg #[.int .i64 hd, .int .i64 bd, .slice ar rs.length cr, .slice aw ws.length cw]] w (NwPost rs ws (cfgE hd bd rs ws) w) := by
  unfold cfgE
  cases h : decide (32 ≤ hd ∧ hd ≤ 500 ∧ 0 ≤ bd ∧ bd ≤ 200)
  · rw [if_pos rfl]
    exact (new_lim hd bd ar rs.length cr aw ws.length cw w h).mono fun x w' ⟨h1, h2⟩ => NwPost.err h1 (by simp) h2
  · rw [if_neg (by simp)]
    by_cases hf : 24 < rs.length ∨ 6 < ws.length
    · rw [if_pos hf]
      exact (new_full hd bd ar rs.length cr aw ws.length cw w h hf).mono fun x w' ⟨h1, h2⟩ => NwPost.err h1 (by simp) h2
    · rw [if_neg hf]
      exact new_main hd bd rs ws ar cr aw cw mx w h (by omega) (by omega) hR hW hro hwo hm
theorem methG_bare (l : List UInt8) (es : List Ent) : methG l (es.map Ent.bare) = methG l es := by
  unfold methG
  induction es with
  | nil => rfl
  | cons e r ih =>
    rw [List.map_cons, List.filter_cons, List.filter_cons]
    have : (matchB e.bare.ps (l.drop 1) true []).isSome = (matchB e.ps (l.drop 1) true []).isSome := rfl
    rw [this]
    split
    · rw [List.map_cons, List.map_cons, ih]; rfl
    · exact ih
theorem alwG_bare (l : List UInt8) (es : List Ent) : alwG l (es.map Ent.bare) = alwG l es := by
  unfold alwG methS; rw [methG_bare]
theorem otG_bare (m l : List UInt8) (es : List Ent) : otG m l (es.map Ent.bare) = otG m l es := by
  unfold otG; rw [leadG_bare]
theorem dspG_bare (m t : List UInt8) (es : List Ent) : dspG m t (es.map Ent.bare) = dspG m t es := by
  unfold dspG; rw [leadG_bare, otG_bare, alwG_bare]
theorem join_len (K : Nat) (sep : List UInt8) : ∀ (l : List (List UInt8)), (∀ x ∈ l, x.length ≤ K) → (Lib.join l sep).length ≤ l.length * (K + sep.length)
  | [], _ => by simp [Lib.join, List.intercalate]
  | [x], h => by
    have := h x (by simp)
    simp [Lib.join, List.intercalate]; omega
  | x :: y :: r, h => by
    have hx := h x (by simp)
    have ih := join_len K sep (y :: r) (fun z hz => h z (by simp [hz]))
    have e : Lib.join (x :: y :: r) sep = x ++ (sep ++ Lib.join (y :: r) sep) := by simp [Lib.join, List.intercalate, List.intersperse]
    rw [e]
    simp only [List.length_append, List.length_cons] at ih ⊢
    rw [Nat.succ_mul]
    omega
theorem alw_mem {l x : List UInt8} {es : List Ent} (h : x ∈ alwG l es) : x = hdL ∨ ∃ e ∈ es, x = e.m.data.toList := by
  have key : ∀ y, y ∈ methS l es → ∃ e ∈ es, y = e.m.data.toList := fun y hy => by
    unfold methS srt at hy
    rw [List.mem_mergeSort, List.mem_map] at hy
    obtain ⟨b, hb, rfl⟩ := hy
    unfold methG at hb
    rw [List.mem_map] at hb
    obtain ⟨e, he, rfl⟩ := hb
    exact ⟨e, (List.mem_filter.1 he).1, rfl⟩
  unfold alwG at h
  split at h
  · unfold srt at h
    rw [List.mem_mergeSort, List.mem_append] at h
    rcases h with h | h
    · exact .inr (key x h)
    · exact .inl (by simpa using h)
  · exact .inr (key x h)
theorem alw_join (l : List UInt8) (es : List Ent) (h : ∀ e ∈ es, e.m.size ≤ 1000) (hf : es.length ≤ 24) : (Lib.join (alwG l es) [44, 32]).length ≤ 100000 := by
  have h1 := join_len 1000 [44, 32] (alwG l es) (fun x hx => by
    rcases alw_mem hx with rfl | ⟨e, he, rfl⟩
    · decide
    · have := h e he
      have e2 : e.m.data.toList.length = e.m.size := by simp
      omega)
  have h2 := alwG_few l es
  have h3 : (alwG l es).length ≤ 25 := by omega
  have h4 : (alwG l es).length * (1000 + [44, 32].length) ≤ 25 * (1000 + [44, 32].length) := Nat.mul_le_mul_right _ h3
  simp at h4 h1
  omega
/- routes that are right have methods -/
theorem rts_meth : ∀ (rs : List Rt) (es : List Ent) (k : Nat), (rtsE rs es k).2 = 0 → ∀ r ∈ rs, Pm.isMethod r.m.data.toList = true
  | [], _, _, _, r, hr => absurd hr (by simp)
  | r :: rs, es, k, h, q, hq => by
    rw [rtsE] at h
    by_cases h0 : rtE es r = 0
    · rw [if_pos h0] at h
      rcases List.mem_cons.1 hq with rfl | hq
      · exact (rtE_in (.inl h0)).1
      · exact rts_meth rs _ _ h q hq
    · rw [if_neg h0] at h; exact absurd h h0
theorem cfg_ok {hd bd : Int} {rs : List Rt} {ws : List Wr} (h : (cfgE hd bd rs ws).2 = 0) : rs.length ≤ 24 ∧ ws.length ≤ 6 ∧ (rtsE rs [] 0).2 = 0 ∧ (wrsE ws 0).2 = 0 := by
  unfold cfgE at h
  by_cases h1 : decide (32 ≤ hd ∧ hd ≤ 500 ∧ 0 ≤ bd ∧ bd ≤ 200) = false
  · rw [if_pos h1] at h; simp at h
  · rw [if_neg h1] at h
    by_cases h2 : 24 < rs.length ∨ 6 < ws.length
    · rw [if_pos h2] at h; simp at h
    · rw [if_neg h2] at h
      by_cases h3 : (rtsE rs [] 0).2 = 0
      · rw [if_pos h3] at h; exact ⟨by omega, by omega, h3, h⟩
      · rw [if_neg h3] at h; exact absurd h h3
def pdG (hd bd : Int) (rs : List Rt) (ws : List Wr) (m t : List UInt8) : DsR :=
  if (cfgE hd bd rs ws).2 = 0 then dspG m t (rs.map rtBare) else ⟨0, 0, [], [], [], (cfgE hd bd rs ws).2⟩
end Go.Proofs.YtbphabgjhoifbaaGreatDoor
