/- Texts that follow one another, joined. -/
import Derived.Test.YtbiggccolpchcaaGreatDoorJoin19
/- To which route a method leads by a path. -/
namespace Go.Proofs.YtbiggccolpchcaaGreatDoor
open Go.RowKit

def hdL : List UInt8 := [72, 69, 65, 68]
def gtL : List UInt8 := [71, 69, 84]
theorem beq_head (m : ByteArray) : (m.toList == [72, 69, 65, 68]) = decide (m.data.toList = hdL) := by
  rw [ByteArray.toList_eq, Bool.eq_iff_iff, beq_iff_eq, decide_eq_true_iff]; rfl
theorem beq_get (m : ByteArray) : (m.toList == [71, 69, 84]) = decide (m.data.toList = gtL) := by
  rw [ByteArray.toList_eq, Bool.eq_iff_iff, beq_iff_eq, decide_eq_true_iff]; rfl
theorem beq_slash (m : ByteArray) : (m.toList == [47]) = decide (m.data.toList = [47]) := by
  rw [ByteArray.toList_eq, Bool.eq_iff_iff, beq_iff_eq, decide_eq_true_iff]
def leadG (m l : List UInt8) (es : List Ent) : Nat × List Prm × Int :=
  if (findG m l es 0).2.2 ≠ 0 ∧ m = hdL then findG gtL l es 0 else findG m l es 0
theorem findG_bare (m l : List UInt8) : ∀ (es : List Ent) (k : Nat), findG m l (es.map Ent.bare) k = findG m l es k
  | [], _ => rfl
  | e :: r, k => by
    rw [List.map_cons, findG, findG, findG_bare m l r (k + 1)]; rfl
theorem leadG_bare (m l : List UInt8) (es : List Ent) : leadG m l (es.map Ent.bare) = leadG m l es := by
  unfold leadG; simp only [findG_bare]
def LdPost (F : Nat × List Prm × Int) (w : World) (x : Ending) (w' : World) : Prop :=
  (∃ vv, x = .returned (.tuple #[.int .i64 F.1, vv, .bool (decide (F.2.2 = 0))]) ∧ w'.ownsRow w.heap.size 129 2 vv F.2.1.length (prCells F.2.1)) ∧ Below w.heap.size w w'
set_option maxRecDepth 100000 in
set_option maxHeartbeats 2000000 in
theorem lead_any (gs B : Nat) (es : List Ent) (v : Value) (m s : ByteArray) (w : World) (hT : TbAt gs 0 B es v w) (hp : Pm.isPath s.data.toList = true) (h1s : 1 ≤ s.size) (hs : s.size ≤ 140737488355328) :
    Calls Tryz.prog 203 #[.pointer (some ⟨gs, 0, none⟩), .string m, .string s] w (LdPost (leadG m.data.toList s.data.toList es) w) := by
  have lt0 := hT.lt
  have HF := hid (fun W (hW : Below w.heap.size w W) => tFind_any gs 0 B es v m s W (hT.below hW) hp h1s hs)
  have HF2 := hid (fun W (hW : Below w.heap.size w W) => tFind_any gs 0 B es v ⟨#[71, 69, 84]⟩ s W (hT.below hW) hp h1s hs)
  have hLG : leadG m.data.toList s.data.toList es = if (findG m.data.toList s.data.toList es 0).2.2 ≠ 0 ∧ m.data.toList = hdL then findG gtL s.data.toList es 0 else findG m.data.toList s.data.toList es 0 := rfl
  have hgl : (⟨#[71, 69, 84]⟩ : ByteArray).data.toList = gtL := rfl
  rw [hgl] at HF2
  generalize leadG m.data.toList s.data.toList es = LL at *
  generalize findG m.data.toList s.data.toList es 0 = FF at *
  generalize findG gtL s.data.toList es 0 = GG at *
  have HLG := hid hLG
  have hbe := beq_head m
  have hq : (LL.2.2 == 0) = decide (LL.2.2 = 0) := rfl
  clear hT hLG hgl
  go_enter Tryz.func203, Tryz.ntmps203
  go_wp2_with fail
  refine (HF.out _ (Below.refl _ _)).mono ?_
  rintro x w1 ⟨⟨vv, rfl, ow⟩, hb1⟩
  have HO := hid ow
  have lt1 : gs < w1.heap.size := Nat.lt_of_lt_of_le lt0 hb1.size
  clear ow HF
  by_cases h0 : FF.2.2 = 0
  · have hL : LL = FF := by rw [HLG.out, if_neg (fun h => h.1 h0)]
    subst hL
    clear HLG HF2
    go_wp2
    refine bodyPost_ret (v := .tuple #[.int .i64 LL.1, vv, .bool (decide (LL.2.2 = 0))]) (by simp [results, Tryz.results203, go_sem, h0]) rfl ?_
    exact ⟨⟨vv, rfl, HO.out⟩, hb1⟩
  · by_cases hh : m.data.toList = hdL
    · have hL : LL = GG := by rw [HLG.out, if_pos ⟨h0, hh⟩]
      subst hL
      rw [decide_eq_true hh] at hbe
      clear HLG HO
      go_wp2_with fail
      refine (HF2.out _ hb1).mono ?_
      rintro x w2 ⟨⟨vg, rfl, og⟩, hb2⟩
      have HO := hid (owns_base og hb1.size)
      have hB := bel_of hb1 hb2
      clear og
      go_wp2
      refine bodyPost_ret (v := .tuple #[.int .i64 LL.1, vg, .bool (decide (LL.2.2 = 0))]) (by simp [results, Tryz.results203, go_sem]) rfl ?_
      exact ⟨⟨vg, rfl, HO.out⟩, hB⟩
    · have hL : LL = FF := by rw [HLG.out, if_neg (fun h => hh h.2)]
      subst hL
      rw [decide_eq_false hh] at hbe
      clear HLG HF2
      go_wp2
      refine bodyPost_ret (v := .tuple #[.int .i64 LL.1, vv, .bool (decide (LL.2.2 = 0))]) (by simp [results, Tryz.results203, go_sem, h0]) rfl ?_
      exact ⟨⟨vv, rfl, HO.out⟩, hb1⟩
end Go.Proofs.YtbiggccolpchcaaGreatDoor

/- The other path, and whether a method leads to a route by it. -/
namespace Go.Proofs.YtbiggccolpchcaaGreatDoor
open Go.RowKit

namespace Pm
theorem unesc_slash : ∀ (n : Nat) (l : List UInt8), l.length ≤ n → (unesc (l ++ [47])).isSome = (unesc l).isSome
  | _, [], _ => rfl
  | _, [c], _ => by
    by_cases h : c = 37 <;> simp [unesc, h]
  | _, [c, a], _ => by
    by_cases h : c = 37
    · subst h
      have : digsB 16 [a, 47] = false := by
        have h47 : 16 ≤ dval 47 := by decide
        simp [digsB]
        intro _
        exact h47
      simp [unesc, this]
    · rw [List.cons_append, unesc_plain _ _ h, unesc_plain c [a] h]
      by_cases ha : a = 37 <;> simp [unesc, ha]
  | 0, c :: a :: b :: r, hn => by simp at hn
  | n + 1, c :: a :: b :: r, hn => by
    by_cases h : c = 37
    · subst h
      have ih := unesc_slash n r (by simp at hn; omega)
      simp only [List.cons_append, unesc, if_true]
      cases digsB 16 [a, b] <;> simp [ih]
    · have ih := unesc_slash n (a :: b :: r) (by simp at hn ⊢; omega)
      rw [List.cons_append, unesc_plain _ _ h, unesc_plain c (a :: b :: r) h]
      simpa using ih
end Pm
def otherL (l : List UInt8) : List UInt8 := if Lib.hasSuffix l [47] = true then l.take (l.length - 1) else l ++ [47]
theorem suffix_snoc {l : List UInt8} (h : Lib.hasSuffix l [47] = true) : ∃ r, l = r ++ [47] ∧ l.take (l.length - 1) = r := by
  unfold Lib.hasSuffix at h
  rw [List.isSuffixOf_iff_suffix] at h
  obtain ⟨r, rfl⟩ := h
  exact ⟨r, rfl, by simp⟩
theorem other_path {l : List UInt8} (h : Pm.isPath l = true) (h1 : l ≠ [47]) : Pm.isPath (otherL l) = true ∧ 1 ≤ (otherL l).length ∧ (otherL l).length ≤ l.length + 1 := by
  unfold Pm.isPath at h ⊢
  rw [Bool.and_eq_true] at h ⊢
  obtain ⟨h2, h3⟩ := h
  have hne : ∃ t, l = 47 :: t := by
    unfold Lib.hasPrefix at h3
    cases l with
    | nil => simp at h3
    | cons c t => simp at h3; exact ⟨t, by rw [h3]⟩
  obtain ⟨t, rfl⟩ := hne
  unfold otherL
  by_cases hs : Lib.hasSuffix (47 :: t) [47] = true
  · obtain ⟨r, hr, ht⟩ := suffix_snoc hs
    rw [if_pos hs, ht]
    rw [hr] at h2 h1
    rw [Pm.unesc_slash _ _ (Nat.le_refl _)] at h2
    have hl : (47 :: t).length = r.length + 1 := by rw [hr]; simp
    cases r with
    | nil => exact absurd rfl h1
    | cons c r' =>
      simp at hr
      obtain ⟨rfl, rfl⟩ := hr
      exact ⟨⟨h2, by simp [Lib.hasPrefix]⟩, by simp, by simp⟩
  · rw [if_neg hs, Pm.unesc_slash _ _ (Nat.le_refl _)]
    exact ⟨⟨h2, by simp [Lib.hasPrefix]⟩, by simp, by simp⟩
def otG (m l : List UInt8) (es : List Ent) : List UInt8 × Bool := if l = [47] then ([], false) else (otherL l, decide ((leadG m (otherL l) es).2.2 = 0))
def OtPost (F : List UInt8 × Bool) (w : World) (x : Ending) (w' : World) : Prop :=
  (∃ o : ByteArray, x = .returned (.tuple #[.string o, .bool F.2]) ∧ o.data.toList = F.1) ∧ Below w.heap.size w w'
theorem lead_as (gs B : Nat) (es : List Ent) (v : Value) (m o : ByteArray) (L : List UInt8) (ho : o.data.toList = L) (w : World) (hT : TbAt gs 0 B es v w) (hp : Pm.isPath L = true) (h1 : 1 ≤ L.length) (h2 : L.length ≤ 140737488355328) :
    Calls Tryz.prog 203 #[.pointer (some ⟨gs, 0, none⟩), .string m, .string o] w (LdPost (leadG m.data.toList L es) w) := by
  subst ho
  have e : o.data.toList.length = o.size := by simp
  exact lead_any gs B es v m o w hT hp (by omega) (by omega)
set_option maxRecDepth 100000 in
set_option maxHeartbeats 2000000 in
theorem leadOther_any (gs B : Nat) (es : List Ent) (v : Value) (m s : ByteArray) (w : World) (hT : TbAt gs 0 B es v w) (hp : Pm.isPath s.data.toList = true) (hs : s.size ≤ 140737488355000) :
    Calls Tryz.prog 204 #[.pointer (some ⟨gs, 0, none⟩), .string m, .string s] w (OtPost (otG m.data.toList s.data.toList es) w) := by
  have lt0 := hT.lt
  have hbe := beq_slash s
  have hsl : s.data.toList.length = s.size := by simp
  by_cases h1 : s.data.toList = [47]
  · have hG : otG m.data.toList s.data.toList es = ([], false) := if_pos h1
    rw [hG]
    rw [decide_eq_true h1] at hbe
    clear hG h1 hT
    go_enter Tryz.func204, Tryz.ntmps204
    go_wp2
    refine bodyPost_ret (v := .tuple #[.string ⟨#[]⟩, .bool false]) (by simp [results, Tryz.results204, go_sem]) rfl ?_
    exact ⟨⟨_, rfl, rfl⟩, Below.refl _ _⟩
  · have hG : otG m.data.toList s.data.toList es = (otherL s.data.toList, decide ((leadG m.data.toList (otherL s.data.toList) es).2.2 = 0)) := if_neg h1
    obtain ⟨ho1, ho2, ho3⟩ := other_path hp h1
    have HLD := hid (fun (o : ByteArray) (ho : o.data.toList = otherL s.data.toList) W (hW : Below w.heap.size w W) => lead_as gs B es v m o _ ho W (hT.below hW) ho1 ho2 (by omega))
    rw [hG]
    rw [decide_eq_false h1] at hbe
    have HCS := hid (fun W => Tryz.strings_CutSuffix s ⟨#[47]⟩ W (by omega))
    have hsep : (⟨#[47]⟩ : ByteArray).data.toList = [47] := rfl
    rw [hsep] at HCS
    cases hsf : Lib.hasSuffix s.data.toList [47]
    · have hot : otherL s.data.toList = s.data.toList ++ [47] := by unfold otherL; rw [hsf]; rfl
      have HOT : Hid ((s ++ (⟨#[47]⟩ : ByteArray)).data.toList = otherL s.data.toList) := by unfold Hid; rw [hot]; simp
      rw [hsf] at HCS
      generalize otherL s.data.toList = OL at *
      clear hT hG h1 ho1 hot hsep
      go_enter Tryz.func204, Tryz.ntmps204
      go_wp2_with fail
      refine (HCS.out _).mono ?_
      rintro x w1 ⟨rfl, rfl⟩
      go_wp2_with fail
      refine (HLD.out _ HOT.out _ (Below.refl _ _)).mono ?_
      rintro x w2 ⟨⟨vv, rfl, -⟩, hb2⟩
      generalize leadG m.data.toList OL es = LG at *
      go_wp2
      refine bodyPost_ret (v := .tuple #[.string (s ++ ⟨#[47]⟩), .bool (decide (LG.2.2 = 0))]) (by simp [results, Tryz.results204, go_sem]) rfl ?_
      exact ⟨⟨_, rfl, HOT.out⟩, hb2⟩
    · have hot : Lib.trimSuffix s.data.toList [47] = otherL s.data.toList := by unfold otherL Lib.trimSuffix; rw [hsf]; rfl
      rw [hsf, hot] at HCS
      generalize otherL s.data.toList = OL at *
      clear hT hG h1 ho1 hot hsep
      go_enter Tryz.func204, Tryz.ntmps204
      go_wp2_with fail
      refine (HCS.out _).mono ?_
      rintro x w1 ⟨rfl, rfl⟩
      go_wp2_with fail
      refine (HLD.out _ (by simp) _ (Below.refl _ _)).mono ?_
      rintro x w2 ⟨⟨vv, rfl, -⟩, hb2⟩
      generalize leadG m.data.toList OL es = LG at *
      go_wp2
      refine bodyPost_ret (v := .tuple #[.string ⟨OL.toArray⟩, .bool (decide (LG.2.2 = 0))]) (by simp [results, Tryz.results204, go_sem]) rfl ?_
      exact ⟨⟨_, rfl, by simp⟩, hb2⟩
def movG (m : List UInt8) : Int := if m = gtL ∨ m = hdL then 301 else 308
set_option maxRecDepth 100000 in
set_option maxHeartbeats 1000000 in
theorem moved_any (m : ByteArray) (w : World) :
    Calls Tryz.prog 205 #[.string m] w fun x w' => x = .returned (.int .i64 (movG m.data.toList)) ∧ Below w.heap.size w w' := by
  have hb1 := beq_get m
  have hb2 := beq_head m
  by_cases h1 : m.data.toList = gtL
  · rw [decide_eq_true h1] at hb1
    have hM : movG m.data.toList = 301 := if_pos (.inl h1)
    rw [hM]
    clear hb2
    go_enter Tryz.func205, Tryz.ntmps205
    go_wp2
    go_ret
    exact ⟨rfl, Below.refl _ _⟩
  · rw [decide_eq_false h1] at hb1
    by_cases h2 : m.data.toList = hdL
    · rw [decide_eq_true h2] at hb2
      have hM : movG m.data.toList = 301 := if_pos (.inr h2)
      rw [hM]
      go_enter Tryz.func205, Tryz.ntmps205
      go_wp2
      go_ret
      exact ⟨rfl, Below.refl _ _⟩
    · rw [decide_eq_false h2] at hb2
      have hM : movG m.data.toList = 308 := if_neg (fun h => h.elim h1 h2)
      rw [hM]
      go_enter Tryz.func205, Tryz.ntmps205
      go_wp2
      go_ret
      exact ⟨rfl, Below.refl _ _⟩
end Go.Proofs.YtbiggccolpchcaaGreatDoor

/- The methods that lead somewhere by a path. -/
namespace Go.Proofs.YtbiggccolpchcaaGreatDoor
open Go.RowKit

theorem own_strs {w : World} {B : Nat} {v : Value} {l : List (List UInt8)} (h : w.ownsRow B 9 1 v l.length (encs l)) : (v = .slice none 0 0 ∧ l = []) ∨ ∃ g cap, v = .slice (some ⟨g, 0, none⟩) l.length cap ∧ g < w.heap.size ∧ l.length ≤ cap ∧ ∀ j (hj : j < l.length), w.cell? ⟨g, j, none⟩ = some (.string ⟨l[j].toArray⟩) := by
  rcases h.2 with ⟨h2, h3⟩ | ⟨g, cap, cur, hv, hB, hg, hc, hm, hs, ht⟩
  · exact .inl ⟨h2, List.eq_nil_of_length_eq_zero h3⟩
  · refine .inr ⟨g, cap, hv, (Array.getElem?_eq_some_iff.1 hg).1, hc, fun j hj => ?_⟩
    rw [Lib.cell_of_heap hg]
    have e : (encs l)[j]? = some (.string ⟨l[j].toArray⟩) := by unfold encs; rw [List.getElem?_map, List.getElem?_eq_getElem hj]; rfl
    rw [← ht, List.getElem?_take] at e
    split at e
    · simpa using e
    · cases e
theorem containsS_iff (l : List (List UInt8)) (x : ByteArray) : Lib.containsS (l.map fun s => (⟨s.toArray⟩ : ByteArray)) x = decide (x.data.toList ∈ l) := by
  rw [Bool.eq_iff_iff, Lib.containsS_iff, decide_eq_true_iff, List.mem_map]
  constructor
  · rintro ⟨s, hs, rfl⟩; simpa using hs
  · intro h; exact ⟨_, h, rfl⟩
theorem contains_own (v : Value) (l : List (List UInt8)) (x : ByteArray) (B : Nat) (w : World) (h : w.ownsRow B 9 1 v l.length (encs l)) (hl : l.length ≤ 1000000) :
    Calls Tryz.prog 254 #[v, .string x] w fun e w' => e = .returned (.bool (decide (x.data.toList ∈ l))) ∧ w' = w := by
  rcases own_strs h with ⟨rfl, rfl⟩ | ⟨g, cap, rfl, hg, hc, hce⟩
  · exact (Tryz.slices_Contains_string_empty none 0 x w).mono fun e w' ⟨h1, h2⟩ => ⟨by rw [h1]; simp, h2⟩
  · refine (Tryz.slices_Contains_string g 0 l.length cap (l.map fun s => (⟨s.toArray⟩ : ByteArray)) x w (by simp) (by omega) (fun j hj => ?_)).mono fun e w' ⟨h1, h2⟩ => ⟨?_, h2⟩
    · rw [List.length_map] at hj
      rw [Nat.zero_add, hce j hj]
      simp [List.getD, hj]
    · rw [h1, List.take_of_length_le (by simp), containsS_iff]
def alwG (l : List UInt8) (es : List Ent) : List (List UInt8) := if gtL ∈ methS l es ∧ hdL ∉ methS l es then srt (methS l es ++ [hdL]) else methS l es
theorem join_own (v : Value) (l : List (List UInt8)) (sep : ByteArray) (B : Nat) (w : World) (h : w.ownsRow B 9 1 v l.length (encs l)) (hl : l.length ≤ 1000000) (hj : (Lib.join l sep.data.toList).length ≤ 140737488355328) :
    Calls Tryz.prog 207 #[v, .string sep] w fun e w' => e = .returned (.string ⟨(Lib.join l sep.data.toList).toArray⟩) ∧ Below w.heap.size w w' := by
  have hml : (l.map fun s => (⟨s.toArray⟩ : ByteArray)).map (·.data.toList) = l := by rw [List.map_map]; simp [Function.comp_def]
  rcases own_strs h with ⟨rfl, rfl⟩ | ⟨g, cap, rfl, hg, hc, hce⟩
  · exact (Tryz.strings_Join_none none 0 sep w).mono fun e w' ⟨h1, h2⟩ => ⟨h1, by rw [h2]; exact Below.refl _ _⟩
  · have H := Tryz.strings_Join g 0 cap (l.map fun s => (⟨s.toArray⟩ : ByteArray)) sep w (fun j x hx => by
      rw [List.getElem?_map] at hx
      have hjl : j < l.length := by
        rcases Nat.lt_or_ge j l.length with q | q
        · exact q
        · rw [List.getElem?_eq_none q] at hx; cases hx
      rw [List.getElem?_eq_getElem hjl] at hx
      rw [Nat.zero_add, hce j hjl]
      simpa using hx) hg (by rw [List.length_map]; omega) (by rw [List.length_map]; exact hc) (by rw [hml]; exact hj)
    rw [hml, List.length_map] at H
    exact H
theorem methS_few (l : List UInt8) (es : List Ent) : (methS l es).length ≤ es.length := by
  rw [methS_len]
  have := methG_len l es es.length
  rw [List.take_length] at this
  exact this
set_option maxRecDepth 100000 in
set_option maxHeartbeats 2000000 in
theorem allowed_any (gs B : Nat) (es : List Ent) (v : Value) (s : ByteArray) (w : World) (hT : TbAt gs 0 B es v w) (hp : Pm.isPath s.data.toList = true) (h1s : 1 ≤ s.size) (hs : s.size ≤ 140737488355328) :
    Calls Tryz.prog 206 #[.pointer (some ⟨gs, 0, none⟩), .string s] w fun x w' => (∃ vv, x = .returned vv ∧ w'.ownsRow w.heap.size 9 1 vv (alwG s.data.toList es).length (encs (alwG s.data.toList es))) ∧ Below w.heap.size w w' := by
  obtain ⟨i0, hi, hz0, hz1, hz2⟩ := info_parts Tryz.info9
  have lt0 := hT.lt
  have hfw := hT.few
  have hms := methS_few s.data.toList es
  have HM := hid (tMethods_all gs 0 B es v s w hT hp h1s hs)
  have HAL : Hid (alwG s.data.toList es = if gtL ∈ methS s.data.toList es ∧ hdL ∉ methS s.data.toList es then srt (methS s.data.toList es ++ [hdL]) else methS s.data.toList es) := rfl
  generalize alwG s.data.toList es = AL at *
  generalize methS s.data.toList es = MS at *
  clear hT
  go_enter Tryz.func206, Tryz.ntmps206
  go_wp2_with fail
  refine HM.out.mono ?_
  rintro x w1 ⟨⟨vv, rfl, ow⟩, hb1⟩
  have HC1 := hid (contains_own vv MS ⟨#[71, 69, 84]⟩ w.heap.size w1 ow (by omega))
  have HC2 := hid (contains_own vv MS ⟨#[72, 69, 65, 68]⟩ w.heap.size w1 ow (by omega))
  have e1 : (decide ((⟨#[71, 69, 84]⟩ : ByteArray).data.toList ∈ MS)) = decide (gtL ∈ MS) := rfl
  have e2 : (decide ((⟨#[72, 69, 65, 68]⟩ : ByteArray).data.toList ∈ MS)) = decide (hdL ∈ MS) := rfl
  rw [e1] at HC1
  rw [e2] at HC2
  have HO := hid ow
  have hsl : ∃ a c, vv = .slice a MS.length c := sl_of ow
  obtain ⟨a, c, rfl⟩ := hsl
  clear HM ow e1 e2
  go_wp2_with fail
  refine HC1.out.mono ?_
  rintro x w2 ⟨rfl, rfl⟩
  by_cases hg : gtL ∈ MS
  · by_cases hh : hdL ∈ MS
    · have hA : AL = MS := by rw [HAL.out, if_neg (fun q => q.2 hh)]
      subst hA
      rw [decide_eq_true hg] at *
      rw [decide_eq_true hh] at HC2
      clear HAL HC1
      go_wp2_with fail
      refine HC2.out.mono ?_
      rintro x w3 ⟨rfl, rfl⟩
      go_wp2
      go_ret
      exact ⟨⟨_, rfl, HO.out⟩, hb1⟩
    · have hA : AL = srt (MS ++ [hdL]) := by rw [HAL.out, if_pos ⟨hg, hh⟩]
      rw [decide_eq_true hg] at *
      rw [decide_eq_false hh] at HC2
      clear HAL HC1
      go_wp2_with fail
      refine HC2.out.mono ?_
      rintro x w3 ⟨rfl, rfl⟩
      have o2 := HO.out
      go_wp2_with (at_builtin; refine wpList_append_own _ rfl _ _ 99 rfl w.heap.size 9 i0 (.string ⟨#[]⟩) 1 16 Tryz.underlying99 hi hz0 hz1 hz2 rfl (by decide) _ _ _ rfl (o2.alloc _) ⟨w3.heap.size, 0, none⟩ 1 1 [.string ⟨#[72, 69, 65, 68]⟩] rfl rfl ?c1 ?c2 ?c3 ?c4 ?c5 ?_)
      case c1 =>
        intro j u hj
        match j, hj with
        | 0, hj => simp at hj; subst hj; simp [Addr.add]
      case c2 => intro u hu; simp at hu; subst hu; rfl
      case c3 => unfold maxLen; omega
      case c4 => omega
      case c5 => have := hb1.size; simp; omega
      intro v' w4 hown' hgrow _
      have hb4 : Below w.heap.size w w4 := (hb1.alloc hb1.size _).grown hgrow (by have := hb1.size; simp; omega) (own_ge o2)
      have hown2 : w4.ownsRow w.heap.size 9 1 v' (MS ++ [hdL]).length (encs (MS ++ [hdL])) := by
        have e : encs (MS ++ [hdL]) = encs MS ++ [.string ⟨#[72, 69, 65, 68]⟩] := by unfold encs; rw [List.map_append]; rfl
        rw [e, List.length_append]; exact hown'
      have HS := hid (sort_own v' (MS ++ [hdL]) w.heap.size w4 hown2 (by rw [List.length_append]; simp; omega))
      rw [← hA] at HS
      have hle : AL.length = (MS ++ [hdL]).length := by rw [hA, srt_len]
      rw [← hle] at HS
      have HW := hid hown2
      clear hown' hown2 hgrow HC2 hA
      go_wp2_with fail
      refine HS.out.mono ?_
      rintro x w5 ⟨rfl, ho5, hg5⟩
      have hb5 : Below w.heap.size w w5 := hb4.grown hg5 hb4.size (own_ge HW.out)
      have HO5 := hid ho5
      clear ho5 hg5 HS HW
      go_wp2
      go_ret
      exact ⟨⟨_, rfl, HO5.out⟩, hb5⟩
  · have hA : AL = MS := by rw [HAL.out, if_neg (fun q => hg q.1)]
    subst hA
    rw [decide_eq_false hg] at *
    clear HAL HC1 HC2
    go_wp2
    go_ret
    exact ⟨⟨_, rfl, HO.out⟩, hb1⟩
end Go.Proofs.YtbiggccolpchcaaGreatDoor
