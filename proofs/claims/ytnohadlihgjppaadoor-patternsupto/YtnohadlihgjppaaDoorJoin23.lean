/- Texts that follow one another, joined. -/
import Derived.Test.YtnohadlihgjppaaDoorJoin22
import Derived.Test.YtnohadlihgjppaaDoorJoin11
import Derived.Test.YtnohadlihgjppaaDoorJoin03
/- The reference's values of the fields that are named alike, in new memory; nothing old in memory turns. -/
namespace Go.Proofs.YtnohadlihgjppaaDoor
open Go.RowKit

end Go.Proofs.YtnohadlihgjppaaDoor

/- The reference's Pieces, in new memory; nothing old in memory turns. -/
namespace Go.Proofs.YtnohadlihgjppaaDoor
open Go.RowKit

def pcs (l : List UInt8) : List (List UInt8) := if l = [] then [] else Lib.split (l.drop 1) [47]
theorem pcs_step {l : List UInt8} (h : l ≠ []) : pcs l = Pm.ahead 47 (l.drop 1) :: pcs (Pm.behind 47 (l.drop 1)) := by
  rw [pcs, if_neg h]
  rcases Pm.behind_cases 47 (l.drop 1) with hb | ⟨r, hb⟩
  · rw [Pm.split_none hb, hb, pcs, if_pos rfl, (Pm.index_no hb).2]
  · rw [Pm.split_some hb, hb, pcs, if_neg (by simp)]; rfl
theorem behind_le (c : UInt8) (l : List UInt8) : (Pm.behind c l).length ≤ l.length := by
  have h := congrArg List.length (Pm.ahead_behind c l)
  rw [List.length_append] at h; omega
def szOf : Value → Nat
  | .string b => b.size
  | _ => 0
theorem data_ne {s : ByteArray} (h : 0 < s.size) : s.data.toList ≠ [] := fun h' => by
  have hl : s.data.toList.length = s.size := by simp
  rw [h'] at hl; simp at hl; omega

set_option maxRecDepth 100000 in
set_option maxHeartbeats 1000000 in
theorem rPieces_any (s : ByteArray) (w : World) (hs : s.size ≤ 4398046511104) :
    Calls Tryd.prog 52 #[.string s] w fun e w' => (∃ (v : Value) (ts : List ByteArray), e = .returned v ∧ w'.ownsRow w.heap.size 9 1 v ts.length (ts.map Value.string) ∧ ts.map (·.data.toList) = pcs s.data.toList) ∧ Below w.heap.size w w' := by
  obtain ⟨i0, hi, hz0, hz1, hz2⟩ := info_parts Tryd.info9
  by_cases h0 : 0 < s.size
  · have he := empt_cons h0
    generalize hPS : pcs s.data.toList = PS
    have HPS := hid hPS
    clear hPS
    go_enter Tryd.func52, Tryd.ntmps52
    go_wp2
    go_loopw [3, 4, 5, 6] (fun v r _ _ wr => ∃ (ts : List ByteArray) (rs : ByteArray), r = .string rs ∧ ts.length + rs.size ≤ s.size ∧ wr.ownsRow w.heap.size 9 1 v ts.length (ts.map Value.string) ∧ Hid (ts.map (·.data.toList) ++ pcs rs.data.toList = PS) ∧ Below w.heap.size w wr) (fun _ r _ _ _ => szOf r)
    case atStart => exact ⟨[], s, rfl, by simp, World.ownsRow_nil _ _ _ _, HPS, Below.refl _ _⟩
    case round =>
      obtain ⟨ts, rs, rfl, hle, ow, H, hbw⟩ := hrel
      clear he h0
      by_cases h1 : 0 < rs.size
      · have he1 := empt_cons h1
        rw [pcs_step (data_ne h1)] at H
        have hex : (rs.extract 1 rs.size).data.toList = rs.data.toList.drop 1 := by rw [Lib.extract_data, List.take_of_length_le (by simp)]
        rw [← hex] at H
        have hez : (rs.extract 1 rs.size).size = rs.size - 1 := by simp
        have HA := hid (fun W => rAhead_any (rs.extract 1 rs.size) 47 W (by unfold maxLen; omega))
        clear hex
        go_wp2_with fail
        refine (HA.out _).mono ?_
        rintro e w2 ⟨⟨a, b, rfl, ha, hb⟩, hb2⟩
        have hbl : b.size ≤ rs.size - 1 := by
          have h := behind_le 47 (rs.extract 1 rs.size).data.toList
          rw [← hb] at h; simp at h; omega
        rw [← ha, ← hb] at H
        have hB2 := bel_of hbw hb2
        have ow2 := owns_below ow hb2
        have hbs := hB2.size
        clear HA ha hb hez
        go_wp2_with (at_builtin; refine wpList_append_own _ rfl _ _ 77 rfl w.heap.size 9 i0 (.string ⟨#[]⟩) 1 16 Tryd.underlying77 hi hz0 hz1 hz2 rfl (by decide) _ _ _ rfl (ow2.alloc _) ⟨w2.heap.size, 0, none⟩ 1 1 [.string a] rfl rfl ?c1 ?c2 ?c3 ?c4 ?c5 ?_)
        case c1 =>
          intro j u hj
          match j, hj with
          | 0, hj => simp at hj; subst hj; simp [Addr.add]
        case c2 => intro u hu; simp at hu; subst hu; rfl
        case c3 => unfold maxLen; omega
        case c4 => omega
        case c5 => simp; omega
        intro v' w3 hown' hgrow _
        have hb3 : Below w.heap.size w w3 := (hB2.alloc hB2.size _).grown hgrow (by simp; omega) (own_ge ow2)
        clear hgrow
        go_wp2
        refine ⟨⟨ts ++ [a], b, rfl, by simp; omega, ?_, ?_, hb3⟩, by simp [szOf]; omega⟩
        · rw [List.length_append, List.map_append]
          exact hown'
        · unfold Hid; rw [List.map_append, List.append_assoc]; exact H.out
      · have he1 := empt_nil h1
        rw [toList_nil h1, pcs, if_pos rfl, List.append_nil] at H
        go_wp2
        go_ret
        exact ⟨⟨_, ts, rfl, ow, H.out⟩, hbw⟩
  · have he := empt_nil h0
    have HN : Hid (([] : List ByteArray).map (·.data.toList) = pcs s.data.toList) := by unfold Hid; rw [toList_nil h0]; rfl
    go_enter Tryd.func52, Tryd.ntmps52
    go_wp2
    go_ret
    exact ⟨⟨_, [], rfl, World.ownsRow_nil _ _ _ _, HN.out⟩, Below.refl _ _⟩
end Go.Proofs.YtnohadlihgjppaaDoor
