/- Texts that follow one another, joined. -/
import Derived.Test.YtfdhmeojkagokaaGreatDoorJoin18
import Derived.Test.YtfdhmeojkagokaaGreatDoorJoin03
import Derived.Test.YtfdhmeojkagokaaGreatDoorJoin00
import Derived.Test.YtfdhmeojkagokaaGreatDoorJoin02
import Derived.Test.YtfdhmeojkagokaaGreatDoorJoin04
import Derived.Lib.ItoaMem
import Derived.Test.YtfdhmeojkagokaaGreatDoorJoin05
import Derived.Lib.AppendIntMem
import Derived.Deep.Cut
/- The reference's Number, at bases ten and sixteen; nothing old in memory turns. -/
namespace Go.Proofs.YtfdhmeojkagokaaGreatDoor
open Go.RowKit

def hexD : ByteArray := ⟨#[48, 49, 50, 51, 52, 53, 54, 55, 56, 57, 97, 98, 99, 100, 101, 102]⟩
theorem wrap64_nat {x : Nat} (h : x ≤ 9223372036854775807) : wrap64 (x : Int) = (x : Int) := by
  unfold wrap64; omega
theorem hexD_at : ∀ k : Nat, k < 16 → (hexD.extract k (k + 1)) = ⟨#[digC k]⟩ := by decide
theorem ret_strL {a : ByteArray} {l : List UInt8} (h : a.data.toList = l) : Ending.returned (.string a) = .returned (.string ⟨l.toArray⟩) := by
  congr 2; apply ByteArray.ext; rw [← h]
set_option maxHeartbeats 1000000 in
theorem rNumber_nat (b : Nat) (hb : 2 ≤ b) (hb2 : b ≤ 16) (n : Nat) : ∀ (w : World), n ≤ 9223372036854775807 →
    Calls Tryz.prog 51 #[.int .i64 n, .int .i64 b] w fun e w' => e = .returned (.string ⟨(natT b n).toArray⟩) ∧ Below w.heap.size w w' := by
  induction n using Nat.strongRecOn with
  | _ n ih =>
    intro w hn
    by_cases h : n < b
    · have HX := hid (hexD_at n (by omega))
      have HN := hid (natT_small h)
      unfold hexD at HX
      clear ih
      go_enter Tryz.func51, Tryz.ntmps51
      go_wp2
      go_ret
      refine ⟨ret_strL ?_, Below.refl _ _⟩
      rw [HN.out, HX.out]
    · have hle := Nat.div_le_self n b
      have IH := hid (fun W => ih (n / b) (Nat.div_lt_self (by omega) (by omega)) W (by omega))
      have HN := hid (natT_big hb h)
      have hlen := natT_le (b := b) (u := n / b) hb (by omega)
      have hm : n % b < 16 := Nat.lt_of_lt_of_le (Nat.mod_lt _ (by omega)) hb2
      have HX := hid (hexD_at (n % b) hm)
      have hq : wrap64 ((n : Int) / (b : Int)) = ((n / b : Nat) : Int) := by
        rw [← Int.natCast_ediv]; exact wrap64_nat (by omega)
      have hr : ((n : Int) % (b : Int)) = ((n % b : Nat) : Int) := by rw [Int.natCast_emod]
      unfold hexD at HX
      generalize n / b = q at *
      generalize n % b = r at *
      clear ih
      go_enter Tryz.func51, Tryz.ntmps51
      go_wp2_with fail
      refine (IH.out _).mono ?_
      rintro e w1 ⟨rfl, hb1⟩
      generalize hT : (⟨(natT b q).toArray⟩ : ByteArray) = T
      have hTd : T.data.toList = natT b q := by rw [← hT]
      have hTz : T.size ≤ 64 := by
        have : T.data.toList.length = T.size := by simp
        rw [hTd] at this; omega
      have HTD := hid hTd
      have hr3 : wrap64 ((r : Int) + 1) = (r : Int) + 1 := by unfold wrap64; omega
      clear IH hT hTd hlen hq
      go_wp2
      go_ret
      refine ⟨ret_strL ?_, hb1⟩
      rw [HN.out, ByteArray.data_append, Array.toList_append, HTD.out, HX.out]
end Go.Proofs.YtfdhmeojkagokaaGreatDoor

/- Reason, the program's and the reference's: both answer the words of the status. -/
namespace Go.Proofs.YtfdhmeojkagokaaGreatDoor
open Go.RowKit

theorem ret_str {a b : ByteArray} (h : a = b) : Ending.returned (.string a) = .returned (.string b) := by rw [h]

end Go.Proofs.YtfdhmeojkagokaaGreatDoor

/- The program's Render and what it calls; nothing old in memory turns. -/
namespace Go.Proofs.YtfdhmeojkagokaaGreatDoor
open Go.RowKit

end Go.Proofs.YtfdhmeojkagokaaGreatDoor

/- The program's Render: the bytes that the plain mathematics tells; nothing old in memory turns. -/
namespace Go.Proofs.YtfdhmeojkagokaaGreatDoor
open Go.RowKit

abbrev Pr2 := ByteArray × ByteArray
def FoAt (fs : List Pr2) (a : Option Addr) (w : World) : Prop :=
  ∀ i (h : i < fs.length), ∃ g o, a = some ⟨g, o, none⟩ ∧ g < w.heap.size ∧ w.cell? ⟨g, o + i * 2, none⟩ = some (.string fs[i].1) ∧ w.cell? ⟨g, o + i * 2 + 1, none⟩ = some (.string fs[i].2)
theorem FoAt.below {fs : List Pr2} {a : Option Addr} {w w' : World} (h : FoAt fs a w) (hb : Below w.heap.size w w') : FoAt fs a w' := fun i hi => by
  obtain ⟨g, o, h1, h2, h3, h4⟩ := h i hi
  exact ⟨g, o, h1, Nat.lt_of_lt_of_le h2 hb.size, cell_later hb h3, cell_later hb h4⟩
/- the answer's block -/
def AnAt (g : Nat) (st : Int) (v : Value) (body : ByteArray) (cl : Bool) (w : World) : Prop := w.heap[g]? = some (.cells #[.int .i64 st, v, .string body, .bool cl] 44 (0, 0))
theorem AnAt.below {g : Nat} {st : Int} {v : Value} {body : ByteArray} {cl : Bool} {w w' : World} (h : AnAt g st v body cl w) {B : Nat} (hb : Below B w w') (hg : g < B) : AnAt g st v body cl w' := by
  unfold AnAt at *; rw [hb.block g hg]; exact h
theorem AnAt.cells {g : Nat} {st : Int} {v : Value} {body : ByteArray} {cl : Bool} {w : World} (h : AnAt g st v body cl w) : w.cell? ⟨g, 0, none⟩ = some (.int .i64 st) ∧ w.cell? ⟨g, 1, none⟩ = some v ∧ w.cell? ⟨g, 2, none⟩ = some (.string body) ∧ w.cell? ⟨g, 3, none⟩ = some (.bool cl) := by
  refine ⟨?_, ?_, ?_, ?_⟩ <;> (rw [Lib.cell_of_heap h]; rfl)
theorem AnAt.lt {g : Nat} {st : Int} {v : Value} {body : ByteArray} {cl : Bool} {w : World} (h : AnAt g st v body cl w) : g < w.heap.size := by
  rcases Nat.lt_or_ge g w.heap.size with h' | h'
  · exact h'
  · unfold AnAt at h; simp [Array.getElem?_eq_none h'] at h

end Go.Proofs.YtfdhmeojkagokaaGreatDoor
