/- The reference's head: method, target, fields, where it ends, the error, as the plain mathematics says; nothing old in memory turns. -/
import Derived.Test.YtnohadlihgjppaaGreatDoorRefD
import Derived.Test.YtnohadlihgjppaaGreatDoorRefF
namespace Go.Proofs.YtnohadlihgjppaaGreatDoor
open Go.RowKit

structure RInv (w : World) (hd : Nat) (s : ByteArray) (H : Pm.HeadR) (gq g u : Nat) (m t : List UInt8) (fs : List Pm.Fld) (v : Value) (wr : World) : Prop where
  u1 : u ≤ hd
  g1 : hd - u + 1 ≤ g
  k1 : u ≤ s.size
  n1 : fs.length ≤ u
  eq : Pm.headS g false (s.data.toList.drop u) (hd - u) m t fs u = H
  rb : RqB w.heap.size [] [] (.slice none 0 0) wr
  qb : RqB gq m t v wr
  ow : wr.ownsRow (gq + 1) 61 2 v fs.length (flat fs)
  sz : gq + 1 ≤ wr.heap.size
  bl : Below w.heap.size w wr

set_option maxRecDepth 100000 in
set_option maxHeartbeats 2000000 in
theorem rhead_any (s : ByteArray) (hd : Nat) (w : World) (hs : s.size ≤ 1152921504606846976) (hh : hd ≤ 500) :
    Calls Tryz.prog 25 #[.string s, .int .i64 hd] w fun r w' =>
      (∃ v, r = .returned (.tuple #[.agg #[.string ⟨(Pm.headS (hd + 1) true s.data.toList hd [] [] [] 0).2.1.toArray⟩, .string ⟨(Pm.headS (hd + 1) true s.data.toList hd [] [] [] 0).2.2.1.toArray⟩, v, .string ⟨#[]⟩], .int .i64 (Pm.headS (hd + 1) true s.data.toList hd [] [] [] 0).2.2.2.2, .int .i64 (Pm.headS (hd + 1) true s.data.toList hd [] [] [] 0).1]) ∧ w'.ownsRow w.heap.size 61 2 v (Pm.headS (hd + 1) true s.data.toList hd [] [] [] 0).2.2.2.1.length (flat (Pm.headS (hd + 1) true s.data.toList hd [] [] [] 0).2.2.2.1)) ∧ Below w.heap.size w w' := by
  obtain ⟨i0, hi, hz0, hz1, hz2⟩ := info_parts Tryz.info36
  have hsm : s.size ≤ maxLen := by unfold maxLen; omega
  have HH := hid (headS_succ hd true s.data.toList hd [] [] [] 0)
  have HLF := hid (fun W => rline_any s 0 hd 5 W hsm (Nat.zero_le _) (Nat.zero_le _) (by omega))
  rw [List.drop_zero, Nat.sub_zero] at HLF
  have hok := hid (Pm.lineS_ok (l := s.data.toList) (lim := hd) (long := 5) (by omega))
  generalize hHH : Pm.headS (hd + 1) true s.data.toList hd [] [] [] 0 = H at *
  clear hHH
  generalize hLL : Pm.lineS s.data.toList hd 5 = L at *
  clear hLL
  have hA := (Below.refl w.heap.size w).alloc (Nat.le_refl _) (.cells #[.string ⟨#[]⟩, .string ⟨#[]⟩, .slice none 0 0, .string ⟨#[]⟩] 36)
  have q0 : RqB w.heap.size [] [] (.slice none 0 0) (w.alloc (.cells #[.string ⟨#[]⟩, .string ⟨#[]⟩, .slice none 0 0, .string ⟨#[]⟩] 36)) := heap_alloc_new w _
  go_enter Tryz.func25, Tryz.ntmps25
  go_wp2_with fail
  refine (HLF.out _).mono ?_
  rintro e w1 ⟨rfl, hb1⟩
  have hB1 := bel_of hA hb1
  have q1 := q0.below hb1
  generalize hlb : (⟨L.2.1.toArray⟩ : ByteArray) = lb
  have hld : lb.data.toList = L.2.1 := by rw [← hlb]
  clear hlb HLF hA hb1 q0
  rw [← hld] at hok HH
  by_cases h1 : L.1 = 0
  · obtain ⟨o1, o2, o3, o4⟩ := hok.out h1
    have o5 : L.2.2 ≤ s.size := by simpa using o3
    have hls : lb.size ≤ maxLen := by
      have : lb.data.toList.length = lb.size := by simp
      unfold maxLen; omega
    rw [if_neg (by simp [h1]), if_pos trivial] at HH
    rw [h1]
    have HF := hid (fun W => rfirst_any lb W hls)
    generalize Pm.firstS lb.data.toList = P at *
    go_wp2_with fail
    refine (HF.out _).mono ?_
    rintro e w2 ⟨rfl, hb2⟩
    have hB2 := bel_of hB1 hb2
    have q2 := q1.below hb2
    have sz2 := q2.lt
    clear HF hB1 q1 hb2 hls
    by_cases h2 : P.1 = 0
    · rw [if_neg (by simp [h2])] at HH
      rw [h2]
      have hA3 := (Below.refl w2.heap.size w2).alloc (Nat.le_refl _) (.cells #[.string ⟨P.2.1.toArray⟩, .string ⟨P.2.2.toArray⟩, .slice none 0 0, .string ⟨#[]⟩] 36)
      have qq : RqB w2.heap.size P.2.1 P.2.2 (.slice none 0 0) (w2.alloc (.cells #[.string ⟨P.2.1.toArray⟩, .string ⟨P.2.2.toArray⟩, .slice none 0 0, .string ⟨#[]⟩] 36)) := heap_alloc_new w2 _
      have q3 := q2.below hA3
      have hB3 := bel_of hB2 hA3
      have hbg : w.heap.size < w2.heap.size := sz2
      clear hA3 q2 hB2
      go_wp2_with fail
      have szq : w2.heap.size + 1 ≤ (w2.alloc (.cells #[.string ⟨P.2.1.toArray⟩, .string ⟨P.2.2.toArray⟩, .slice none 0 0, .string ⟨#[]⟩] 36)).heap.size := by simp
      generalize w2.alloc (.cells #[.string ⟨P.2.1.toArray⟩, .string ⟨P.2.2.toArray⟩, .slice none 0 0, .string ⟨#[]⟩] 36) = w3 at *
      generalize w2.heap.size = gq at *
      have I0 : RInv w hd s H gq hd L.2.2 P.2.1 P.2.2 [] (.slice none 0 0) w3 := { u1 := o2, g1 := by omega, k1 := o5, n1 := by simp, eq := by rw [HH.out, Nat.zero_add], rb := q3, qb := qq, ow := World.ownsRow_nil _ _ _ _, sz := szq, bl := hB3 }
      clear HH qq q3 hB3 szq
      go_loopw [7, 8, 9, 11, 12] (fun _ at_ _ _ _ wr => ∃ (g u : Nat) (fs : List Pm.Fld) (v : Value), at_ = .int .i64 (u : Int) ∧ RInv w hd s H gq g u P.2.1 P.2.2 fs v wr) (fun _ at_ _ _ _ _ => hd - (intOf at_).toNat)
      case atStart => exact ⟨hd, L.2.2, [], _, rfl, I0⟩
      case round =>
        clear I0 o1 o2 o3 o4 o5 h1 hok hld h2 sz2
        obtain ⟨g, u, fs, v, rfl, I⟩ := hrel
        obtain ⟨av, nv, cv, rfl⟩ := owns_form I.ow
        have i1 := I.u1
        have i2 := I.g1
        have i3 := I.k1
        have i5 := I.n1
        obtain ⟨g, rfl⟩ : ∃ g', g = g' + 1 := ⟨g - 1, by omega⟩
        have HE : Hid _ := I.eq.symm.trans (headS_succ g _ _ _ _ _ _ _)
        have HLN := hid (rline_any s u hd 5 wr hsm i3 i1 (by omega))
        have hok2 := hid (Pm.lineS_ok (l := s.data.toList.drop u) (lim := hd - u) (long := 5) (by omega))
        generalize hLL : Pm.lineS (s.data.toList.drop u) (hd - u) 5 = M at *
        clear hLL
        go_wp2_with fail
        refine HLN.out.mono ?_
        rintro e w4 ⟨rfl, hb4⟩
        have rb4 := I.rb.below hb4
        have qb4 := I.qb.below hb4
        have ow4 := owns_below I.ow hb4
        have sz4 : gq + 1 ≤ w4.heap.size := Nat.le_trans I.sz hb4.size
        have hB4 := bel_of I.bl hb4
        generalize hlb : (⟨M.2.1.toArray⟩ : ByteArray) = mb
        have hmd : mb.data.toList = M.2.1 := by rw [← hlb]
        rw [← hmd] at hok2 HE
        clear hlb HLN hb4 I
        by_cases h1 : M.1 = 0
        · obtain ⟨o1, o2, o3, o4⟩ := hok2.out h1
          have o5 : M.2.2 ≤ s.size - u := by simpa using o3
          rw [if_neg (by simp [h1]), if_neg (by simp)] at HE
          rw [h1]
          by_cases h2 : mb.data.toList = []
          · rw [if_pos h2] at HE
            have he : mb.toList.isEmpty = true := by rw [ByteArray.toList_eq, h2]; rfl
            obtain ⟨c0, c1, c2, c3⟩ := rb4.cells
            have d0 := rb4.free 0
            have d1 := rb4.free 1
            have d2 := rb4.free 2
            have d3 := rb4.free 3
            obtain ⟨z0, z1, z2, z3⟩ := qb4.cells
            have BL := hid hB4
            have OW := hid ow4
            clear h2 rb4 qb4 ow4 hB4
            go_wp2
            refine bodyPost_ret (v := .tuple #[.agg #[.string ⟨P.2.1.toArray⟩, .string ⟨P.2.2.toArray⟩, .slice av nv cv, .string ⟨#[]⟩], .int .i64 ((u : Int) + (M.2.2 : Int)), .int .i64 0]) (by simp [results, Tryz.results25, go_sem, c0, c1, c2, c3]) rfl ?_
            rw [HE.out]
            refine ⟨⟨_, rfl, ?_⟩, (((BL.out.setCell (Nat.le_refl _) _).setCell (Nat.le_refl _) _).setCell (Nat.le_refl _) _).setCell (Nat.le_refl _) _⟩
            exact owns_base (owns_other (owns_other (owns_other (owns_other OW.out (by omega) 0 _) (by omega) 1 _) (by omega) 2 _) (by omega) 3 _) (by omega)
          · rw [if_neg h2] at HE
            have he : mb.toList.isEmpty = false := by
              rw [ByteArray.toList_eq]; cases hl : mb.data.toList with | nil => exact absurd hl h2 | cons => rfl
            have hls : mb.size ≤ maxLen := by
              have : mb.data.toList.length = mb.size := by simp
              unfold maxLen; omega
            have HFO := hid (fun W => rfieldOf_any mb W hls)
            generalize hFF : Pm.fieldS mb.data.toList = FF at *
            clear hFF h2
            go_wp2_with fail
            refine (HFO.out _).mono ?_
            rintro e w5 ⟨⟨fn, fv, rfl, hnv⟩, hb5⟩
            have rb5 := rb4.below hb5
            have qb5 := qb4.below hb5
            have ow5 := owns_below ow4 hb5
            have sz5 : gq + 1 ≤ w5.heap.size := Nat.le_trans sz4 hb5.size
            have hB5 := bel_of hB4 hb5
            clear HFO rb4 qb4 ow4 sz4 hB4 hb5
            cases FF with
            | none =>
              obtain ⟨c0, c1, c2, c3⟩ := rb5.cells
              have d0 := rb5.free 0
              have d1 := rb5.free 1
              have d2 := rb5.free 2
              have d3 := rb5.free 3
              have BL := hid hB5
              have szA : w.heap.size < w5.heap.size := by omega
              clear rb5 qb5 ow5 hB5 hnv
              go_wp2
              refine bodyPost_ret (v := .tuple #[.agg #[.string ⟨#[]⟩, .string ⟨#[]⟩, .slice none 0 0, .string ⟨#[]⟩], .int .i64 0, .int .i64 3]) (by simp [results, Tryz.results25, go_sem, c0, c1, c2, c3, szA]) rfl ?_
              rw [HE.out]
              exact ⟨⟨_, rfl, World.ownsRow_nil _ _ _ _⟩, ((((BL.out.setCell (Nat.le_refl _) _).setCell (Nat.le_refl _) _).setCell (Nat.le_refl _) _).setCell (Nat.le_refl _) _).alloc (by simp; omega) _⟩
            | some fl =>
              obtain ⟨n1, n2⟩ := hnv fl rfl
              obtain ⟨z0, z1, z2, z3⟩ := qb5.cells
              have v2 := qb5.free 2
              have szB : gq < w5.heap.size := by omega
              clear hnv
              go_wp2_with (at_builtin; refine wpList_append_lies _ rfl _ _ 34 rfl (gq + 1) 61 i0 _ 2 32 Tryz.underlying34 hi hz0 hz1 hz2 rfl (by omega) (.slice av nv cv) fs.length (flat fs) rfl ((ow5.alloc _).alloc _) ⟨w5.heap.size + 1, 0, none⟩ 1 1 [.string fn, .string fv] rfl rfl ?c1 ?c2 (by omega) ?c3 ?c4 ?c5 _ rfl ?_)
              case c1 =>
                intro j x hj
                match j, hj with
                | 0, hj => simp at hj; subst hj; simp [Addr.add]
                | 1, hj => simp at hj; subst hj; simp [Addr.add]
              case c2 => intro x hx; simp at hx; rcases hx with rfl | rfl <;> rfl
              case c3 => unfold maxLen; omega
              case c4 => omega
              case c5 => simp; omega
              intro gg cap w8 hown hgrow hat hlt
              have hE8 : Below w5.heap.size w5 ((w5.alloc (.cells #[.string fn, .string fv] 61)).alloc (.cells #[.string fn, .string fv] 61)) := ((Below.refl _ _).alloc (Nat.le_refl _) _).alloc (by simp) _
              have rb8 := (rb5.below hE8).grown hgrow (own_not ow5 (by omega))
              have qb8 := (qb5.below hE8).grown hgrow (own_not ow5 (by omega))
              have hB8 : Below w.heap.size w w8 := (bel_of hB5 hE8).grown hgrow (by have := hB5.size; simp; omega) (fun r hr => by have := own_ge ow5 r hr; omega)
              have sz8 : gq + 1 ≤ w8.heap.size := by
                have h1 := hgrow.size
                simp at h1; omega
              obtain ⟨z0', z1', z2', z3'⟩ := qb8.cells
              have v2' := qb8.free 2
              have HD : Hid (s.data.toList.drop (u + M.2.2) = (s.data.toList.drop u).drop M.2.2) := by unfold Hid; rw [List.drop_drop]
              clear rb5 qb5 ow5 hB5 hE8 hgrow z0 z1 z2 z3 v2
              go_wp2
              refine ⟨⟨g, u + M.2.2, fs ++ [fl], .slice (some ⟨gg, 0, none⟩) (fs.length + 1) cap, by go_num, ?_⟩, by simp [intOf]; omega⟩
              refine { u1 := by omega, g1 := by omega, k1 := by omega, n1 := by simp; omega, eq := ?_, rb := rb8.other (by omega) 2 _, qb := qb8.set2 _, ow := ?_, sz := by simpa using sz8, bl := hB8.setCell (by show w.heap.size ≤ gq; omega) _ }
              · rw [HD.out, show hd - (u + M.2.2) = hd - u - M.2.2 from by omega]
                exact HE.out.symm
              · obtain ⟨f1, f2⟩ := fl
                simp only at n1 n2
                rw [flat_snoc, List.length_append, ← n1, ← n2]
                exact owns_other hown (by omega) 2 _
        · rw [if_pos h1] at HE
          have hne : (M.1 != 0) = true := by rw [bne_iff_ne]; exact h1
          obtain ⟨c0, c1, c2, c3⟩ := rb4.cells
          have d0 := rb4.free 0
          have d1 := rb4.free 1
          have d2 := rb4.free 2
          have d3 := rb4.free 3
          have BL := hid hB4
          clear rb4 qb4 ow4 hB4
          go_wp2
          refine bodyPost_ret (v := .tuple #[.agg #[.string ⟨#[]⟩, .string ⟨#[]⟩, .slice none 0 0, .string ⟨#[]⟩], .int .i64 0, .int .i64 M.1]) (by simp [results, Tryz.results25, go_sem, c0, c1, c2, c3]) rfl ?_
          rw [HE.out]
          exact ⟨⟨_, rfl, World.ownsRow_nil _ _ _ _⟩, (((BL.out.setCell (Nat.le_refl _) _).setCell (Nat.le_refl _) _).setCell (Nat.le_refl _) _).setCell (Nat.le_refl _) _⟩
    · rw [if_pos h2] at HH
      have hne : (P.1 != 0) = true := by rw [bne_iff_ne]; exact h2
      obtain ⟨c0, c1, c2, c3⟩ := q2.cells
      have d0 := q2.free 0
      have d1 := q2.free 1
      have d2 := q2.free 2
      have d3 := q2.free 3
      have BL := hid hB2
      clear q2 hB2
      go_wp2
      refine bodyPost_ret (v := .tuple #[.agg #[.string ⟨#[]⟩, .string ⟨#[]⟩, .slice none 0 0, .string ⟨#[]⟩], .int .i64 0, .int .i64 P.1]) (by simp [results, Tryz.results25, go_sem, c0, c1, c2, c3, sz2]) rfl ?_
      rw [HH.out]
      exact ⟨⟨_, rfl, World.ownsRow_nil _ _ _ _⟩, ((((BL.out.setCell (Nat.le_refl _) _).setCell (Nat.le_refl _) _).setCell (Nat.le_refl _) _).setCell (Nat.le_refl _) _).alloc (by simp; omega) _⟩
  · rw [if_pos h1] at HH
    have hne : (L.1 != 0) = true := by rw [bne_iff_ne]; exact h1
    obtain ⟨c0, c1, c2, c3⟩ := q1.cells
    have d0 := q1.free 0
    have d1 := q1.free 1
    have d2 := q1.free 2
    have d3 := q1.free 3
    have BL := hid hB1
    clear q1 hB1
    go_wp2
    refine bodyPost_ret (v := .tuple #[.agg #[.string ⟨#[]⟩, .string ⟨#[]⟩, .slice none 0 0, .string ⟨#[]⟩], .int .i64 0, .int .i64 L.1]) (by simp [results, Tryz.results25, go_sem, c0, c1, c2, c3]) rfl ?_
    rw [HH.out]
    exact ⟨⟨_, rfl, World.ownsRow_nil _ _ _ _⟩, (((BL.out.setCell (Nat.le_refl _) _).setCell (Nat.le_refl _) _).setCell (Nat.le_refl _) _).setCell (Nat.le_refl _) _⟩
end Go.Proofs.YtnohadlihgjppaaGreatDoor
