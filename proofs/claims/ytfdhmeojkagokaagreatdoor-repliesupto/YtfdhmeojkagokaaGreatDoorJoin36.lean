/- Texts that follow one another, joined. -/
import Derived.Test.YtfdhmeojkagokaaGreatDoorJoin35
import Derived.Deep.RegionHeld3
/- The reference's dispatched. -/
namespace Go.Proofs.YtfdhmeojkagokaaGreatDoor
open Go.RowKit

def RdPost (R : DsR) (w : World) (x : Ending) (w' : World) : Prop :=
  (∃ vv, ∃ ua ul : ByteArray, x = .returned (.agg #[.int .i64 R.st, .int .i64 R.ro, vv, .string ua, .string ul]) ∧ ua.data.toList = R.al ∧ ul.data.toList = R.lo ∧ w'.ownsRow w.heap.size 76 2 vv R.ps.length (prCells R.ps)) ∧ Below w.heap.size w w'
theorem rother_led {m l : List UInt8} {es : List Ent} (hp : Pm.isPath l = true) : (0 ≤ (rlG m (otherL l) es).1) ↔ (otG m l es).2 = true := by
  unfold otG
  by_cases h1 : l = [47]
  · rw [if_pos h1]
    have e0 : otherL l = [] := by rw [h1]; decide
    have e : rlG m [] es = (-1, []) := if_neg (fun h => absurd h.1 (by decide))
    rw [e0, e]; simp
  · rw [if_neg h1]
    have h2 := (other_path hp h1).1
    unfold rlG
    by_cases h3 : (leadG m (otherL l) es).2.2 = 0
    · rw [if_pos ⟨h2, h3⟩]; simp [h3]
    · rw [if_neg (fun h => h3 h.2)]; simp [h3]
theorem alw_sorted (l : List UInt8) (es : List Ent) : alwG l es = if gtL ∈ methS l es then sortedL (methS l es) hdL else methS l es := by
  unfold alwG sortedL
  by_cases h1 : gtL ∈ methS l es
  · rw [if_pos h1]
    by_cases h2 : hdL ∈ methS l es
    · rw [if_neg (fun h => h.2 h2), if_pos h2]
    · rw [if_pos ⟨h1, h2⟩, if_neg h2]
      exact srt_uniq (insG_srtd hdL _ (srt_pw _)) (insG_perm hdL _)
  · rw [if_neg h1, if_neg (fun h => h1 h.1)]
theorem alw_nil2 {l : List UInt8} {es : List Ent} : alwG l es = [] ↔ methS l es = [] := by
  unfold alwG
  constructor
  · intro h
    split at h
    · have := congrArg List.length h
      rw [srt_len, List.length_append] at this
      simp at this
    · exact h
  · intro h
    rw [h, if_neg (by simp)]
theorem sortedL_len (L : List (List UInt8)) (s : List UInt8) : L.length ≤ (sortedL L s).length ∧ (sortedL L s).length ≤ L.length + 1 := by
  unfold sortedL
  split
  · omega
  · have := (insG_perm s L).length_eq
    rw [List.length_append] at this
    simp at this; omega
theorem sortedL_mem {L : List (List UInt8)} {s x : List UInt8} (h : x ∈ sortedL L s) : x ∈ L ∨ x = s := by
  unfold sortedL at h
  split at h
  · exact .inl h
  · have := (insG_perm s L).mem_iff.1 h
    rcases List.mem_append.1 this with q | q
    · exact .inl q
    · exact .inr (by simpa using q)
theorem rleads_as (gt B : Nat) (es : List Prm) (v : Value) (m o : ByteArray) (L : List UInt8) (ho : o.data.toList = L) (w : World) (hT : TrAt gt B es v w) (hsp : Sp es) (hs : L.length ≤ 4398046511104) :
    Calls Tryz.prog 82 #[.pointer (some ⟨gt, 0, none⟩), .string m, .string o] w (RlPost (rlG m.data.toList L (es.map refB)) w) := by
  subst ho
  have e : o.data.toList.length = o.size := by simp
  exact rleads_any gt B es v m o w hT hsp (by omega)
theorem rmethods_as (gt B : Nat) (es : List Prm) (v : Value) (o : ByteArray) (L : List UInt8) (ho : o.data.toList = L) (w : World) (hT : TrAt gt B es v w) (hsp : Sp es) (hp : Pm.isPath L = true) (hs : L.length ≤ 4398046511104) :
    Calls Tryz.prog 84 #[.pointer (some ⟨gt, 0, none⟩), .string o] w fun r w' => (∃ vv, r = .returned vv ∧ w'.ownsRow w.heap.size 9 1 vv (methS L (es.map refB)).length (encs (methS L (es.map refB)))) ∧ Below w.heap.size w w' := by
  subst ho
  have e : o.data.toList.length = o.size := by simp
  exact rMethods_any gt B es v o w hT hsp hp (by omega)
theorem rother_as (o : ByteArray) (L : List UInt8) (ho : o.data.toList = L) (w : World) (hs : L.length ≤ 140737488355328) :
    Calls Tryz.prog 83 #[.string o] w fun x w' => (∃ b : ByteArray, x = .returned (.string b) ∧ b.data.toList = otherL L) ∧ Below w.heap.size w w' := by
  subst ho
  have e : o.data.toList.length = o.size := by simp
  exact rother_any o w (by omega)
theorem otherL_len (l : List UInt8) : (otherL l).length ≤ l.length + 1 := by
  unfold otherL
  split
  · rw [List.length_take]; omega
  · simp
set_option maxRecDepth 100000 in
set_option maxHeartbeats 4000000 in
theorem rdispatched_any (gt B : Nat) (es : List Prm) (v : Value) (m t : ByteArray) (w : World) (hT : TrAt gt B es v w) (hsp : Sp es) (hmz : ∀ e ∈ es, e.1.size ≤ 1000) (h1 : Pm.isMethod m.data.toList = true) (h2 : Pm.isTarget t.data.toList = true) (ht : t.size ≤ 1000000000000) :
    Calls Tryz.prog 48 #[.pointer (some ⟨gt, 0, none⟩), .string m, .string t] w (RdPost (dspG m.data.toList t.data.toList (es.map refB)) w) := by
  have htl : t.data.toList.length = t.size := by simp
  have hal : (Pm.ahead 63 t.data.toList).length ≤ t.size := by rw [← htl]; exact (List.takeWhile_prefix _).length_le
  have hbl : (Pm.behind 63 t.data.toList).length ≤ t.size := by rw [← htl]; exact (List.dropWhile_suffix _).length_le
  have hp : Pm.isPath (Pm.ahead 63 t.data.toList) = true := by rw [Pm.isTarget_path, Bool.and_eq_true] at h2; exact h2.1
  have HR : Hid (dspG m.data.toList t.data.toList (es.map refB) = if (leadG m.data.toList (Pm.ahead 63 t.data.toList) (es.map refB)).2.2 = 0 then ⟨200, (leadG m.data.toList (Pm.ahead 63 t.data.toList) (es.map refB)).1, (leadG m.data.toList (Pm.ahead 63 t.data.toList) (es.map refB)).2.1, [], [], 0⟩
      else if (otG m.data.toList (Pm.ahead 63 t.data.toList) (es.map refB)).2 = true then ⟨movG m.data.toList, 0, [], [], (otG m.data.toList (Pm.ahead 63 t.data.toList) (es.map refB)).1 ++ Pm.behind 63 t.data.toList, 0⟩
      else if alwG (Pm.ahead 63 t.data.toList) (es.map refB) ≠ [] then ⟨405, 0, [], Lib.join (alwG (Pm.ahead 63 t.data.toList) (es.map refB)) [44, 32], [], 0⟩
      else ⟨404, 0, [], [], [], 0⟩) := by
    unfold Hid dspG
    rw [if_neg (by rw [h1, h2]; simp)]
  have HAH := hid (fun W => rAhead_any t 63 W (by unfold maxLen; omega))
  have e63 : ((63 : UInt8).toNat : Int) = 63 := rfl
  simp only [e63] at HAH
  have hlt0 := hT.lt
  have HLD := hid (fun (o : ByteArray) (L : List UInt8) (ho : o.data.toList = L) W (hW : Below w.heap.size w W) (hs : L.length ≤ 4398046511104) => rleads_as gt B es v m o L ho W (hT.below hW) hsp hs)
  have HMT := hid (fun (o : ByteArray) (ho : o.data.toList = Pm.ahead 63 t.data.toList) W (hW : Below w.heap.size w W) => rmethods_as gt B es v o _ ho W (hT.below hW) hsp hp (by omega))
  have HOT := hid (fun (o : ByteArray) (ho : o.data.toList = Pm.ahead 63 t.data.toList) W => rother_as o _ ho W (by omega))
  have hol := rother_led (m := m.data.toList) (es := es.map refB) hp
  have hotG : (otG m.data.toList (Pm.ahead 63 t.data.toList) (es.map refB)).2 = true → (otG m.data.toList (Pm.ahead 63 t.data.toList) (es.map refB)).1 = otherL (Pm.ahead 63 t.data.toList) := fun h => by
    unfold otG at h ⊢
    split at h
    · cases h
    · rename_i q; rw [if_neg q]
  have hoz := otherL_len (Pm.ahead 63 t.data.toList)
  have haw := alw_sorted (Pm.ahead 63 t.data.toList) (es.map refB)
  have hnl := alw_nil2 (l := Pm.ahead 63 t.data.toList) (es := es.map refB)
  have hmlen : (methS (Pm.ahead 63 t.data.toList) (es.map refB)).length ≤ 24 := by
    have h3 := methS_few (Pm.ahead 63 t.data.toList) (es.map refB)
    have h4 := hT.few
    rw [List.length_map] at h3; omega
  have hmel : ∀ x ∈ methS (Pm.ahead 63 t.data.toList) (es.map refB), x.length ≤ 1000 := fun x hx => by
    unfold methS srt at hx
    rw [List.mem_mergeSort, List.mem_map] at hx
    obtain ⟨b, hb, rfl⟩ := hx
    unfold methG at hb
    rw [List.mem_map] at hb
    obtain ⟨e, he, rfl⟩ := hb
    obtain ⟨e0, he0, rfl⟩ := List.mem_map.1 (List.mem_filter.1 he).1
    have := hmz e0 he0
    have hsz : e0.1.data.toList.length = e0.1.size := by simp
    show e0.1.data.toList.length ≤ 1000
    omega
  have hrl1 : (leadG m.data.toList (Pm.ahead 63 t.data.toList) (es.map refB)).2.2 = 0 → rlG m.data.toList (Pm.ahead 63 t.data.toList) (es.map refB) = (((leadG m.data.toList (Pm.ahead 63 t.data.toList) (es.map refB)).1 : Int), (leadG m.data.toList (Pm.ahead 63 t.data.toList) (es.map refB)).2.1) := fun h => if_pos ⟨hp, h⟩
  have hrl2 : (leadG m.data.toList (Pm.ahead 63 t.data.toList) (es.map refB)).2.2 ≠ 0 → rlG m.data.toList (Pm.ahead 63 t.data.toList) (es.map refB) = (-1, []) := fun h => if_neg (fun c => h c.2)
  have hA := (Below.refl w.heap.size w).alloc (Nat.le_refl _) (.cells #[.int .i64 0, .int .i64 0, .slice none 0 0, .string ⟨#[]⟩, .string ⟨#[]⟩] 63)
  have h0 : FnB w.heap.size 0 0 (.slice none 0 0) ⟨#[]⟩ ⟨#[]⟩ (w.alloc (.cells #[.int .i64 0, .int .i64 0, .slice none 0 0, .string ⟨#[]⟩, .string ⟨#[]⟩] 63)) := heap_alloc_new w _
  have HLD1 := hid (fun (o : ByteArray) (ho : o.data.toList = Pm.ahead 63 t.data.toList) W (hW : Below w.heap.size w W) => HLD.out o _ ho W hW (by omega))
  have HLD2 := hid (fun (o : ByteArray) (ho : o.data.toList = otherL (Pm.ahead 63 t.data.toList)) W (hW : Below w.heap.size w W) => HLD.out o _ ho W hW (by omega))
  generalize dspG m.data.toList t.data.toList (es.map refB) = R at *
  generalize rlG m.data.toList (Pm.ahead 63 t.data.toList) (es.map refB) = RL at *
  generalize rlG m.data.toList (otherL (Pm.ahead 63 t.data.toList)) (es.map refB) = KG at *
  generalize leadG m.data.toList (Pm.ahead 63 t.data.toList) (es.map refB) = LG at *
  generalize otG m.data.toList (Pm.ahead 63 t.data.toList) (es.map refB) = OG at *
  generalize alwG (Pm.ahead 63 t.data.toList) (es.map refB) = AG at *
  generalize methS (Pm.ahead 63 t.data.toList) (es.map refB) = MS at *
  generalize otherL (Pm.ahead 63 t.data.toList) = OL at *
  generalize hPA : Pm.ahead 63 t.data.toList = PA at *
  generalize hPB : Pm.behind 63 t.data.toList = PB at *
  clear hT hp h1 h2 htl hPA hPB HLD hsp hmz
  have hGB := beq_get m
  have hHB := beq_head m
  go_enter Tryz.func48, Tryz.ntmps48
  go_wp2_with fail
  generalize w.alloc (.cells #[.int .i64 0, .int .i64 0, .slice none 0 0, .string ⟨#[]⟩, .string ⟨#[]⟩] 63) = w1 at *
  refine (HAH.out _).mono ?_
  rintro x w2 ⟨⟨pa, pb, rfl, hpa, hpb⟩, hb2⟩
  have hB2 := bel_of hA hb2
  have F2 := h0.below hb2
  clear HAH h0 hA hb2
  go_wp2_with fail
  refine (HLD1.out _ hpa _ hB2).mono ?_
  rintro x w3 ⟨⟨vv, rfl, ow⟩, hb3⟩
  have hB3 := bel_of hB2 hb3
  have F3 := F2.below hb3
  by_cases q1 : LG.2.2 = 0
  · have hR := HR.out
    rw [if_pos q1] at hR
    subst hR
    have hrl := hrl1 q1
    subst hrl
    have hno : vv.ownBlock ≠ some w.heap.size := fun e => by have := own_ge ow _ e; have := F2.lt; omega
    have HO2 := hid (owns_base ow hB2.size)
    obtain ⟨ax, cx, rfl⟩ := sl_of ow
    obtain ⟨c0, c1, c2, c3, c4⟩ := F3.cells
    have f0 := F3.free 0
    have f1 := F3.free 1
    have f2 := F3.free 2
    have f3 := F3.free 3
    have f4 := F3.free 4
    have l0 := F3.lt
    obtain ⟨d0, d1, d2, d3, d4⟩ := (F3.set 200 LG.1 (.slice ax LG.2.1.length cx) ⟨#[]⟩ ⟨#[]⟩).cells
    unfold setF at d0 d1 d2 d3 d4
    have hge : (0 : Int) ≤ (LG.1 : Int) := by omega
    clear HR HLD1 HLD2 HMT HOT ow hrl1 hrl2 F2
    go_wp2_with fail
    refine bodyPost_ret (v := .agg #[.int .i64 200, .int .i64 LG.1, .slice ax LG.2.1.length cx, .string ⟨#[]⟩, .string ⟨#[]⟩]) (by simp [results, Tryz.results48, go_sem, d0, d1, d2, d3, d4]) rfl ?_
    exact ⟨⟨_, _, _, rfl, rfl, rfl, owns_setF HO2.out hno⟩, below_setF hB3 (Nat.le_refl _)⟩
  · have hR := HR.out
    rw [if_neg q1] at hR
    have HR2 := hid hR
    have hrl := hrl2 q1
    subst hrl
    clear HR hR hrl1 hrl2 HLD1 ow
    go_wp2_with fail
    refine (HOT.out _ hpa _).mono ?_
    rintro x w4 ⟨⟨ob, rfl, hob⟩, hb4⟩
    have hB4 := bel_of hB3 hb4
    have F4 := F3.below hb4
    clear HOT F2 F3
    go_wp2_with fail
    refine (HLD2.out _ hob _ hB4).mono ?_
    rintro x w5 ⟨⟨v5, rfl, -⟩, hb5⟩
    have hB5 := bel_of hB4 hb5
    have F5 := F4.below hb5
    clear HLD2 F4
    by_cases q2 : OG.2 = true
    · have hk := hol.2 q2
      have hR := HR2.out
      rw [if_pos q2, hotG q2] at hR
      have hst : (movG m.data.toList = 301 ∧ (m.toList == [71, 69, 84]) = true) ∨ (movG m.data.toList = 301 ∧ (m.toList == [71, 69, 84]) = false ∧ (m.toList == [72, 69, 65, 68]) = true) ∨ (movG m.data.toList = 308 ∧ (m.toList == [71, 69, 84]) = false ∧ (m.toList == [72, 69, 65, 68]) = false) := by
        unfold movG
        by_cases e1 : m.data.toList = gtL
        · exact .inl ⟨if_pos (.inl e1), by rw [hGB, decide_eq_true e1]⟩
        · by_cases e2 : m.data.toList = hdL
          · exact .inr (.inl ⟨if_pos (.inr e2), by rw [hGB, decide_eq_false e1], by rw [hHB, decide_eq_true e2]⟩)
          · exact .inr (.inr ⟨if_neg (fun h => h.elim e1 e2), by rw [hGB, decide_eq_false e1], by rw [hHB, decide_eq_false e2]⟩)
      have e1 : ob.data.toList.length = ob.size := by simp
      have e2 : pb.data.toList.length = pb.size := by simp
      rw [hob] at e1
      rw [hpb] at e2
      have hk1 : ob.size + pb.size ≤ 9223372036854775807 := by omega
      have hk2 : ¬ 9223372036854775807 < ob.size + pb.size := by omega
      have hlo : (ob ++ pb).data.toList = OL ++ PB := by rw [← hob, ← hpb]; simp
      generalize movG m.data.toList = MG at *
      obtain ⟨c0, c1, c2, c3, c4⟩ := F5.cells
      have f0 := F5.free 0
      have f1 := F5.free 1
      have f2 := F5.free 2
      have f3 := F5.free 3
      have f4 := F5.free 4
      have l0 := F5.lt
      obtain ⟨d0, d1, d2, d3, d4⟩ := (F5.set MG 0 (.slice none 0 0) ⟨#[]⟩ (ob ++ pb)).cells
      unfold setF at d0 d1 d2 d3 d4
      have HRR := hid hR
      clear HR2 hR HMT hGB hHB hol hotG
      rcases hst with ⟨rfl, hGB⟩ | ⟨rfl, hGB, hHB⟩ | ⟨rfl, hGB, hHB⟩
      all_goals
        go_wp2_with fail
        refine bodyPost_ret (by simp [results, Tryz.results48, go_sem, d0, d1, d2, d3, d4]; rfl) rfl ?_
        rw [HRR.out]
        exact ⟨⟨_, _, _, rfl, rfl, hlo, World.ownsRow_nil _ _ _ _⟩, below_setF hB5 (Nat.le_refl _)⟩
    · have hk : ¬ 0 ≤ KG.1 := fun h => q2 (hol.1 h)
      have hR := HR2.out
      rw [if_neg q2] at hR
      have HRR := hid hR
      have hk2 : KG.1 < 0 := Int.not_le.1 hk
      clear HR2 hR hGB hHB hol hotG
      go_wp2_with fail
      refine (HMT.out _ hpa _ hB5).mono ?_
      rintro x w6 ⟨⟨v6, rfl, ow6⟩, hb6⟩
      have hB6 := bel_of hB5 hb6
      have F6 := F5.below hb6
      obtain ⟨a6, c6, rfl⟩ := sl_of ow6
      clear HMT F5
      by_cases q3 : AG ≠ []
      · have hR := HRR.out
        rw [if_pos q3] at hR
        have HR3 := hid hR
        have hms0 : MS ≠ [] := fun e => q3 (hnl.2 e)
        have hmp : (((MS.length : Int)) == 0) = false := by
          have := List.length_pos_iff.2 hms0
          rw [beq_eq_false_iff_ne]; omega
        have HAW := hid haw
        have HO6 := hid ow6
        clear HRR hR haw hnl ow6
        go_wp2_with fail
        go_loopw [12, 13] (fun l k wr => ∃ (q : Nat) (L : List (List UInt8)), k = .int .i64 q ∧ wr.ownsRow w.heap.size 9 1 l L.length (encs L) ∧ Hid ((q ≤ MS.length ∧ L = MS ∧ gtL ∉ MS.take q) ∨ (gtL ∈ MS ∧ L = sortedL MS hdL ∧ q = L.length + 1)) ∧ Below w.heap.size w wr ∧ Below w6.heap.size w6 wr) (fun _ k _ => MS.length + 3 - (intOf k).toNat)
        case atStart => exact ⟨0, MS, rfl, owns_base HO6.out hB5.size, .inl ⟨Nat.zero_le _, rfl, by simp⟩, hB6, Below.refl _ _⟩
        case round =>
          obtain ⟨q, L, rfl, ow, HK, hbw, hb6w⟩ := hrel
          have F7 := F6.below hb6w
          by_cases hlt : q < L.length
          · rcases HK.out with ⟨k1, rfl, k3⟩ | ⟨k1, k2, k3⟩
            · rcases own_strs ow with ⟨-, hl0⟩ | ⟨g, cap, hv, hg, hc, hce⟩
              · rw [hl0] at hlt; simp at hlt
              · have hck := hce q hlt
                subst hv
                have hbx : (⟨L[q].toArray⟩ : ByteArray).data.toList = L[q] := by simp
                have HMEM : Hid (L[q] = gtL → gtL ∈ L) := fun e => by rw [← e]; exact List.getElem_mem hlt
                have HNOT : Hid (L[q] ≠ gtL → gtL ∉ L.take (q + 1)) := fun e => by
                  rw [take_sn hlt, List.mem_append]
                  rintro (z | z)
                  · exact k3 z
                  · have e2 : gtL = L[q] := by simpa using z
                    exact e e2.symm
                generalize L[q] = x at *
                generalize (⟨x.toArray⟩ : ByteArray) = bx at *
                subst hbx
                have hbe := beq_get bx
                have hle : L.length ≤ 24 := hmlen
                have HSO := hid (rsorted_any _ L ⟨#[72, 69, 65, 68]⟩ w.heap.size wr ow hbw.size (by omega))
                have e48 : (⟨#[72, 69, 65, 68]⟩ : ByteArray).data.toList = hdL := rfl
                rw [e48] at HSO
                have hsl := sortedL_len L hdL
                have HOW := hid ow
                clear hce HK k3 ow
                by_cases he : bx.data.toList = gtL
                · have HM := hid (HMEM.out he)
                  rw [decide_eq_true he] at hbe
                  clear HMEM HNOT
                  generalize sortedL L hdL = SL at *
                  go_wp2_with fail
                  refine HSO.out.mono ?_
                  rintro x w8 ⟨⟨v8, rfl, ow8⟩, hb8⟩
                  obtain ⟨a8, c8, rfl⟩ := sl_of ow8
                  have hB8 := bel_of hbw hb8
                  have hb68 := bel_of hb6w hb8
                  have HO8 := hid ow8
                  clear HSO ow8
                  go_wp2_with fail
                  exact ⟨⟨SL.length + 1, SL, by go_num, HO8.out, .inr ⟨HM.out, rfl, rfl⟩, hB8, hb68⟩, by simp [intOf]; omega⟩
                · have HN := hid (HNOT.out he)
                  rw [decide_eq_false he] at hbe
                  clear HMEM HNOT HSO
                  go_wp2_with fail
                  exact ⟨⟨q + 1, L, by go_num, HOW.out, .inl ⟨by omega, rfl, HN.out⟩, hbw, hb6w⟩, by simp [intOf]; omega⟩
            · exfalso; omega
          · have hnl2 : ¬ (q : Int) < (L.length : Int) := by omega
            have hLA : L = AG := by
              rw [HAW.out]
              rcases HK.out with ⟨k1, k2, k3⟩ | ⟨k1, k2, k3⟩
              · rw [k2] at hlt
                rw [List.take_of_length_le (by omega)] at k3
                rw [if_neg k3, k2]
              · rw [if_pos k1, k2]
            have hLz : L.length ≤ 100 ∧ ∀ x ∈ L, x.length ≤ 1000 := by
              rcases HK.out with ⟨k1, k2, k3⟩ | ⟨k1, k2, k3⟩
              · rw [k2]; exact ⟨by omega, hmel⟩
              · rw [k2]
                have := sortedL_len MS hdL
                refine ⟨by omega, fun x hx => ?_⟩
                rcases sortedL_mem hx with z | z
                · exact hmel x z
                · rw [z]; decide
            have HLI := hid (rlisted_any _ L w.heap.size wr ow hLz.1 hLz.2)
            subst hLA
            obtain ⟨a7, c7, rfl⟩ := sl_of ow
            clear HK HAW ow hLz
            go_wp2_with fail
            refine HLI.out.mono ?_
            rintro x w8 ⟨⟨o8, rfl, ho8⟩, hb8⟩
            have hB8 := bel_of hbw hb8
            have F8 := F7.below hb8
            obtain ⟨c0, c1, c2, c3, c4⟩ := F8.cells
            have f0 := F8.free 0
            have f1 := F8.free 1
            have f2 := F8.free 2
            have f3 := F8.free 3
            have f4 := F8.free 4
            have l0 := F8.lt
            obtain ⟨d0, d1, d2, d3, d4⟩ := (F8.set 405 0 (.slice none 0 0) o8 ⟨#[]⟩).cells
            unfold setF at d0 d1 d2 d3 d4
            have HO8 := hid ho8
            clear HLI ho8 F7
            go_wp2_with fail
            refine bodyPost_ret (by simp [results, Tryz.results48, go_sem, d0, d1, d2, d3, d4]; rfl) rfl ?_
            rw [HR3.out]
            exact ⟨⟨_, _, _, rfl, HO8.out, rfl, World.ownsRow_nil _ _ _ _⟩, below_setF hB8 (Nat.le_refl _)⟩
      · have hR := HRR.out
        rw [if_neg q3] at hR
        have hz : MS = [] := hnl.1 (Classical.not_not.1 q3)
        subst hz
        obtain ⟨c0, c1, c2, c3, c4⟩ := F6.cells
        have f0 := F6.free 0
        have f1 := F6.free 1
        have f2 := F6.free 2
        have f3 := F6.free 3
        have f4 := F6.free 4
        have l0 := F6.lt
        obtain ⟨d0, d1, d2, d3, d4⟩ := (F6.set 404 0 (.slice none 0 0) ⟨#[]⟩ ⟨#[]⟩).cells
        unfold setF at d0 d1 d2 d3 d4
        have HR3 := hid hR
        clear HRR hR haw hnl ow6
        simp only [List.length_nil] at *
        go_wp2_with fail
        refine bodyPost_ret (by simp [results, Tryz.results48, go_sem, d0, d1, d2, d3, d4]; rfl) rfl ?_
        rw [HR3.out]
        exact ⟨⟨_, _, _, rfl, rfl, rfl, World.ownsRow_nil _ _ _ _⟩, below_setF hB6 (Nat.le_refl _)⟩
end Go.Proofs.YtfdhmeojkagokaaGreatDoor

/- The reference's IsLabel, handles, wares. -/
namespace Go.Proofs.YtfdhmeojkagokaaGreatDoor
open Go.RowKit

def lcL : List UInt8 := [99, 111, 110, 116, 101, 110, 116, 45, 108, 101, 110, 103, 116, 104]
def coL : List UInt8 := [99, 111, 110, 110, 101, 99, 116, 105, 111, 110]
def teL : List UInt8 := [116, 114, 97, 110, 115, 102, 101, 114, 45, 101, 110, 99, 111, 100, 105, 110, 103]
theorem lab_low (l : List UInt8) : labB l = (((Pm.isTok l && !(Pm.alike l lcL)) && !(Pm.alike l coL)) && !(Pm.alike l teL)) := by
  have h1 : Pm.alike l [67, 111, 110, 116, 101, 110, 116, 45, 76, 101, 110, 103, 116, 104] = Pm.alike l lcL := by
    unfold Pm.alike
    have : List.map Pm.low [67, 111, 110, 116, 101, 110, 116, 45, 76, 101, 110, 103, 116, 104] = List.map Pm.low lcL := by decide
    rw [this]
  have h2 : Pm.alike l [84, 114, 97, 110, 115, 102, 101, 114, 45, 69, 110, 99, 111, 100, 105, 110, 103] = Pm.alike l teL := by
    unfold Pm.alike
    have : List.map Pm.low [84, 114, 97, 110, 115, 102, 101, 114, 45, 69, 110, 99, 111, 100, 105, 110, 103] = List.map Pm.low teL := by decide
    rw [this]
  have h3 : Pm.alike l [67, 111, 110, 110, 101, 99, 116, 105, 111, 110] = Pm.alike l coL := by
    unfold Pm.alike
    have : List.map Pm.low [67, 111, 110, 110, 101, 99, 116, 105, 111, 110] = List.map Pm.low coL := by decide
    rw [this]
  unfold labB
  rw [h1, h2, h3]
  cases Pm.isTok l <;> cases Pm.alike l lcL <;> cases Pm.alike l teL <;> cases Pm.alike l coL <;> rfl
set_option maxRecDepth 100000 in
set_option maxHeartbeats 1000000 in
theorem rIsLabel_any (s : ByteArray) (w : World) (hs : s.size ≤ maxLen) :
    Calls Tryz.prog 117 #[.string s] w fun e w' => e = .returned (.bool (labB s.data.toList)) ∧ w' = w := by
  have HT := hid (fun W => rIsToken_any s W hs)
  have H1 : Hid (∀ W, Calls Tryz.prog 92 #[.string s, .string ⟨#[99, 111, 110, 116, 101, 110, 116, 45, 108, 101, 110, 103, 116, 104]⟩] W fun e w' => e = .returned (.bool (Pm.alike s.data.toList lcL)) ∧ w' = W) := fun W => rAlike_any s ⟨#[99, 111, 110, 116, 101, 110, 116, 45, 108, 101, 110, 103, 116, 104]⟩ W hs (by unfold maxLen; decide)
  have H2 : Hid (∀ W, Calls Tryz.prog 92 #[.string s, .string ⟨#[99, 111, 110, 110, 101, 99, 116, 105, 111, 110]⟩] W fun e w' => e = .returned (.bool (Pm.alike s.data.toList coL)) ∧ w' = W) := fun W => rAlike_any s ⟨#[99, 111, 110, 110, 101, 99, 116, 105, 111, 110]⟩ W hs (by unfold maxLen; decide)
  have H3 : Hid (∀ W, Calls Tryz.prog 92 #[.string s, .string ⟨#[116, 114, 97, 110, 115, 102, 101, 114, 45, 101, 110, 99, 111, 100, 105, 110, 103]⟩] W fun e w' => e = .returned (.bool (Pm.alike s.data.toList teL)) ∧ w' = W) := fun W => rAlike_any s ⟨#[116, 114, 97, 110, 115, 102, 101, 114, 45, 101, 110, 99, 111, 100, 105, 110, 103]⟩ W hs (by unfold maxLen; decide)
  have HL := hid (lab_low s.data.toList)
  generalize labB s.data.toList = LB at *
  generalize Pm.isTok s.data.toList = b0 at *
  generalize Pm.alike s.data.toList lcL = b1 at *
  generalize Pm.alike s.data.toList coL = b2 at *
  generalize Pm.alike s.data.toList teL = b3 at *
  go_enter Tryz.func117, Tryz.ntmps117
  go_wp2_with fail
  refine (HT.out _).mono ?_
  rintro e w1 ⟨rfl, rfl⟩
  go_wp2_with fail
  refine (H1.out _).mono ?_
  rintro e w1 ⟨rfl, rfl⟩
  go_wp2_with fail
  refine (H2.out _).mono ?_
  rintro e w1 ⟨rfl, rfl⟩
  go_wp2_with fail
  refine (H3.out _).mono ?_
  rintro e w1 ⟨rfl, rfl⟩
  have hl := HL.out
  clear HT H1 H2 H3 HL
  cases b0 <;> cases b1 <;> cases b2 <;> cases b3
  all_goals
    simp only [Bool.not_false, Bool.not_true, Bool.and_true, Bool.and_false] at hl
    subst hl
    go_wp2_with fail
    go_ret
    exact ⟨rfl, rfl⟩
theorem hnd_ref (k st : Int) (t : List UInt8) : hndB k st t = (!(decide (k < 0) || decide (4 < k) || decide (st < 200) || decide (599 < st) || decide (100 < t.length)) && (decide (k ≠ 3) || labB t)) := by
  unfold hndB
  rw [Bool.eq_iff_iff]
  cases labB t <;> simp <;> (constructor <;> intro h <;> (try split at h) <;> (try split) <;> simp_all <;> omega)
set_option maxRecDepth 100000 in
set_option maxHeartbeats 2000000 in
theorem rhandles_any (k st : Int) (t n : ByteArray) (w : World) (ht : t.size ≤ maxLen) :
    Calls Tryz.prog 77 #[.agg #[.int .i64 k, .int .i64 st, .string t, .string n]] w fun e w' => e = .returned (.bool (hndB k st t.data.toList)) ∧ Below w.heap.size w w' := by
  have HL := hid (fun W => rIsLabel_any t W ht)
  have hA := (Below.refl w.heap.size w).alloc (Nat.le_refl _) (.cells #[.int .i64 k, .int .i64 st, .string t, .string n] 79)
  have hH := hnd_ref k st t.data.toList
  have htl : t.data.toList.length = t.size := by simp
  rw [htl] at hH
  generalize hndB k st t.data.toList = HB at *
  generalize labB t.data.toList = LB at *
  have HH := hid hH
  clear hH htl
  go_enter Tryz.func77, Tryz.ntmps77
  go_wp2_with fail
  refine (HL.out _).mono ?_
  rintro e w1 ⟨rfl, rfl⟩
  have hh := HH.out
  clear HL HH
  by_cases c1 : k < 0
  · simp only [decide_eq_true c1, Bool.true_or, Bool.not_true, Bool.false_and] at hh
    subst hh
    go_wp2_with fail
    go_ret
    exact ⟨rfl, hA⟩
  · by_cases c2 : 4 < k
    · simp only [decide_eq_true c2, Bool.true_or, Bool.or_true, Bool.not_true, Bool.false_and] at hh
      subst hh
      go_wp2_with fail
      go_ret
      exact ⟨rfl, hA⟩
    · by_cases c3 : st < 200
      · simp only [decide_eq_true c3, Bool.true_or, Bool.or_true, Bool.not_true, Bool.false_and] at hh
        subst hh
        go_wp2_with fail
        go_ret
        exact ⟨rfl, hA⟩
      · by_cases c4 : 599 < st
        · simp only [decide_eq_true c4, Bool.true_or, Bool.or_true, Bool.not_true, Bool.false_and] at hh
          subst hh
          go_wp2_with fail
          go_ret
          exact ⟨rfl, hA⟩
        · by_cases c5 : 100 < t.size
          · simp only [decide_eq_true c5, Bool.or_true, Bool.not_true, Bool.false_and] at hh
            subst hh
            have c6 : (100 : Int) < (t.size : Int) := by omega
            go_wp2_with fail
            go_ret
            exact ⟨rfl, hA⟩
          · have c6 : ¬ (100 : Int) < (t.size : Int) := by omega
            simp only [decide_eq_false c1, decide_eq_false c2, decide_eq_false c3, decide_eq_false c4, decide_eq_false c5, Bool.or_false, Bool.not_false, Bool.true_and] at hh
            by_cases c7 : k = 3
            · have c8 : (k != 3) = false := by rw [c7]; rfl
              simp only [decide_eq_false (show ¬ (k ≠ 3) from fun h => h c7), Bool.false_or] at hh
              subst hh
              go_wp2_with fail
              go_ret
              exact ⟨rfl, by rw [c7] at hA; exact hA⟩
            · have c8 : (k != 3) = true := by simpa using c7
              simp only [decide_eq_true (show k ≠ 3 from c7), Bool.true_or] at hh
              subst hh
              go_wp2_with fail
              go_ret
              exact ⟨rfl, hA⟩
theorem ware_ref (k : Int) (n v : List UInt8) (lim : Int) : wareB k n v lim = (!(decide (k < 0) || decide (4 < k) || decide (100 < n.length) || decide (100 < v.length)) && (if k = 1 then Pm.isTok n else if k = 2 then decide (0 ≤ lim) else if k = 3 then true else labB n)) := by
  unfold wareB
  by_cases c1 : k < 0
  · have : ¬ (k = 0 ∨ k = 4) := by omega
    have h1 : k ≠ 1 := by omega
    have h2 : k ≠ 2 := by omega
    have h3 : k ≠ 3 := by omega
    simp [c1, this, h1, h2, h3]
  · by_cases c2 : 4 < k
    · have : ¬ (k = 0 ∨ k = 4) := by omega
      have h1 : k ≠ 1 := by omega
      have h2 : k ≠ 2 := by omega
      have h3 : k ≠ 3 := by omega
      simp [c2, this, h1, h2, h3]
    · have hk : k = 0 ∨ k = 1 ∨ k = 2 ∨ k = 3 ∨ k = 4 := by omega
      by_cases c3 : 100 < n.length
      · simp [c3, Nat.not_le.2 c3]
      · by_cases c4 : 100 < v.length
        · simp [c4, Nat.not_le.2 c4]
        · have c5 : n.length ≤ 100 := by omega
          have c6 : v.length ≤ 100 := by omega
          rcases hk with rfl | rfl | rfl | rfl | rfl <;> simp [c3, c4, c5, c6]
set_option maxRecDepth 100000 in
set_option maxHeartbeats 2000000 in
theorem rwares_any (k lim : Int) (n v : ByteArray) (w : World) (hn : n.size ≤ maxLen) :
    Calls Tryz.prog 78 #[.agg #[.int .i64 k, .string n, .string v, .int .i64 lim]] w fun e w' => e = .returned (.bool (wareB k n.data.toList v.data.toList lim)) ∧ Below w.heap.size w w' := by
  have HL := hid (fun W => rIsLabel_any n W hn)
  have HT := hid (fun W => rIsToken_any n W hn)
  have hA := (Below.refl w.heap.size w).alloc (Nat.le_refl _) (.cells #[.int .i64 k, .string n, .string v, .int .i64 lim] 84)
  have hg := heap_alloc_new w (.cells #[.int .i64 k, .string n, .string v, .int .i64 lim] 84)
  have hH := ware_ref k n.data.toList v.data.toList lim
  have hnl : n.data.toList.length = n.size := by simp
  have hvl : v.data.toList.length = v.size := by simp
  rw [hnl, hvl] at hH
  generalize wareB k n.data.toList v.data.toList lim = HB at *
  generalize labB n.data.toList = LB at *
  generalize Pm.isTok n.data.toList = TB at *
  have d0 : (w.alloc (.cells #[.int .i64 k, .string n, .string v, .int .i64 lim] 84)).cell? ⟨w.heap.size, 0, none⟩ = some (.int .i64 k) := by rw [Lib.cell_of_heap hg]; rfl
  have d1 : (w.alloc (.cells #[.int .i64 k, .string n, .string v, .int .i64 lim] 84)).cell? ⟨w.heap.size, 1, none⟩ = some (.string n) := by rw [Lib.cell_of_heap hg]; rfl
  have d2 : (w.alloc (.cells #[.int .i64 k, .string n, .string v, .int .i64 lim] 84)).cell? ⟨w.heap.size, 2, none⟩ = some (.string v) := by rw [Lib.cell_of_heap hg]; rfl
  have d3 : (w.alloc (.cells #[.int .i64 k, .string n, .string v, .int .i64 lim] 84)).cell? ⟨w.heap.size, 3, none⟩ = some (.int .i64 lim) := by rw [Lib.cell_of_heap hg]; rfl
  have l0 := block_lt_of_cell d0
  have HH := hid hH
  clear hH hnl hvl hg
  go_enter Tryz.func78, Tryz.ntmps78
  go_upto_region 1 with fail
  generalize w.alloc (.cells #[.int .i64 k, .string n, .string v, .int .i64 lim] 84) = wa at *
  by_cases c1 : k < 0
  · have hh := HH.out
    simp only [decide_eq_true c1, Bool.true_or, Bool.not_true, Bool.false_and] at hh
    subst hh
    go_wp2_with fail
    go_ret
    exact ⟨rfl, hA⟩
  · by_cases c2 : 4 < k
    · have hh := HH.out
      simp only [decide_eq_true c2, Bool.true_or, Bool.or_true, Bool.not_true, Bool.false_and] at hh
      subst hh
      go_wp2_with fail
      go_ret
      exact ⟨rfl, hA⟩
    · by_cases c3 : 100 < n.size
      · have hh := HH.out
        simp only [decide_eq_true c3, Bool.true_or, Bool.or_true, Bool.not_true, Bool.false_and] at hh
        subst hh
        have c6 : (100 : Int) < (n.size : Int) := by omega
        go_wp2_with fail
        go_ret
        exact ⟨rfl, hA⟩
      · by_cases c4 : 100 < v.size
        · have hh := HH.out
          simp only [decide_eq_true c4, Bool.or_true, Bool.not_true, Bool.false_and] at hh
          subst hh
          have c5 : ¬ (100 : Int) < (n.size : Int) := by omega
          have c6 : (100 : Int) < (v.size : Int) := by omega
          go_wp2_with fail
          go_ret
          exact ⟨rfl, hA⟩
        · have c5 : ¬ (100 : Int) < (n.size : Int) := by omega
          have c6 : ¬ (100 : Int) < (v.size : Int) := by omega
          have hh := HH.out
          simp only [decide_eq_false c1, decide_eq_false c2, decide_eq_false c3, decide_eq_false c4, Bool.or_false, Bool.not_false, Bool.true_and] at hh
          have HH2 := hid hh
          clear hh HH
          go_wp2_with fail
          refine (HL.out _).mono ?_
          rintro e w1 ⟨rfl, rfl⟩
          go_wp2_with fail
          refine (HT.out _).mono ?_
          rintro e w1 ⟨rfl, rfl⟩
          have hh := HH2.out
          have hk : k = 0 ∨ k = 1 ∨ k = 2 ∨ k = 3 ∨ k = 4 := by omega
          clear HH2 HL HT
          rcases hk with rfl | rfl | rfl | rfl | rfl
          all_goals
            simp at hh
            subst hh
            go_wp2_with fail
            go_ret
            exact ⟨rfl, hA⟩
end Go.Proofs.YtfdhmeojkagokaaGreatDoor

/- The reference's Tabled: the table of a configuration's routes, the first error. -/
namespace Go.Proofs.YtfdhmeojkagokaaGreatDoor
open Go.RowKit

structure RtSm (r : Rt) : Prop where
  m : r.m.size ≤ 1048576
  p : r.p.size ≤ 1048576
  t : r.h.t.size ≤ 1048576
  n : r.h.n.size ≤ 1048576
theorem RtSm.ok {r : Rt} (h : RtSm r) : RtOk r := ⟨by have := h.m; omega, by have := h.p; omega, by have := h.t; omega, by have := h.n; omega⟩
def rtP (r : Rt) : Prm := (r.m, r.p)
theorem refB_rtP (rs : List Rt) : (rs.map rtP).map refB = rs.map rtBare := by rw [List.map_map]; rfl
theorem ad_err {es : List Ent} {r : Rt} (h : (adE r.m.data.toList r.p.data.toList es).2 ≠ 0) : rtE es r = (adE r.m.data.toList r.p.data.toList es).2 := by
  unfold adE at h ⊢
  unfold rtE
  by_cases h1 : Pm.isMethod r.m.data.toList = false
  · rw [if_pos h1, if_pos h1]
  · rw [if_neg h1] at h
    rw [if_neg h1, if_neg h1]
    cases hp : patternOf r.p.data.toList with
    | none => rfl
    | some p =>
      rw [hp] at h
      simp only at h ⊢
      by_cases h2 : 24 ≤ es.length
      · rw [if_pos h2, if_pos h2]
      · rw [if_neg h2] at h
        rw [if_neg h2, if_neg h2]
        cases hh : hitG r.m.data.toList p es 0 with
        | some j => simp
        | none => rw [hh] at h; exact absurd rfl h
theorem ad_ok {es : List Ent} {r : Rt} (h : (adE r.m.data.toList r.p.data.toList es).2 = 0) : (rtE es r = if hndB r.h.k r.h.st r.h.t.data.toList = false then 12 else 0) ∧ ∃ p, patternOf r.p.data.toList = some p ∧ hitG r.m.data.toList p es 0 = none ∧ Pm.isMethod r.m.data.toList = true := by
  unfold adE at h
  unfold rtE
  by_cases h1 : Pm.isMethod r.m.data.toList = false
  · rw [if_pos h1] at h; simp at h
  · rw [if_neg h1] at h
    rw [if_neg h1]
    cases hp : patternOf r.p.data.toList with
    | none => rw [hp] at h; simp at h
    | some p =>
      rw [hp] at h
      simp only at h ⊢
      by_cases h2 : 24 ≤ es.length
      · rw [if_pos h2] at h; simp at h
      · rw [if_neg h2] at h
        rw [if_neg h2]
        cases hh : hitG r.m.data.toList p es 0 with
        | some j => rw [hh] at h; simp at h
        | none => exact ⟨by simp, p, rfl, hh, by cases q : Pm.isMethod r.m.data.toList; exact absurd q h1; rfl⟩
theorem hit_none {m : List UInt8} {p : List (Int × ByteArray)} : ∀ {es : List Ent} {k : Nat}, hitG m p es k = none → ∀ e ∈ es, e.m.data.toList = m → ovl e.ps p = false
  | [], _, _, e, he, _ => absurd he (by simp)
  | d :: r, k, h, e, he, hm => by
    rw [hitG] at h
    by_cases hd : d.m.data.toList = m
    · rw [if_pos hd] at h
      by_cases ho : ovl d.ps p = true
      · rw [if_pos ho] at h; cases h
      · rw [if_neg ho] at h
        rcases List.mem_cons.1 he with rfl | he
        · cases q : ovl e.ps p; rfl; exact absurd q ho
        · exact hit_none h e he hm
    · rw [if_neg hd] at h
      rcases List.mem_cons.1 he with rfl | he
      · exact absurd hm hd
      · exact hit_none h e he hm
theorem Sp.snoc {es : List Prm} {m s : ByteArray} {p : List (Int × ByteArray)} (h : Sp es) (hp : patternOf s.data.toList = some p) (hn : hitG m.data.toList p (es.map refB) 0 = none) : Sp (es ++ [(m, s)]) := fun i j hi hj hij he => by
  rw [List.length_append] at hi hj
  simp at hi hj
  have hi' : i < es.length := by omega
  by_cases hj' : j < es.length
  · rw [List.getElem_append_left hi', List.getElem_append_left hj'] at *
    exact h i j hi' hj' hij he
  · have hj2 : j = es.length := by omega
    subst hj2
    rw [List.getElem_append_left hi', List.getElem_append_right (Nat.le_refl _)] at *
    simp only [Nat.sub_self, List.getElem_cons_zero] at *
    have e2 : (refB (m, s)).ps = p := by unfold refB; simp only [hp, Option.getD_some]
    rw [e2]
    exact hit_none hn (refB es[i]) (List.mem_map.2 ⟨es[i], List.getElem_mem hi', rfl⟩) he
/- what Tabled tells -/
def TaPost (rs : List Rt) (E : Nat × Int) (w : World) (x : Ending) (w' : World) : Prop :=
  ∃ gt, x = .returned (.tuple #[.pointer (some ⟨gt, 0, none⟩), .int .i64 E.1, .int .i64 E.2]) ∧ Below w.heap.size w w' ∧ (E.2 = 0 → ∃ es v, es.map refB = rs.map rtBare ∧ TrAt gt gt es v w' ∧ Sp es ∧ ∀ e ∈ es, e.1.size ≤ 1000)
/- the table so far -/
def TaI (gt : Nat) (rs : List Rt) (k : Nat) (w1 wr : World) : Prop :=
  (∃ v, TrAt gt gt ((rs.take k).map rtP) v wr) ∧ Sp ((rs.take k).map rtP) ∧ (∀ e ∈ (rs.take k).map rtP, e.1.size ≤ 1000) ∧ Below gt w1 wr ∧ gt < wr.heap.size
theorem rts_at (rs : List Rt) (k : Nat) (h : k < rs.length) (e : Int) (he : rtE ((rs.take k).map rtBare) rs[k] = e) : rtsE (rs.drop k) ((rs.take k).map rtBare) k = if e = 0 then rtsE (rs.drop (k + 1)) ((rs.take (k + 1)).map rtBare) (k + 1) else (k, e) := by
  rw [← List.getElem_cons_drop h, rtsE, he, List.take_succ_eq_append_getElem h, List.map_append]
  rfl
end Go.Proofs.YtfdhmeojkagokaaGreatDoor

/- The walk of the reference's Tabled. -/
namespace Go.Proofs.YtfdhmeojkagokaaGreatDoor
open Go.RowKit

theorem rLimited2 (hd bd : Int) (w : World) :
    Calls Tryz.prog 75 #[.agg #[.int .i64 hd, .int .i64 bd]] w fun e w' => e = .returned (.bool (decide (32 ≤ hd ∧ hd ≤ 500 ∧ 0 ≤ bd ∧ bd ≤ 200))) ∧ Below w.heap.size w w' := by
  go_enter Tryz.func75, Tryz.ntmps75
  go_wp2
  all_goals
    go_ret
    refine ⟨?_, (Below.refl _ _).alloc (Nat.le_refl _) _⟩
    try congr 2
    try simp
    try simp [*]
    try (intros; omega)

theorem TaI.next {gt : Nat} {rs : List Rt} {k : Nat} {w1 wr W w' : World} {v' : Value} (h : k < rs.length) (hI : TaI gt rs k w1 wr) (hW : Below wr.heap.size wr W) (hb : Below gt W w') (hT : TrAt gt gt ((rs.take k).map rtP ++ [(rs[k].m, rs[k].p)]) v' w') (hok : (adE rs[k].m.data.toList rs[k].p.data.toList (((rs.take k).map rtP).map refB)).2 = 0) : TaI gt rs (k + 1) w1 w' := by
  obtain ⟨-, p, h2, h3, h4⟩ := ad_ok hok
  obtain ⟨i1, i2, i3, i4, i5⟩ := hI
  have e : (rs.take (k + 1)).map rtP = (rs.take k).map rtP ++ [(rs[k].m, rs[k].p)] := by
    rw [List.take_succ_eq_append_getElem h, List.map_append]; rfl
  refine ⟨⟨v', by rw [e]; exact hT⟩, by rw [e]; exact i2.snoc h2 h3, fun x hx => ?_, (i4.trans (hW.mono (by omega))).trans hb, hT.lt⟩
  rw [e, List.mem_append] at hx
  rcases hx with hx | hx
  · exact i3 x hx
  · have : x = (rs[k].m, rs[k].p) := by simpa using hx
    rw [this]; exact meth_small h4
set_option maxRecDepth 100000 in
set_option maxHeartbeats 4000000 in
theorem rTabled_any (hd bd : Int) (rs : List Rt) (ws : List Wr) (ar : Option Addr) (cr : Nat) (aw : Option Addr) (cw : Nat) (w : World) (hR : MuAt 6 Rt.cells rs ar w) (hW : MuAt 4 Wr.cells ws aw w) (hro : ∀ r ∈ rs, RtSm r) (hwo : ∀ x ∈ ws, x.n.size ≤ 1048576 ∧ x.v.size ≤ 1048576) :
    Calls Tryz.prog 45 #[.agg #[.int .i64 hd, .int .i64 bd, .slice ar rs.length cr, .slice aw ws.length cw]] w (TaPost rs (cfgE hd bd rs ws) w) := by
  have HNT := hid (fun W => rNewTable_any W)
  have HLM := hid (fun W => rLimited2 hd bd W)
  have hA := (Below.refl w.heap.size w).alloc (Nat.le_refl _) (.cells #[.int .i64 hd, .int .i64 bd, .slice ar rs.length cr, .slice aw ws.length cw] 27)
  have hg : (w.alloc (.cells #[.int .i64 hd, .int .i64 bd, .slice ar rs.length cr, .slice aw ws.length cw] 27)).heap[w.heap.size]? = some _ := heap_alloc_new w _
  have hE : cfgE hd bd rs ws = if decide (32 ≤ hd ∧ hd ≤ 500 ∧ 0 ≤ bd ∧ bd ≤ 200) = false then (0, 1) else if 24 < rs.length ∨ 6 < ws.length then (0, 10) else if (rtsE rs [] 0).2 = 0 then wrsE ws 0 else rtsE rs [] 0 := rfl
  generalize cfgE hd bd rs ws = E at *
  generalize hLB : decide (32 ≤ hd ∧ hd ≤ 500 ∧ 0 ≤ bd ∧ bd ≤ 200) = LB at *
  have HE := hid hE
  have HRw := hid hR
  have HWw := hid hW
  have HRO := hid hro
  have HWO := hid hwo
  clear hR hW hE hro hwo hLB
  go_enter Tryz.func45, Tryz.ntmps45
  go_wp2_with fail
  generalize w.alloc (.cells #[.int .i64 hd, .int .i64 bd, .slice ar rs.length cr, .slice aw ws.length cw] 27) = w1 at *
  refine (HNT.out _).mono ?_
  rintro x w2 ⟨rfl, hT0, hb2, hz2⟩
  have c0 : w1.cell? ⟨w.heap.size, 0, none⟩ = some (.int .i64 hd) := by rw [Lib.cell_of_heap hg]; rfl
  have c1 : w1.cell? ⟨w.heap.size, 1, none⟩ = some (.int .i64 bd) := by rw [Lib.cell_of_heap hg]; rfl
  have c2 : w1.cell? ⟨w.heap.size, 2, none⟩ = some (.slice ar rs.length cr) := by rw [Lib.cell_of_heap hg]; rfl
  have c3 : w1.cell? ⟨w.heap.size, 3, none⟩ = some (.slice aw ws.length cw) := by rw [Lib.cell_of_heap hg]; rfl
  have l1 := block_lt_of_cell c0
  have hB2 := bel_of hA hb2
  have k0 := cell_later hb2 c0
  have k1 := cell_later hb2 c1
  have l2 := block_lt_of_cell k0
  have HT0 := hid hT0
  clear hT0 HNT hg
  go_wp2_with fail
  refine (HLM.out _).mono ?_
  rintro x w3 ⟨rfl, hb3⟩
  have hb13 := bel_of hb2 hb3
  have hB3 := bel_of hB2 hb3
  have k2 := cell_later hb13 c2
  have k3 := cell_later hb13 c3
  have l3 := block_lt_of_cell k2
  clear HLM k0 k1
  cases LB
  · have hE := HE.out
    rw [if_pos rfl] at hE
    subst hE
    clear HE
    go_wp2_with fail
    refine bodyPost_ret (v := .tuple #[.pointer (some ⟨w1.heap.size, 0, none⟩), .int .i64 0, .int .i64 1]) (by simp [results, Tryz.results45, go_sem]) rfl ?_
    exact ⟨_, rfl, hB3, fun h => absurd h (by simp)⟩
  · have hE := HE.out
    rw [if_neg (by simp)] at hE
    by_cases hf : 24 < rs.length ∨ 6 < ws.length
    · rw [if_pos hf] at hE
      subst hE
      clear HE
      by_cases f1 : 24 < rs.length
      · have f2 : (24 : Int) < (rs.length : Int) := by omega
        go_wp2_with fail
        refine bodyPost_ret (v := .tuple #[.pointer (some ⟨w1.heap.size, 0, none⟩), .int .i64 0, .int .i64 10]) (by simp [results, Tryz.results45, go_sem]) rfl ?_
        exact ⟨_, rfl, hB3, fun h => absurd h (by simp)⟩
      · have f2 : ¬ (24 : Int) < (rs.length : Int) := by omega
        have f3 : (6 : Int) < (ws.length : Int) := by omega
        go_wp2_with fail
        refine bodyPost_ret (v := .tuple #[.pointer (some ⟨w1.heap.size, 0, none⟩), .int .i64 0, .int .i64 10]) (by simp [results, Tryz.results45, go_sem]) rfl ?_
        exact ⟨_, rfl, hB3, fun h => absurd h (by simp)⟩
    · rw [if_neg hf] at hE
      have f2 : ¬ (24 : Int) < (rs.length : Int) := by omega
      have f3 : ¬ (6 : Int) < (ws.length : Int) := by omega
      have HE1 := hid hE
      have I0 : Hid (TaI w1.heap.size rs 0 w1 w3) := ⟨⟨_, HT0.out.below hb3⟩, fun i j hi => absurd hi (by simp), fun e he => absurd he (by simp), hb13, Nat.lt_of_lt_of_le HT0.out.lt hb3.size⟩
      generalize hRR : rtsE rs [] 0 = RR at *
      have HRR : Hid (rtsE (rs.drop 0) ((rs.take 0).map rtBare) 0 = RR) := hRR
      clear HE hE hRR HT0
      go_wp2_with fail
      clear k2 k3
      go_loopw [7] (fun i wr => ∃ k : Nat, k ≤ rs.length ∧ i = .int .i64 k ∧ Hid (TaI w1.heap.size rs k w1 wr) ∧ Hid (rtsE (rs.drop k) ((rs.take k).map rtBare) k = RR)) (fun i _ => rs.length - (intOf i).toNat)
      case atStart => exact ⟨0, Nat.zero_le _, rfl, I0, HRR⟩
      case round =>
        obtain ⟨k, hk, rfl, HI, HK⟩ := hrel
        obtain ⟨⟨v, T⟩, hsp, hsz, hbw, lgs⟩ := HI.out
        have hbW : Below w.heap.size w wr := hA.trans (hbw.mono (Nat.le_of_lt l1))
        have c2r : wr.cell? ⟨w.heap.size, 2, none⟩ = some (.slice ar rs.length cr) := by rw [World.cell?_of_block (hbw.block w.heap.size l1)]; exact c2
        have c3r : wr.cell? ⟨w.heap.size, 3, none⟩ = some (.slice aw ws.length cw) := by rw [World.cell?_of_block (hbw.block w.heap.size l1)]; exact c3
        have lr : w.heap.size < wr.heap.size := Nat.lt_trans l1 lgs
        by_cases hlt : k < rs.length
        · obtain ⟨g, o, rfl, hg0, p0, p1, p2, p3, p4, p5⟩ := rt_cells HRw.out hlt
          have q0 := cell_later hbW p0
          have q1 := cell_later hbW p1
          have hg : g < wr.heap.size := Nat.lt_trans hg0 lr
          have hrs := HRO.out _ (List.getElem_mem hlt)
          have hm1 := hrs.m
          have hm2 := hrs.p
          have hm3 := hrs.t
          have hrts := rts_at rs k hlt _ rfl
          have hre := refB_rtP (rs.take k)
          have HAD := hid (fun W (hW : Below wr.heap.size wr W) => rAdd_any w1.heap.size w1.heap.size ((rs.take k).map rtP) v rs[k].m rs[k].p W (T.below hW) (by unfold maxLen; omega) (by omega) (Nat.le_refl _) (Nat.le_trans (Nat.le_of_lt lgs) hW.size))
          have HNX := hid (fun W w' v' (hW : Below wr.heap.size wr W) (hb : Below w1.heap.size W w') (hT : TrAt w1.heap.size w1.heap.size ((rs.take k).map rtP ++ [(rs[k].m, rs[k].p)]) v' w') (hok : (adE rs[k].m.data.toList rs[k].p.data.toList (((rs.take k).map rtP).map refB)).2 = 0) => TaI.next hlt HI.out hW hb hT hok)
          have HERR := hid (fun (h : (adE rs[k].m.data.toList rs[k].p.data.toList (((rs.take k).map rtP).map refB)).2 ≠ 0) => ad_err (es := ((rs.take k).map rtP).map refB) (r := rs[k]'hlt) h)
          have HOK := hid (fun (h : (adE rs[k].m.data.toList rs[k].p.data.toList (((rs.take k).map rtP).map refB)).2 = 0) => (ad_ok (es := ((rs.take k).map rtP).map refB) (r := rs[k]'hlt) h).1)
          rw [HK.out, ← hre] at hrts
          have HRT := hid hrts
          unfold RaPost at HAD
          generalize adE rs[k].m.data.toList rs[k].p.data.toList (((rs.take k).map rtP).map refB) = AE at *
          generalize rtE (((rs.take k).map rtP).map refB) rs[k] = RE at *
          have HHN := hid (fun W => rhandles_any rs[k].h.k rs[k].h.st rs[k].h.t rs[k].h.n W (by unfold maxLen; omega))
          generalize hndB rs[k].h.k rs[k].h.st rs[k].h.t.data.toList = HB at *
          generalize rs[k] = r at *
          obtain ⟨rm, rp, ⟨rk, rst, rt, rn⟩⟩ := r
          simp only at *
          have P2 := hid (And.intro p2 (And.intro p3 (And.intro p4 p5)))
          have P0 := hid p0
          have P1 := hid p1
          clear T HI HK hrts hre p0 p1 p2 p3 p4 p5 hsp hsz hm1 hm2 hm3 hrs HRR
          go_upto_region 10 with fail
          go_region_held3 (fun W => W.cell? ⟨w.heap.size, 2, none⟩ = some (.slice (some ⟨g, o, none⟩) rs.length cr) ∧ W.cell? ⟨g, o + k * 6, none⟩ = some (.string rm) ∧ W.cell? ⟨g, o + k * 6 + 1, none⟩ = some (.string rp)) (go_keep)
            (first | (go_at_call 76; refine (HAD.out _ (Below.refl wr.heap.size wr).drew).mono ?_; rintro x w4 ⟨rfl, hbl, had1, had2⟩; have hb4 : Below w1.heap.size w1 w4 := (hbw.trans ((Below.refl wr.heap.size wr).drew.mono (Nat.le_of_lt lgs))).trans hbl; have hB4 := hA.trans (hb4.mono (Nat.le_of_lt l1)); have r0 := cell_later hB4 P0.out; have r1 := cell_later hB4 P1.out; have r2 : w4.cell? ⟨w.heap.size, 2, none⟩ = some (.slice (some ⟨g, o, none⟩) rs.length cr) := (World.cell?_of_block (hb4.block w.heap.size l1)).trans c2; have HX := hid (And.intro hbl had2); have lg4 : g < w4.heap.size := block_lt_of_cell r0; have lw4 := block_lt_of_cell r2; clear had1 had2 hbl))
          all_goals
            by_cases q : AE.2 = 0
            · have hq : (AE.2 != 0) = false := by rw [q]; rfl
              obtain ⟨v', T4⟩ := HX.out.2 q
              have HN4 := hid (HNX.out _ _ v' (Below.refl wr.heap.size wr).drew HX.out.1 T4 q)
              have hre2 := HOK.out q
              have s2 := cell_later hB4 P2.out.1
              have s3 := cell_later hB4 P2.out.2.1
              have s4 := cell_later hB4 P2.out.2.2.1
              have s5 := cell_later hB4 P2.out.2.2.2
              have HH := hid (HHN.out w4)
              clear HAD HNX HERR HOK HHN T4 HX
              go_wp2_with fail
              refine HH.out.mono ?_
              rintro x w5 ⟨rfl, hb5⟩
              have hb15 : Below w1.heap.size w1 w5 := hb4.trans (hb5.mono (Nat.le_of_lt HN4.out.2.2.2.2))
              have hB5 := bel_of hB4 hb5
              cases HB
              · rw [if_pos rfl] at hre2
                have hrt := HRT.out
                rw [hre2, if_neg (by decide)] at hrt
                have hE := HE1.out
                rw [hrt, if_neg (by simp)] at hE
                have HEE := hid hE
                clear HH hrt hE hre2 HRT
                go_wp2_with fail
                refine bodyPost_ret (v := .tuple #[.pointer (some ⟨w1.heap.size, 0, none⟩), .int .i64 k, .int .i64 12]) (by simp [results, Tryz.results45, go_sem]) rfl ?_
                rw [HEE.out]
                exact ⟨_, rfl, hB5, fun h => absurd h (by simp)⟩
              · rw [if_neg (by simp)] at hre2
                have hrt := HRT.out
                rw [hre2, if_pos rfl] at hrt
                have HRT2 := hid hrt.symm
                have HN5 : Hid (TaI w1.heap.size rs (k + 1) w1 w5) := ⟨⟨_, (HN4.out.1.choose_spec).below hb5⟩, HN4.out.2.1, HN4.out.2.2.1, hb15, Nat.lt_of_lt_of_le HN4.out.2.2.2.2 hb5.size⟩
                clear HH hrt hre2 HRT HN4
                go_wp2_with fail
                exact ⟨⟨k + 1, by omega, by go_num, HN5, HRT2⟩, by simp [intOf]; omega⟩
            · have hq : (AE.2 != 0) = true := by simpa using q
              have hrt := HRT.out
              rw [HERR.out q, if_neg q] at hrt
              have hE := HE1.out
              rw [hrt, if_neg q] at hE
              have HEE := hid hE
              clear HAD HNX HERR HOK HHN HX HRT hrt hE
              go_wp2_with fail
              refine bodyPost_ret (v := .tuple #[.pointer (some ⟨w1.heap.size, 0, none⟩), .int .i64 k, .int .i64 AE.2]) (by simp [results, Tryz.results45, go_sem]) rfl ?_
              rw [HEE.out]
              exact ⟨_, rfl, hB4, fun h => absurd h q⟩
        · have hne : ¬ (k : Int) < (rs.length : Int) := by omega
          have hkk : rs.take k = rs := List.take_of_length_le (by omega)
          have hr0 := HK.out
          rw [List.drop_eq_nil_of_le (by omega), rtsE] at hr0
          have hE := HE1.out
          rw [← hr0, if_pos rfl] at hE
          have HEE : Hid (E = wrsE (ws.drop 0) 0) := hE
          rw [hkk] at hsp hsz T
          have HFIN := hid (fun W (hW : Below wr.heap.size wr W) => (⟨_, _, refB_rtP rs, T.below hW, hsp, hsz⟩ : ∃ es v, es.map refB = rs.map rtBare ∧ TrAt w1.heap.size w1.heap.size es v W ∧ Sp es ∧ ∀ e ∈ es, e.1.size ≤ 1000))
          clear HI HK T hsp hsz hr0 hE HE1 HRR
          go_wp2_with fail
          go_loopw [11] (fun i ws' => ∃ j : Nat, j ≤ ws.length ∧ i = .int .i64 j ∧ Hid (E = wrsE (ws.drop j) j) ∧ Below wr.heap.size wr ws') (fun i _ => ws.length - (intOf i).toNat)
          case atStart => exact ⟨0, Nat.zero_le _, rfl, HEE, Below.refl _ _⟩
          case round =>
            rename_i wj _
            obtain ⟨j, hj, rfl, HJ, hbj⟩ := hrel
            have hBj := bel_of hbW hbj
            have c3j := cell_later hbj c3r
            have lj := block_lt_of_cell c3j
            by_cases hltw : j < ws.length
            · obtain ⟨gw, ow, rfl, hgw, p0, p1, p2, p3⟩ := wr_cells HWw.out hltw
              have q0 := cell_later hBj p0
              have q1 := cell_later hBj p1
              have q2 := cell_later hBj p2
              have q3 := cell_later hBj p3
              have hgj := block_lt_of_cell q0
              have hwz := (HWO.out _ (List.getElem_mem hltw)).1
              have HWA := hid (fun W => rwares_any ws[j].k ws[j].lim ws[j].n ws[j].v W (by unfold maxLen; omega))
              have hws := HJ.out
              rw [← List.getElem_cons_drop hltw, wrsE] at hws
              have HWS := hid hws
              generalize wareB ws[j].k ws[j].n.data.toList ws[j].v.data.toList ws[j].lim = WB at *
              generalize ws[j] = x at *
              obtain ⟨xk, xn, xv, xl⟩ := x
              simp only at *
              clear HJ hws p0 p1 p2 p3
              go_wp2_with fail
              refine (HWA.out _).mono ?_
              rintro x w6 ⟨rfl, hb6⟩
              have hb6r := bel_of hbj hb6
              have hB6 := bel_of hBj hb6
              clear HWA
              cases WB
              · have hws := HWS.out
                rw [if_neg (by simp)] at hws
                have HWS2 := hid hws
                clear HWS hws
                go_wp2_with fail
                refine bodyPost_ret (v := .tuple #[.pointer (some ⟨w1.heap.size, 0, none⟩), .int .i64 j, .int .i64 13]) (by simp [results, Tryz.results45, go_sem]) rfl ?_
                rw [HWS2.out]
                exact ⟨_, rfl, hB6, fun h => absurd h (by simp)⟩
              · have hws := HWS.out
                rw [if_pos rfl] at hws
                have HWS2 := hid hws
                clear HWS hws
                go_wp2_with fail
                exact ⟨⟨j + 1, by omega, by go_num, HWS2, hb6r⟩, by simp [intOf]; omega⟩
            · have hne : ¬ (j : Int) < (ws.length : Int) := by omega
              have hws := HJ.out
              rw [List.drop_eq_nil_of_le (by omega), wrsE] at hws
              have HWS2 := hid hws
              have HF := hid (HFIN.out _ hbj)
              clear HJ hws HFIN
              go_wp2_with fail
              refine bodyPost_ret (v := .tuple #[.pointer (some ⟨w1.heap.size, 0, none⟩), .int .i64 0, .int .i64 0]) (by simp [results, Tryz.results45, go_sem]) rfl ?_
              rw [HWS2.out]
              exact ⟨_, rfl, hBj, fun _ => HF.out⟩
end Go.Proofs.YtfdhmeojkagokaaGreatDoor
