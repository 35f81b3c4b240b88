/-
  The contract of spec.l9lines.
-/
import Derived.Test.YtccldjodijdciaaDoorLn
namespace Go.Proofs.YtccldjodijdciaaDoor
open Go.RowKit


/-- append([]byte{}, some bytes..): a row of the call's own that reads as these bytes. -/
theorem append_fresh (w : World) (Z : Nat) (b off m c : Nat) (l : List Int) (hl : l.length = m) (hm : m ≤ 1048576) (hc : ∀ i, i < m → w.cell? ⟨b, off + i, none⟩ = some (.int .u8 (l.getD i 0))) :
    ∃ a c' w', (Builtin.append_ #[22, 22] 22 #[.slice (some ⟨Z, 0, none⟩) 0 0, .slice (some ⟨b, off, none⟩) m c]).run Tryd.prog w = .ok (.slice a m c') w' ∧ (l = [] ∨ ∃ g, a = some ⟨g, 0, none⟩ ∧ w.heap.size ≤ g ∧ OwnY w' g m l m) ∧ Below w.heap.size w w' := by
  obtain ⟨i0, hi, hz0, hz1, hz2⟩ := i5
  have hcell : ∀ j u, (ic l)[j]? = some u → w.cell? ((⟨b, off, none⟩ : Addr).add j) = some u := by
    intro j u hj
    have hj' : j < l.length := by
      have := (List.getElem?_eq_some_iff.1 hj).1
      simpa [ic] using this
    have e : (⟨b, off, none⟩ : Addr).add j = ⟨b, off + j, none⟩ := by unfold Addr.add; split <;> simp_all
    rw [e, hc j (by omega)]
    simp [ic] at hj
    obtain ⟨x, hx, rfl⟩ := hj
    rw [List.getD_eq_getElem?_getD, hx]
    rfl
  have h1 : ∀ y ∈ ic l, y.oneCell' = true := by
    intro y hy
    simp [ic] at hy
    obtain ⟨x, _, rfl⟩ := hy
    rfl
  have hsrc := Src.ofSlice (P := Tryd.prog) w (size := i0.size) Tryd.underlying22 ⟨b, off, none⟩ m c (ic l) (by rw [ic_length, hz1, hl]) hcell h1
  by_cases h0 : m = 0
  · subst h0
    have hl0 : l = [] := List.eq_nil_of_length_eq_zero hl
    subst hl0
    have h := run_append_room_src (P := Tryd.prog) w 22 22 22 5 i0 Tryd.underlying22 hi Z 0 0 0 _ 0 (ic []) hsrc (by omega) (by intro j h; cases h) (by intro j h; cases h)
    exact ⟨_, _, _, by simpa [ic, World.setCells] using h, .inl rfl, Below.refl _ _⟩
  · have h := run_append_grow_src (P := Tryd.prog) w 22 22 22 5 i0 _ Tryd.underlying22 hi hz0 (some ⟨Z, 0, none⟩) 0 0 [] (by rw [hz1]; exact run_firstCells_some w.drew 1 0 ⟨Z, 0, none⟩ 0 0 [] rfl (by intro j u hj; simp at hj)) _ m (ic l) hsrc (by omega) (by omega) (by rw [hz2]; exact growslice_fits (need := 0 + m) (old := 0) (bytes := 1) (by omega) (by omega))
    have hge := grownCap_ge w (0 + m) 0 5
    have hcm : grownCap w (0 + m) 0 5 ≤ maxLen := grownCap_le_maxLen w (0 + m) 0 5 (by unfold maxLen; omega)
    rw [Nat.zero_add] at h hge hcm
    refine ⟨_, _, _, h, .inr ⟨_, rfl, Nat.le_refl _, ?_⟩, ((Below.refl w.heap.size w).drew).alloc (by simp) _⟩
    have hown : World.ownsRow (w.drew.alloc (.cells (([] ++ ic l).toArray ++ Builtin.zeroCells (Value.int .u8 0).cells (grownCap w m 0 5 - m)) 5)) w.heap.size 5 1 (.slice (some ⟨w.heap.size, 0, none⟩) m (grownCap w m 0 5)) m (ic l) := by
      refine ⟨by rw [ic_length]; omega, .inr ⟨w.heap.size, _, _, rfl, Nat.le_refl _, heap_alloc_new w.drew _, hge, hcm, ?_, ?_⟩⟩
      · simp only [Array.size_append, List.size_toArray, size_zeroCells, List.nil_append, ic_length, hl]
        simp [Value.cells]
        omega
      · simp only [Array.toList_append, List.nil_append]
        have hlm : m * 1 = (ic l).length := by rw [ic_length]; omega
        rw [hlm]
        exact List.take_left
    exact (OwnY.ofOwns hown).2.2

set_option maxRecDepth 20000 in
set_option maxHeartbeats 2000000 in
theorem l9lines_any (b : Nat) (l : List Int) (w : World) (hn : l.length ≤ 1048576) (hr : OwnY w b l.length l l.length) :
    Calls Tryd.prog 16 #[.slice (some ⟨b, 0, none⟩) l.length l.length] w fun e w' => ∃ v, e = .returned v ∧ LRow w' w.heap.size v (linesV l) ∧ Below w.heap.size w w' := by
  have hb := hr.1
  have hc := hr.2.2
  have HL : Hid (linesV l = cutG [] (l.drop 0)) := rfl
  have HLE : Hid (∀ o : List (List Int), ∀ x : List (List Int), o ++ x = linesV l → o.length ≤ l.length) := by
    intro o x h
    have h1 := linesV_le l
    rw [← h, List.length_append] at h1
    omega
  clear hr
  generalize hN : l.length = n at *
  have HN : Hid (l.length = n) := hN
  clear hN
  go_enter Tryd.func16, Tryd.ntmps16
  go_wp2
  go_loopw [3, 4, 5] (fun v f i wr => ∃ (k j : Nat) (o : List (List Int)), k ≤ n ∧ j ≤ k ∧ i = .int .i64 k ∧ f = .int .i64 j ∧ LRow wr w.heap.size v o ∧ Hid (o ++ cutG ((l.drop j).take (k - j)) (l.drop k) = linesV l) ∧ Below w.heap.size w wr) (fun _ _ i _ => n - (intOf i).toNat)
  case atStart => exact ⟨0, 0, [], Nat.zero_le _, Nat.le_refl _, rfl, rfl, LRow.nil _ _, by show _ = _; rw [HL.out]; rfl, Below.refl _ _⟩
  case round =>
    obtain ⟨k, j, o, hk, hj, rfl, rfl, ho, hg, hbw⟩ := hrel
    by_cases hlt : k < n
    · have hx := hbw.cell (p := ⟨b, 0 + k, none⟩) hb
      rw [Nat.zero_add, hc k hlt] at hx
      by_cases h10 : l.getD k 0 = 10
      · rw [h10] at hx
        have hpl : ((l.drop j).take (k - j)).length = k - j := by rw [List.length_take, List.length_drop, HN.out]; omega
        have hpc : ∀ i, i < k - j → (wr.alloc (.cells #[] 5)).cell? ⟨b, j + i, none⟩ = some (.int .u8 (((l.drop j).take (k - j)).getD i 0)) := by
          intro i hi
          have hbr : b < wr.heap.size := Nat.lt_of_lt_of_le hb hbw.size
          rw [((Below.refl wr.heap.size wr).alloc (Nat.le_refl _) _).cell (p := ⟨b, j + i, none⟩) hbr, hbw.cell (p := ⟨b, j + i, none⟩) hb, hc (j + i) (by omega)]
          congr 2
          rw [List.getD_eq_getElem?_getD, List.getD_eq_getElem?_getD, List.getElem?_take, if_pos hi, List.getElem?_drop]
        obtain ⟨a1, c1, w1, r1, y1, L1⟩ := append_fresh (wr.alloc (.cells #[] 5)) wr.heap.size b j (k - j) (n - j) _ hpl (by omega) hpc
        have LA : Below wr.heap.size wr w1 := ((Below.refl wr.heap.size wr).alloc (Nat.le_refl _) _).trans (L1.mono (by simp))
        have hown := ho.own_lt
        have hyo : YOff w1 u3.ownBlock a1 ((l.drop j).take (k - j)) := by
          rcases y1 with y1 | ⟨g, rfl, hg1, hg2⟩
          · exact .inl y1
          · refine .inr ⟨g, 0, rfl, ?_, hg2.1, fun i hi => by rw [Nat.zero_add]; exact hg2.2.2 i (by omega)⟩
            intro e
            have := (hown g e).2
            simp at hg1
            omega
        have hg2 : Hid ((o ++ [(l.drop j).take (k - j)]) ++ cutG ((l.drop (k + 1)).take (k + 1 - (k + 1))) (l.drop (k + 1)) = linesV l) := by
          show _ = _
          rw [← hg.out, cutG_end (by rw [HN.out]; exact hlt) _ h10]
          simp
        have hol : o.length < 1048576 := by
          have := HLE.out _ _ hg2.out
          simp at this
          omega
        obtain ⟨v2, w2, r2, ho2, L2⟩ := (ho.below LA).push (ci := c1) hyo (Nat.le_trans hbw.size LA.size) (by omega) 1
        rw [hpl] at r2
        have hbw2 := (hbw.trans (LA.mono hbw.size)).trans L2
        have R1 := (show Hid _ from r1); have R2 := (show Hid _ from r2)
        clear r1 r2 y1 hyo hown hol hpc hg ho LA L1 L2 hbw hpl HL HLE
        go_wp2_with (first | (at_builtin; refine wpList_append_run rfl _ _ 22 22 rfl (.slice (some ⟨wr.heap.size, 0, none⟩) 0 0) (.slice (some ⟨b, j, none⟩) (k - j) (n - j)) (.slice a1 (k - j) c1) w1 rfl rfl R1.out ?_) | (at_builtin; refine wpList_append_run rfl _ _ 32 32 rfl u3 (.slice (some ⟨w1.heap.size, 0, none⟩) 1 1) v2 w2 rfl rfl R2.out ?_))
        go_roundw
        case rel => exact ⟨k + 1, k + 1, _, by omega, Nat.le_refl _, by go_num, by go_num, ho2, hg2, hbw2⟩
        case measure => simp [intOf]; omega
      · have hne : (l.getD k 0 == 10) = false := beq_eq_false_iff_ne.2 h10
        have hg2 : Hid (o ++ cutG ((l.drop j).take (k + 1 - j)) (l.drop (k + 1)) = linesV l) := by
          show _ = _
          rw [← hg.out, cutG_on (by rw [HN.out]; exact hlt) _ h10, piece_on hj (by rw [HN.out]; exact hlt)]
        generalize l.getD k 0 = x at *
        go_wp2
        go_roundw
        case rel => exact ⟨k + 1, j, _, by omega, by omega, by go_num, rfl, ho, hg2, hbw⟩
        case measure => simp [intOf]; omega
    · obtain rfl : k = n := by omega
      by_cases hjn : j < k
      · have hpl : ((l.drop j).take (k - j)).length = k - j := by rw [List.length_take, List.length_drop, HN.out]; omega
        have hpc : ∀ i, i < k - j → (wr.alloc (.cells #[] 5)).cell? ⟨b, j + i, none⟩ = some (.int .u8 (((l.drop j).take (k - j)).getD i 0)) := by
          intro i hi
          have hbr : b < wr.heap.size := Nat.lt_of_lt_of_le hb hbw.size
          rw [((Below.refl wr.heap.size wr).alloc (Nat.le_refl _) _).cell (p := ⟨b, j + i, none⟩) hbr, hbw.cell (p := ⟨b, j + i, none⟩) hb, hc (j + i) (by omega)]
          congr 2
          rw [List.getD_eq_getElem?_getD, List.getD_eq_getElem?_getD, List.getElem?_take, if_pos hi, List.getElem?_drop]
        obtain ⟨a1, c1, w1, r1, y1, L1⟩ := append_fresh (wr.alloc (.cells #[] 5)) wr.heap.size b j (k - j) (k - j) _ hpl (by omega) hpc
        have LA : Below wr.heap.size wr w1 := ((Below.refl wr.heap.size wr).alloc (Nat.le_refl _) _).trans (L1.mono (by simp))
        have hown := ho.own_lt
        have hyo : YOff w1 u3.ownBlock a1 ((l.drop j).take (k - j)) := by
          rcases y1 with y1 | ⟨g, rfl, hg1, hg2⟩
          · exact .inl y1
          · refine .inr ⟨g, 0, rfl, ?_, hg2.1, fun i hi => by rw [Nat.zero_add]; exact hg2.2.2 i (by omega)⟩
            intro e
            have := (hown g e).2
            simp at hg1
            omega
        have hlin : Hid (linesV l = o ++ [(l.drop j).take (k - j)]) := by
          show _ = _
          rw [← hg.out]
          congr 1
          have e : l.drop k = [] := List.drop_eq_nil_of_le (by rw [HN.out]; omega)
          rw [e, cutG, if_neg (by rw [hpl]; omega)]
        have hol : o.length < 1048576 := by
          have h1 := linesV_le l
          rw [hlin.out, List.length_append, HN.out] at h1
          simp at h1
          omega
        obtain ⟨v2, w2, r2, ho2, L2⟩ := (ho.below LA).push (ci := c1) hyo (Nat.le_trans hbw.size LA.size) hol 1
        rw [hpl] at r2
        have hbw2 := (hbw.trans (LA.mono hbw.size)).trans L2
        have R1 := (show Hid _ from r1); have R2 := (show Hid _ from r2)
        clear r1 r2 y1 hyo hown hol hpc hg ho LA L1 L2 hbw hpl HL HLE
        go_wp2_with (first | (at_builtin; refine wpList_append_run rfl _ _ 22 22 rfl (.slice (some ⟨wr.heap.size, 0, none⟩) 0 0) (.slice (some ⟨b, j, none⟩) (k - j) (k - j)) (.slice a1 (k - j) c1) w1 rfl rfl R1.out ?_) | (at_builtin; refine wpList_append_run rfl _ _ 32 32 rfl u3 (.slice (some ⟨w1.heap.size, 0, none⟩) 1 1) v2 w2 rfl rfl R2.out ?_))
        go_ret
        exact ⟨_, rfl, by rw [hlin.out]; exact ho2, hbw2⟩
      · have hlin : Hid (linesV l = o) := by
          show _ = _
          obtain rfl : j = k := by omega
          have e : l.drop j = [] := List.drop_eq_nil_of_le (by rw [HN.out]; omega)
          rw [← hg.out, e]
          simp [cutG]
        go_wp2
        go_ret
        exact ⟨_, rfl, by rw [hlin.out]; exact ho, hbw⟩

end Go.Proofs.YtccldjodijdciaaDoor
