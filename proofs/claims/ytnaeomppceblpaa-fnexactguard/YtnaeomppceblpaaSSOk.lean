/-
  The contracts of spec.StateOk and impl.StateOk.
-/
import Derived.Test.YtnaeomppceblpaaSOk
namespace Go.Proofs.Ytnaeomppceblpaa.S
open Go.RowKit

set_option maxHeartbeats 1000000 in
theorem sStateOk_any (b0 b1 c0 c1 : Nat) (t h : List Int) (w : World) (_n0 : t.length ≤ 1048576) (n1 : h.length ≤ 1048576) (o0 : OwnI w b0 t.length t t.length) (o1 : OwnI w b1 h.length h h.length) :
    Calls Try.prog 35 #[.agg #[.slice (some ⟨b0, 0, none⟩) t.length c0, .slice (some ⟨b1, 0, none⟩) h.length c1]] w fun e w' => e = .returned (.bool (sOk t h)) ∧ Below w.heap.size w w' := by
  have L0 : Below w.heap.size w (w.alloc (.cells #[.slice (some ⟨b0, 0, none⟩) t.length c0, .slice (some ⟨b1, 0, none⟩) h.length c1] 43)) := (Below.refl _ _).alloc (Nat.le_refl _) _
  have H16 : Hid (t.length ≠ 16 → sOk t h = false) := fun h => by unfold sOk tOk; simp [h]
  have H7 : Hid (h.length ≠ 7 → sOk t h = false) := fun h => by unfold sOk hOk; simp [h]
  have HT0 : Hid (t.getD 0 0 ≠ 0 → sOk t h = false) := fun h => by unfold sOk tOk; rw [decide_eq_false h]; simp
  have HH0 : Hid (h.getD 0 0 ≠ -1 → sOk t h = false) := fun h => by unfold sOk hOk; rw [decide_eq_false h]; simp
  have HF : Hid (∀ i, i < t.length → pOk (t.getD i 0) = false → sOk t h = false) := fun i hi h => by unfold sOk tOk; rw [all_false hi h]; simp
  have HT : Hid (t.length = 16 → t.getD 0 0 = 0 → (∀ i, i < t.length → pOk (t.getD i 0) = true) → sOk t h = hOk h) := fun h1 h2 h3 => by unfold sOk tOk; rw [all_true h3, decide_eq_true h1, decide_eq_true h2]; simp
  obtain ⟨x0, e0⟩ : ∃ x0, Hid (t.getD 0 0 = x0) := ⟨_, rfl⟩
  obtain ⟨y0, e1⟩ : ∃ y0, Hid (h.getD 0 0 = y0) := ⟨_, rfl⟩
  rw [e0.out] at HT0 HT
  rw [e1.out] at HH0
  by_cases q1 : t.length = 16
  · by_cases q2 : h.length = 7
    · have hx0 := (o0.alloc (.cells #[.slice (some ⟨b0, 0, none⟩) t.length c0, .slice (some ⟨b1, 0, none⟩) h.length c1] 43)).2.2 0 (by omega)
      have hy0 := (o1.alloc (.cells #[.slice (some ⟨b0, 0, none⟩) t.length c0, .slice (some ⟨b1, 0, none⟩) h.length c1] 43)).2.2 0 (by omega)
      rw [e0.out] at hx0
      rw [e1.out] at hy0
      have q2' : (h.length : Int) = 7 := by omega
      have q1' : (t.length : Int) = 16 := by omega
      rw [q1, q2] at hx0 hy0
      by_cases q3 : x0 = 0
      · by_cases q4 : y0 = -1
        · subst q3; subst q4
          rw [q1, q2]
          go_enter Try.func35, Try.ntmps35
          go_wp2
          clear hx0 hy0
          rw [q1] at o0 L0
          rw [q2] at L0
          have B0 := Box.new w (.slice (some ⟨b0, 0, none⟩) 16 c0) (.slice (some ⟨b1, 0, none⟩) 7 c1) 43
          replace o0 := o0.alloc (.cells #[.slice (some ⟨b0, 0, none⟩) 16 c0, .slice (some ⟨b1, 0, none⟩) 7 c1] 43)
          replace o1 := o1.alloc (.cells #[.slice (some ⟨b0, 0, none⟩) 16 c0, .slice (some ⟨b1, 0, none⟩) 7 c1] 43)
          generalize (w.alloc (.cells #[.slice (some ⟨b0, 0, none⟩) 16 c0, .slice (some ⟨b1, 0, none⟩) 7 c1] 43)) = w1 at *
          have z0 := B0.c0; have z1 := B0.c1
          go_loop [3] (fun i => ∃ k : Nat, k ≤ 16 ∧ i = .int .i64 k ∧ Hid (∀ i, i < k → pOk (t.getD i 0) = true)) (fun i => 16 - (intOf i).toNat)
          case atStart => exact ⟨0, Nat.zero_le _, rfl, fun i hi => by omega⟩
          case round =>
            obtain ⟨k, hk, rfl, hall⟩ := hrel
            by_cases hlt : k < 16
            · have hx := o0.2.2 k hlt
              obtain ⟨x, ex⟩ : ∃ x, Hid (t.getD k 0 = x) := ⟨_, rfl⟩
              rw [ex.out] at hx
              by_cases q3 : x < 0
              · go_wp2
                go_ret
                exact ⟨ret_bool (HF.out k (by omega) (by rw [ex.out]; simp [pOk]; omega)).symm, L0⟩
              · by_cases q4 : x > 6
                · go_wp2
                  go_ret
                  exact ⟨ret_bool (HF.out k (by omega) (by rw [ex.out]; simp [pOk]; omega)).symm, L0⟩
                · go_wp2
                  go_round
                  case rel => exact ⟨k + 1, by omega, by go_num, fun i hi => by
                    by_cases e : i = k
                    · subst e; rw [ex.out]; simp [pOk]; omega
                    · exact hall.out i (by omega)⟩
                  case measure => simp [intOf]; omega
            · obtain rfl : k = 16 := by omega
              have o2 : OwnI w1 b1 7 h 7 := by rw [q2] at o1; exact o1
              have hc := l2heap_any b1 c1 h w1 n1 (by exact o1)
              rw [q2] at hc
              go_wp2_with fail
              refine hc.mono ?_
              rintro e w2 ⟨rfl, rfl⟩
              go_wp2
              go_ret
              exact ⟨ret_bool (HT.out q1 (by trivial) (by rw [q1]; exact hall.out)).symm, L0⟩
        · subst q3
          rw [q1, q2]
          go_enter Try.func35, Try.ntmps35
          go_wp2
          go_ret
          exact ⟨ret_bool (HH0.out q4).symm, by rw [q1, q2] at L0; exact L0⟩
      · rw [q1, q2]
        go_enter Try.func35, Try.ntmps35
        go_wp2
        go_ret
        exact ⟨ret_bool (HT0.out q3).symm, by rw [q1, q2] at L0; exact L0⟩
    · have q2' : ¬ (h.length : Int) = 7 := by omega
      have q1' : (t.length : Int) = 16 := by omega
      go_enter Try.func35, Try.ntmps35
      go_wp2
      go_ret
      exact ⟨ret_bool (H7.out q2).symm, by first | exact L0 | (rw [q1] at L0; exact L0)⟩
  · have q1' : ¬ (t.length : Int) = 16 := by omega
    go_enter Try.func35, Try.ntmps35
    go_wp2
    go_ret
    exact ⟨ret_bool (H16.out q1).symm, L0⟩

set_option maxHeartbeats 1000000 in
theorem iStateOk_any (b0 b1 c0 c1 : Nat) (t h : List Int) (w : World) (n0 : t.length ≤ 1048576) (n1 : h.length ≤ 1048576) (o0 : OwnI w b0 t.length t t.length) (o1 : OwnI w b1 h.length h h.length) :
    Calls Try.prog 37 #[.agg #[.slice (some ⟨b0, 0, none⟩) t.length c0, .slice (some ⟨b1, 0, none⟩) h.length c1]] w fun e w' => e = .returned (.bool (sOk t h)) ∧ Below w.heap.size w w' := by
  have L0 : Below w.heap.size w (w.alloc (.cells #[.slice (some ⟨b0, 0, none⟩) t.length c0, .slice (some ⟨b1, 0, none⟩) h.length c1] 43)) := (Below.refl _ _).alloc (Nat.le_refl _) _
  have H16 : Hid (t.length ≠ 16 → sOk t h = false) := fun h => by unfold sOk tOk; simp [h]
  have HT0 : Hid (t.getD 0 0 ≠ 0 → sOk t h = false) := fun h => by unfold sOk tOk; rw [decide_eq_false h]; simp
  have HT : Hid (t.length = 16 → t.getD 0 0 = 0 → sOk t h = (t.all pOk && hOk h)) := fun h1 h2 => by unfold sOk tOk; rw [decide_eq_true h1, decide_eq_true h2]; simp
  obtain ⟨x0, e0⟩ : ∃ x0, Hid (t.getD 0 0 = x0) := ⟨_, rfl⟩
  rw [e0.out] at HT0 HT
  by_cases q1 : t.length = 16
  · replace o0 := o0.alloc (.cells #[.slice (some ⟨b0, 0, none⟩) t.length c0, .slice (some ⟨b1, 0, none⟩) h.length c1] 43)
    replace o1 := o1.alloc (.cells #[.slice (some ⟨b0, 0, none⟩) t.length c0, .slice (some ⟨b1, 0, none⟩) h.length c1] 43)
    have hx0 := o0.2.2 0 (by omega)
    rw [e0.out] at hx0
    have hp := placesOk_any b0 c0 t _ n0 (by exact o0)
    have hh := heapOk_any b1 c1 h _ n1 (by exact o1)
    have q1' : (t.length : Int) = 16 := by omega
    rw [q1] at hp hh hx0 L0
    by_cases q3 : x0 = 0
    · subst q3
      rw [q1]
      generalize t.all pOk = r at *
      generalize hOk h = q at *
      cases r
      · go_enter Try.func37, Try.ntmps37
        go_wp2_with (go_at_call 89; refine hp.mono ?_; rintro e w1 ⟨rfl, rfl⟩)
        go_ret
        exact ⟨ret_bool (HT.out q1 (by trivial)).symm, L0⟩
      · go_enter Try.func37, Try.ntmps37
        go_wp2_with (first | (go_at_call 89; refine hp.mono ?_; rintro e w1 ⟨rfl, rfl⟩) | (go_at_call 90; refine hh.mono ?_; rintro e w1 ⟨rfl, rfl⟩))
        go_ret
        exact ⟨ret_bool (by rw [HT.out q1 (by trivial)]; simp), L0⟩
    · rw [q1]
      go_enter Try.func37, Try.ntmps37
      go_wp2
      go_ret
      exact ⟨ret_bool (HT0.out q3).symm, L0⟩
  · have q1' : ¬ (t.length : Int) = 16 := by omega
    go_enter Try.func37, Try.ntmps37
    go_wp2
    go_ret
    exact ⟨ret_bool (H16.out q1).symm, L0⟩

end Go.Proofs.Ytnaeomppceblpaa.S
