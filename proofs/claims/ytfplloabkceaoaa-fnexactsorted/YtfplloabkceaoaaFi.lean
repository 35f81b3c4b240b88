/-
  Four slices in one block, set one after the other.
-/
import Derived.Test.YtfplloabkceaoaaVRow
import Derived.Test.YtfplloabkceaoaaBh
import Derived.Test.YtfplloabkceaoaaWd
namespace Go.Proofs.Ytfplloabkceaoaa
open Go.RowKit

/-- What is known of the four slices when those ahead of kind k are done; the others are still those of I. -/
def FilI (I : Nat → Value) (L : Nat → List (Int × Int)) (lo : Nat) (w : World) (V : Nat → Value) (H : Nat → Nat) (k : Nat) : Prop :=
  lo ≤ H 0 ∧ H k ≤ w.heap.size ∧ (∀ j, j < k → H j ≤ H (j + 1)) ∧ (∀ j, j < k → ∃ a c, V j = .slice a (L j).length c ∧ RowIn w (H j) (H (j + 1)) a (L j).length (L j) ∧ (a = none → c = 0)) ∧ ∀ j, k ≤ j → j < 4 → V j = I j

theorem FilI.lo_le {I : Nat → Value} {L : Nat → List (Int × Int)} {lo : Nat} {w : World} {V : Nat → Value} {H : Nat → Nat} {k : Nat} (h : FilI I L lo w V H k) : ∀ j, j ≤ k → lo ≤ H j := by
  intro j hj
  obtain ⟨h1, _, h3, _, _⟩ := h
  induction j with
  | zero => exact h1
  | succ j ih => exact Nat.le_trans (ih (by omega)) (h3 j (by omega))

theorem FilI.start (I : Nat → Value) (L : Nat → List (Int × Int)) (w : World) : FilI I L w.heap.size w I (fun _ => w.heap.size) 0 :=
  ⟨Nat.le_refl _, Nat.le_refl _, fun j hj => by omega, fun j hj => by omega, fun _ _ _ => rfl⟩

/-- One kind more is done. -/
theorem FilI.step {I : Nat → Value} {L : Nat → List (Int × Int)} {lo b : Nat} {w w' : World} {V : Nat → Value} {H : Nat → Nat} {k : Nat} (h : FilI I L lo w V H k) (hb : b < lo) (ho : Out b (b + 1) w w') {a : Option Addr} {c : Nat}
    (hr : RowIn w' w.heap.size w'.heap.size a (L k).length (L k)) (hz : a = none → c = 0) : FilI I L lo w' (fun j => if j = k then .slice a (L k).length c else V j) (fun j => if j ≤ k then H j else w'.heap.size) (k + 1) := by
  have hl := h.lo_le
  obtain ⟨h1, h2, h3, h4, h5⟩ := h
  have hs := ho.size
  refine ⟨by simpa using h1, ?_, fun j hj => ?_, fun j hj => ?_, fun j hj hj4 => ?_⟩
  · dsimp only; rw [if_neg (by omega)]; exact Nat.le_refl _
  · dsimp only
    by_cases e : j = k
    · subst e; rw [if_pos (Nat.le_refl _), if_neg (by omega)]; omega
    · rw [if_pos (by omega), if_pos (by omega)]; exact h3 j (by omega)
  · dsimp only
    by_cases e : j = k
    · subst e
      refine ⟨a, c, by rw [if_pos rfl], ?_, hz⟩
      rw [if_pos (Nat.le_refl _), if_neg (by omega)]
      exact hr.mono h2 (Nat.le_refl _)
    · obtain ⟨a', c', e1, e2, e3⟩ := h4 j (by omega)
      refine ⟨a', c', by rw [if_neg e, e1], ?_, e3⟩
      rw [if_pos (by omega), if_pos (by omega)]
      exact e2.out ho (.inr (by have := hl j (by omega); omega))
  · dsimp only; rw [if_neg (by omega)]; exact h5 j (by omega) hj4

/-- All four are done. -/
theorem FilI.done {I : Nat → Value} {L : Nat → List (Int × Int)} {lo b : Nat} {w : World} {V : Nat → Value} {H : Nat → Nat} (h : FilI I L lo w V H 4) (hv : VRow w b V) :
    ∃ a0 a1 a2 a3 c0 c1 c2 c3, w.cell? ⟨b, 0, none⟩ = some (.slice a0 (L 0).length c0) ∧ w.cell? ⟨b, 1, none⟩ = some (.slice a1 (L 1).length c1) ∧ w.cell? ⟨b, 2, none⟩ = some (.slice a2 (L 2).length c2) ∧ w.cell? ⟨b, 3, none⟩ = some (.slice a3 (L 3).length c3) ∧ (a0 = none → c0 = 0) ∧ (a1 = none → c1 = 0) ∧ (a2 = none → c2 = 0) ∧ (a3 = none → c3 = 0) ∧
      Four w lo w.heap.size a0 a1 a2 a3 (L 0).length (L 1).length (L 2).length (L 3).length (L 0) (L 1) (L 2) (L 3) := by
  have hlo := h.lo_le
  obtain ⟨h1, h2, h3, h4, h5⟩ := h
  obtain ⟨a0, c0, e0, r0, z0⟩ := h4 0 (by omega)
  obtain ⟨a1, c1, e1, r1, z1⟩ := h4 1 (by omega)
  obtain ⟨a2, c2, e2, r2, z2⟩ := h4 2 (by omega)
  obtain ⟨a3, c3, e3, r3, z3⟩ := h4 3 (by omega)
  have m0 := h3 0 (by omega); have m1 := h3 1 (by omega); have m2 := h3 2 (by omega); have m3 := h3 3 (by omega)
  have q0 := hlo 0 (by omega); have q1 := hlo 1 (by omega); have q2 := hlo 2 (by omega); have q3 := hlo 3 (by omega)
  simp only [Nat.reduceAdd] at r0 r1 r2 r3 m0 m1 m2 m3
  refine ⟨a0, a1, a2, a3, c0, c1, c2, c3, by rw [(hv.2 0 (by omega)).1, e0], by rw [(hv.2 1 (by omega)).1, e1], by rw [(hv.2 2 (by omega)).1, e2], by rw [(hv.2 3 (by omega)).1, e3], z0, z1, z2, z3, ?_⟩
  exact ⟨H 0, H 1, H 1, H 2, H 2, H 3, H 3, H 4, ⟨q0, by omega, r0⟩, ⟨q1, by omega, r1⟩, ⟨q2, by omega, r2⟩, ⟨q3, h2, r3⟩, by omega, by omega, by omega, by omega, by omega, by omega⟩

end Go.Proofs.Ytfplloabkceaoaa
