/-
  Plain lemmas and contracts of functions for the other texts of this seat: Pu, Wts0, Cu, Sr, Wtt, Uw.
-/
import Derived.Test.YtphchdjbhbmnbaaGaf
import Derived.Test.YtphchdjbhbmnbaaGae
import Derived.Test.YtphchdjbhbmnbaaGab
import Derived.Test.YtphchdjbhbmnbaaGaa
namespace Go.Proofs.Ytphchdjbhbmnbaa
open Go.RowKit
set_option linter.unusedVariables false

theorem jS_keep {w W u : World} {v0 v1 v2 v3 : Value} (h : Below w.heap.size w W ∧ Own W (w.heap.size + 1) 2 [] 0 ∧ W.cell? ⟨w.heap.size, 0, none⟩ = some v0 ∧ W.cell? ⟨w.heap.size, 1, none⟩ = some v1 ∧ W.cell? ⟨w.heap.size, 2, none⟩ = some v2 ∧ W.cell? ⟨w.heap.size, 3, none⟩ = some v3) (hb : Below W.heap.size W u) : Below w.heap.size w u ∧ Own u (w.heap.size + 1) 2 [] 0 ∧ u.cell? ⟨w.heap.size, 0, none⟩ = some v0 ∧ u.cell? ⟨w.heap.size, 1, none⟩ = some v1 ∧ u.cell? ⟨w.heap.size, 2, none⟩ = some v2 ∧ u.cell? ⟨w.heap.size, 3, none⟩ = some v3 := ownS_keep h hb
theorem jS_alloc {w W : World} {v0 v1 v2 v3 : Value} (o : Obj) (h : Below w.heap.size w W ∧ Own W (w.heap.size + 1) 2 [] 0 ∧ W.cell? ⟨w.heap.size, 0, none⟩ = some v0 ∧ W.cell? ⟨w.heap.size, 1, none⟩ = some v1 ∧ W.cell? ⟨w.heap.size, 2, none⟩ = some v2 ∧ W.cell? ⟨w.heap.size, 3, none⟩ = some v3) : Below w.heap.size w (W.alloc o) ∧ Own (W.alloc o) (w.heap.size + 1) 2 [] 0 ∧ (W.alloc o).cell? ⟨w.heap.size, 0, none⟩ = some v0 ∧ (W.alloc o).cell? ⟨w.heap.size, 1, none⟩ = some v1 ∧ (W.alloc o).cell? ⟨w.heap.size, 2, none⟩ = some v2 ∧ (W.alloc o).cell? ⟨w.heap.size, 3, none⟩ = some v3 := jS_keep h ((Below.refl _ _).alloc (Nat.le_refl _) o)
theorem jS_ad {w W : World} {v0 v1 v2 v3 : Value} (o : Obj) (h : Below w.heap.size w W.drew ∧ Own W.drew (w.heap.size + 1) 2 [] 0 ∧ W.drew.cell? ⟨w.heap.size, 0, none⟩ = some v0 ∧ W.drew.cell? ⟨w.heap.size, 1, none⟩ = some v1 ∧ W.drew.cell? ⟨w.heap.size, 2, none⟩ = some v2 ∧ W.drew.cell? ⟨w.heap.size, 3, none⟩ = some v3) : Below w.heap.size w (W.alloc o).drew ∧ Own (W.alloc o).drew (w.heap.size + 1) 2 [] 0 ∧ (W.alloc o).drew.cell? ⟨w.heap.size, 0, none⟩ = some v0 ∧ (W.alloc o).drew.cell? ⟨w.heap.size, 1, none⟩ = some v1 ∧ (W.alloc o).drew.cell? ⟨w.heap.size, 2, none⟩ = some v2 ∧ (W.alloc o).drew.cell? ⟨w.heap.size, 3, none⟩ = some v3 := jS_alloc o h
theorem jS_store {w W : World} {v0 v1 v2 v3 : Value} (y0 y1 y2 y3 : Value) (h : Below w.heap.size w W ∧ Own W (w.heap.size + 1) 2 [] 0 ∧ W.cell? ⟨w.heap.size, 0, none⟩ = some v0 ∧ W.cell? ⟨w.heap.size, 1, none⟩ = some v1 ∧ W.cell? ⟨w.heap.size, 2, none⟩ = some v2 ∧ W.cell? ⟨w.heap.size, 3, none⟩ = some v3) : Below w.heap.size w ((((W.setCell ⟨w.heap.size + 1, 0, none⟩ y0).setCell ⟨w.heap.size + 1, 1, none⟩ y1).setCell ⟨w.heap.size + 1, 2, none⟩ y2).setCell ⟨w.heap.size + 1, 3, none⟩ y3) ∧ Own ((((W.setCell ⟨w.heap.size + 1, 0, none⟩ y0).setCell ⟨w.heap.size + 1, 1, none⟩ y1).setCell ⟨w.heap.size + 1, 2, none⟩ y2).setCell ⟨w.heap.size + 1, 3, none⟩ y3) (w.heap.size + 1) 2 [] 0 ∧ ((((W.setCell ⟨w.heap.size + 1, 0, none⟩ y0).setCell ⟨w.heap.size + 1, 1, none⟩ y1).setCell ⟨w.heap.size + 1, 2, none⟩ y2).setCell ⟨w.heap.size + 1, 3, none⟩ y3).cell? ⟨w.heap.size, 0, none⟩ = some v0 ∧ ((((W.setCell ⟨w.heap.size + 1, 0, none⟩ y0).setCell ⟨w.heap.size + 1, 1, none⟩ y1).setCell ⟨w.heap.size + 1, 2, none⟩ y2).setCell ⟨w.heap.size + 1, 3, none⟩ y3).cell? ⟨w.heap.size, 1, none⟩ = some v1 ∧ ((((W.setCell ⟨w.heap.size + 1, 0, none⟩ y0).setCell ⟨w.heap.size + 1, 1, none⟩ y1).setCell ⟨w.heap.size + 1, 2, none⟩ y2).setCell ⟨w.heap.size + 1, 3, none⟩ y3).cell? ⟨w.heap.size, 2, none⟩ = some v2 ∧ ((((W.setCell ⟨w.heap.size + 1, 0, none⟩ y0).setCell ⟨w.heap.size + 1, 1, none⟩ y1).setCell ⟨w.heap.size + 1, 2, none⟩ y2).setCell ⟨w.heap.size + 1, 3, none⟩ y3).cell? ⟨w.heap.size, 3, none⟩ = some v3 := ownS_store y0 y1 y2 y3 h
theorem jS_own {w W : World} {b n k : Nat} {l : List (Int × Int)} {R : Prop} (o : Own w b n l k) (h : Below w.heap.size w W ∧ R) : Own W b n l k := o.below h.1 o.1
theorem jS_ge {w W : World} {R : Prop} (h : Below w.heap.size w W ∧ Own W (w.heap.size + 1) 2 [] 0 ∧ R) : w.heap.size + 2 ≤ W.heap.size := h.2.1.1

theorem Four.two {w : World} {s m t n0 n1 : Nat} {a0 a1 a2 a3 : Option Addr} {l0 l1 : List (Int × Int)} (h1 : s ≤ m) (h2 : m ≤ t) (r0 : RowIn w s m a0 n0 l0) (r1 : RowIn w m t a1 n1 l1) : Four w s t a0 a1 a2 a3 n0 n1 0 0 l0 l1 [] [] :=
  ⟨s, m, m, t, s, s, s, s, ⟨Nat.le_refl _, h2, r0⟩, ⟨h1, Nat.le_refl _, r1⟩, ⟨Nat.le_refl _, by omega, rfl, .inl rfl⟩, ⟨Nat.le_refl _, by omega, rfl, .inl rfl⟩, by omega, by omega, by omega, by omega, by omega, by omega⟩

theorem box_own {w : World} {b : Nat} {v0 v1 v2 v3 : Value} (h : Box w b v0 v1 v2 v3) : Own w b 2 [] 0 := ⟨h.lt, fun j hj => by
    have : j = 0 ∨ j = 1 ∨ j = 2 ∨ j = 3 := by omega
    rcases this with rfl | rfl | rfl | rfl
    · exact ⟨⟨_, h.c0⟩, h.f0⟩
    · exact ⟨⟨_, h.c1⟩, h.f1⟩
    · exact ⟨⟨_, h.c2⟩, h.f2⟩
    · exact ⟨⟨_, h.c3⟩, h.f3⟩, fun i hi => by omega⟩

set_option maxHeartbeats 4000000 in
theorem sPureOf_any (b0 b1 b2 b3 c0 c1 c2 c3 : Nat) (l0 l1 l2 l3 : List (Int × Int)) (w : World) (n0 : l0.length ≤ 1048576) (n1 : l1.length ≤ 1048576) (n2 : l2.length ≤ 1048576) (n3 : l3.length ≤ 1048576) (o0 : Own w b0 l0.length l0 l0.length) (o1 : Own w b1 l1.length l1 l1.length) (o2 : Own w b2 l2.length l2 l2.length) (o3 : Own w b3 l3.length l3 l3.length) :
    Calls Try.prog 105 #[.agg #[.slice (some ⟨b0, 0, none⟩) l0.length c0, .slice (some ⟨b1, 0, none⟩) l1.length c1, .slice (some ⟨b2, 0, none⟩) l2.length c2, .slice (some ⟨b3, 0, none⟩) l3.length c3]] w fun e w' => ∃ p0 p1 p2 p3 q0 q1 q2 q3, e = .returned (.agg #[.slice p0 (okL (asnB l0 l1 l2 l3) l0).length q0, .slice p1 (okL (asnB l0 l1 l2 l3) l1).length q1, .slice p2 (okL false l2).length q2, .slice p3 (okL false l3).length q3]) ∧ Seen w' w.heap.size w'.heap.size p0 p1 p2 p3 (okL (asnB l0 l1 l2 l3) l0).length (okL (asnB l0 l1 l2 l3) l1).length (okL false l2).length (okL false l3).length (okL (asnB l0 l1 l2 l3) l0) (okL (asnB l0 l1 l2 l3) l1) (okL false l2) (okL false l3) ∧ Below w.heap.size w w' := by
  have B0 := (Box.new w (.slice (some ⟨b0, 0, none⟩) l0.length c0) (.slice (some ⟨b1, 0, none⟩) l1.length c1) (.slice (some ⟨b2, 0, none⟩) l2.length c2) (.slice (some ⟨b3, 0, none⟩) l3.length c3) 28).alloc (.cells #[.slice none 0 0, .slice none 0 0, .slice none 0 0, .slice none 0 0] 28)
  have R0 := Box.new (w.alloc (.cells #[.slice (some ⟨b0, 0, none⟩) l0.length c0, .slice (some ⟨b1, 0, none⟩) l1.length c1, .slice (some ⟨b2, 0, none⟩) l2.length c2, .slice (some ⟨b3, 0, none⟩) l3.length c3] 28)) (.slice none 0 0) (.slice none 0 0) (.slice none 0 0) (.slice none 0 0) 28
  have L0 : Below w.heap.size w ((w.alloc (.cells #[.slice (some ⟨b0, 0, none⟩) l0.length c0, .slice (some ⟨b1, 0, none⟩) l1.length c1, .slice (some ⟨b2, 0, none⟩) l2.length c2, .slice (some ⟨b3, 0, none⟩) l3.length c3] 28)).alloc (.cells #[.slice none 0 0, .slice none 0 0, .slice none 0 0, .slice none 0 0] 28)) := ((Below.refl _ _).alloc (Nat.le_refl _) _).alloc (by simp) _
  rw [World.size_alloc] at R0
  go_enter Try.func105, Try.ntmps105
  go_wp2_with fail
  refine (sAsnOk_any _ _ _ _ _ _ _ _ _ _ _ _ _ n0 n1 n2 n3 (by exact (o0.below L0 o0.1).row) (by exact (o1.below L0 o1.1).row) (by exact (o2.below L0 o2.1).row) (by exact (o3.below L0 o3.1).row)).mono ?_
  rintro e w1 ⟨rfl, hb⟩
  replace B0 := B0.below hb B0.lt; replace R0 := R0.below hb R0.lt; replace L0 := L0.trans (hb.mono L0.size)
  clear hb
  have HE : Hid ((asnB l0 l1 l2 l3) = (asnB l0 l1 l2 l3)) := rfl
  cases h : asnB l0 l1 l2 l3
  · have HB : Hid (asnB l0 l1 l2 l3 = false) := h
    clear HE
    obtain ⟨F, FO⟩ := R0.fill (.slice none 0 0) (.slice none 0 0) (.slice none 0 0) (.slice none 0 0)
    have x0 := B0.c0; have x1 := B0.c1; have x2 := B0.c2; have x3 := B0.c3
    have j0 := R0.c0; have j1 := R0.c1; have j2 := R0.c2; have j3 := R0.c3
    have g0 := R0.f0; have g1 := R0.f1; have g2 := R0.f2; have g3 := R0.f3
    go_wp2
    have i0 := F.c0; have i1 := F.c1; have i2 := F.c2; have i3 := F.c3
    refine bodyPost_ret (v := .agg #[.slice none 0 0, .slice none 0 0, .slice none 0 0, .slice none 0 0]) ?_ rfl ⟨none, none, none, none, 0, 0, 0, 0, by simp [okL, HB.out], ?_, ?_⟩
    · simp [results, Try.results105, go_sem, i0, i1, i2, i3]
    · simp only [okL, HB.out]; exact Seen.none _ _ _
    · exact L0.trans (FO.below (by omega) L0.size)
  have HB : Hid (asnB l0 l1 l2 l3 = true) := h
  clear HE
  go_wp2
  generalize w1 = W0 at *
  have hS0 : Below w.heap.size w W0.drew ∧ Own W0.drew (w.heap.size + 1) 2 [] 0 ∧ W0.drew.cell? ⟨w.heap.size, 0, none⟩ = some (.slice (some ⟨b0, 0, none⟩) l0.length c0) ∧ W0.drew.cell? ⟨w.heap.size, 1, none⟩ = some (.slice (some ⟨b1, 0, none⟩) l1.length c1) ∧ W0.drew.cell? ⟨w.heap.size, 2, none⟩ = some (.slice (some ⟨b2, 0, none⟩) l2.length c2) ∧ W0.drew.cell? ⟨w.heap.size, 3, none⟩ = some (.slice (some ⟨b3, 0, none⟩) l3.length c3) := ⟨L0.drew, (box_own R0).drew, B0.c0, B0.c1, B0.c2, B0.c3⟩
  clear R0 B0 L0
  go_region_held3 (fun W => Below w.heap.size w W ∧ Own W (w.heap.size + 1) 2 [] 0 ∧ W.cell? ⟨w.heap.size, 0, none⟩ = some (.slice (some ⟨b0, 0, none⟩) l0.length c0) ∧ W.cell? ⟨w.heap.size, 1, none⟩ = some (.slice (some ⟨b1, 0, none⟩) l1.length c1) ∧ W.cell? ⟨w.heap.size, 2, none⟩ = some (.slice (some ⟨b2, 0, none⟩) l2.length c2) ∧ W.cell? ⟨w.heap.size, 3, none⟩ = some (.slice (some ⟨b3, 0, none⟩) l3.length c3))
    (first | exact hS0 | assumption | (refine jS_ad _ ?_; (first | assumption | (refine ⟨?_, ?_, ?_, ?_, ?_, ?_⟩ <;> assumption))) | (refine jS_alloc _ ?_; (first | assumption | (refine ⟨?_, ?_, ?_, ?_, ?_, ?_⟩ <;> assumption))) | (refine jS_store _ _ _ _ ?_; (first | assumption | (refine ⟨?_, ?_, ?_, ?_, ?_, ?_⟩ <;> assumption))) | (refine ⟨?_, ?_, ?_, ?_, ?_, ?_⟩ <;> assumption))
    (first
      | (refine step_fresh (by rfl) _ _ (by rfl) _ b0 l0.length c0 l0 (by rfl) (by rfl) rfl (jS_own o0 (by assumption)) n0 ?_; rintro a0 e0 u0 t0 h0; replace t0 := t0.mono (jS_ge (by assumption)) (Nat.le_refl _); have k0 := jS_keep (by assumption) h0)
      | (refine step_fresh (by rfl) _ _ (by rfl) _ b1 l1.length c1 l1 (by rfl) (by rfl) rfl (jS_own o1 (by assumption)) n1 ?_; rintro a1 e1 u1 t1 h1; replace t1 := t1.mono (jS_ge (by assumption)) (Nat.le_refl _); have k1 := jS_keep (by assumption) h1; have q0 := ((t0.row.below (by (first | exact Below.refl _ _ | exact (Below.refl _ _).alloc (Nat.le_refl _) _ | exact ((Below.refl _ _).alloc (Nat.le_refl _) _).alloc (by simp) _)) (Nat.le_refl _)).below h1 (by first | exact Nat.le_refl _ | (simp; done) | (simp; omega))).mono (Nat.le_refl _) (show _ ≤ u1.heap.size from Nat.le_trans (by first | exact Nat.le_refl _ | (simp; done) | (simp; omega)) h1.size); obtain ⟨x0, hx0⟩ := (k1.2.1.2.1 0 (by omega)).1; obtain ⟨x1, hx1⟩ := (k1.2.1.2.1 1 (by omega)).1; obtain ⟨x2, hx2⟩ := (k1.2.1.2.1 2 (by omega)).1; obtain ⟨x3, hx3⟩ := (k1.2.1.2.1 3 (by omega)).1; have f0 := (k1.2.1.2.1 0 (by omega)).2; have f1 := (k1.2.1.2.1 1 (by omega)).2; have f2 := (k1.2.1.2.1 2 (by omega)).2; have f3 := (k1.2.1.2.1 3 (by omega)).2))
  all_goals
    obtain ⟨F, FO⟩ := Own.fill k1.2.1 (.slice a0 l0.length e0) (.slice a1 l1.length e1) (.slice none 0 0) (.slice none 0 0)
    have hB := k1.1
    have hy := FO.size
    have t1' := t1.row
    clear k0 k1 h0 h1 hS0 t1
    go_wp2
    have i0 := F.c0; have i1 := F.c1; have i2 := F.c2; have i3 := F.c3
    refine bodyPost_ret (v := .agg #[.slice a0 l0.length e0, .slice a1 l1.length e1, .slice none 0 0, .slice none 0 0]) ?_ rfl ⟨a0, a1, none, none, e0, e1, 0, 0, by simp [okL, HB.out], ?_, ?_⟩
    · simp [results, Try.results105, go_sem, i0, i1, i2, i3]
    · simp only [okL, HB.out]
      exact ⟨(q0.out FO (.inr (by omega))).mono (by omega) hy, (t1'.out FO (.inr (by omega))).mono (by omega) hy, ⟨rfl, .inl rfl⟩, ⟨rfl, .inl rfl⟩⟩
    · exact hB.trans (FO.below (by omega) hB.size)

set_option maxHeartbeats 4000000 in
theorem iPureOf_any (b0 b1 b2 b3 c0 c1 c2 c3 : Nat) (l0 l1 l2 l3 : List (Int × Int)) (w : World) (n0 : l0.length ≤ 1048576) (n1 : l1.length ≤ 1048576) (n2 : l2.length ≤ 1048576) (n3 : l3.length ≤ 1048576) (o0 : Own w b0 l0.length l0 l0.length) (o1 : Own w b1 l1.length l1 l1.length) (o2 : Own w b2 l2.length l2 l2.length) (o3 : Own w b3 l3.length l3 l3.length) :
    Calls Try.prog 106 #[.agg #[.slice (some ⟨b0, 0, none⟩) l0.length c0, .slice (some ⟨b1, 0, none⟩) l1.length c1, .slice (some ⟨b2, 0, none⟩) l2.length c2, .slice (some ⟨b3, 0, none⟩) l3.length c3]] w fun e w' => ∃ p0 p1 p2 p3 q0 q1 q2 q3, e = .returned (.agg #[.slice p0 (okL (asnB l0 l1 l2 l3) l0).length q0, .slice p1 (okL (asnB l0 l1 l2 l3) l1).length q1, .slice p2 (okL false l2).length q2, .slice p3 (okL false l3).length q3]) ∧ Four w' w.heap.size w'.heap.size p0 p1 p2 p3 (okL (asnB l0 l1 l2 l3) l0).length (okL (asnB l0 l1 l2 l3) l1).length (okL false l2).length (okL false l3).length (okL (asnB l0 l1 l2 l3) l0) (okL (asnB l0 l1 l2 l3) l1) (okL false l2) (okL false l3) ∧ Below w.heap.size w w' := by
  have B0 := (Box.new w (.slice (some ⟨b0, 0, none⟩) l0.length c0) (.slice (some ⟨b1, 0, none⟩) l1.length c1) (.slice (some ⟨b2, 0, none⟩) l2.length c2) (.slice (some ⟨b3, 0, none⟩) l3.length c3) 28).alloc (.cells #[.slice none 0 0, .slice none 0 0, .slice none 0 0, .slice none 0 0] 28)
  have R0 := Box.new (w.alloc (.cells #[.slice (some ⟨b0, 0, none⟩) l0.length c0, .slice (some ⟨b1, 0, none⟩) l1.length c1, .slice (some ⟨b2, 0, none⟩) l2.length c2, .slice (some ⟨b3, 0, none⟩) l3.length c3] 28)) (.slice none 0 0) (.slice none 0 0) (.slice none 0 0) (.slice none 0 0) 28
  have L0 : Below w.heap.size w ((w.alloc (.cells #[.slice (some ⟨b0, 0, none⟩) l0.length c0, .slice (some ⟨b1, 0, none⟩) l1.length c1, .slice (some ⟨b2, 0, none⟩) l2.length c2, .slice (some ⟨b3, 0, none⟩) l3.length c3] 28)).alloc (.cells #[.slice none 0 0, .slice none 0 0, .slice none 0 0, .slice none 0 0] 28)) := ((Below.refl _ _).alloc (Nat.le_refl _) _).alloc (by simp) _
  rw [World.size_alloc] at R0
  go_enter Try.func106, Try.ntmps106
  go_wp2_with fail
  refine (iAsnOk_any _ _ _ _ _ _ _ _ _ _ _ _ _ n0 n1 n2 n3 (by exact (o0.below L0 o0.1).row) (by exact (o1.below L0 o1.1).row) (by exact (o2.below L0 o2.1).row) (by exact (o3.below L0 o3.1).row)).mono ?_
  rintro e w1 ⟨rfl, hb⟩
  replace B0 := B0.below hb B0.lt; replace R0 := R0.below hb R0.lt; replace L0 := L0.trans (hb.mono L0.size)
  clear hb
  have HE : Hid ((asnB l0 l1 l2 l3) = (asnB l0 l1 l2 l3)) := rfl
  cases h : asnB l0 l1 l2 l3
  · have HB : Hid (asnB l0 l1 l2 l3 = false) := h
    clear HE
    obtain ⟨F, FO⟩ := R0.fill (.slice none 0 0) (.slice none 0 0) (.slice none 0 0) (.slice none 0 0)
    have x0 := B0.c0; have x1 := B0.c1; have x2 := B0.c2; have x3 := B0.c3
    have j0 := R0.c0; have j1 := R0.c1; have j2 := R0.c2; have j3 := R0.c3
    have g0 := R0.f0; have g1 := R0.f1; have g2 := R0.f2; have g3 := R0.f3
    go_wp2
    have i0 := F.c0; have i1 := F.c1; have i2 := F.c2; have i3 := F.c3
    refine bodyPost_ret (v := .agg #[.slice none 0 0, .slice none 0 0, .slice none 0 0, .slice none 0 0]) ?_ rfl ⟨none, none, none, none, 0, 0, 0, 0, by simp [okL, HB.out], ?_, ?_⟩
    · simp [results, Try.results106, go_sem, i0, i1, i2, i3]
    · simp only [okL, HB.out]; exact (Four.none _ w.heap.size).mono (Nat.le_refl _) (by have := FO.size; have := L0.size; omega)
    · exact L0.trans (FO.below (by omega) L0.size)
  have HB : Hid (asnB l0 l1 l2 l3 = true) := h
  clear HE
  go_wp2
  generalize w1 = W0 at *
  have hS0 : Below w.heap.size w W0.drew ∧ Own W0.drew (w.heap.size + 1) 2 [] 0 ∧ W0.drew.cell? ⟨w.heap.size, 0, none⟩ = some (.slice (some ⟨b0, 0, none⟩) l0.length c0) ∧ W0.drew.cell? ⟨w.heap.size, 1, none⟩ = some (.slice (some ⟨b1, 0, none⟩) l1.length c1) ∧ W0.drew.cell? ⟨w.heap.size, 2, none⟩ = some (.slice (some ⟨b2, 0, none⟩) l2.length c2) ∧ W0.drew.cell? ⟨w.heap.size, 3, none⟩ = some (.slice (some ⟨b3, 0, none⟩) l3.length c3) := ⟨L0.drew, (box_own R0).drew, B0.c0, B0.c1, B0.c2, B0.c3⟩
  clear R0 B0 L0
  go_region_held3 (fun W => Below w.heap.size w W ∧ Own W (w.heap.size + 1) 2 [] 0 ∧ W.cell? ⟨w.heap.size, 0, none⟩ = some (.slice (some ⟨b0, 0, none⟩) l0.length c0) ∧ W.cell? ⟨w.heap.size, 1, none⟩ = some (.slice (some ⟨b1, 0, none⟩) l1.length c1) ∧ W.cell? ⟨w.heap.size, 2, none⟩ = some (.slice (some ⟨b2, 0, none⟩) l2.length c2) ∧ W.cell? ⟨w.heap.size, 3, none⟩ = some (.slice (some ⟨b3, 0, none⟩) l3.length c3))
    (first | exact hS0 | assumption | (refine jS_ad _ ?_; (first | assumption | (refine ⟨?_, ?_, ?_, ?_, ?_, ?_⟩ <;> assumption))) | (refine jS_alloc _ ?_; (first | assumption | (refine ⟨?_, ?_, ?_, ?_, ?_, ?_⟩ <;> assumption))) | (refine jS_store _ _ _ _ ?_; (first | assumption | (refine ⟨?_, ?_, ?_, ?_, ?_, ?_⟩ <;> assumption))) | (refine ⟨?_, ?_, ?_, ?_, ?_, ?_⟩ <;> assumption))
    (first
      | (go_at_call_of 144 (Value.slice (some ⟨b0, 0, none⟩) l0.length c0); refine (copy_any _ _ _ l0 _ rfl (by omega) (by exact (jS_own o0 hS0).row) (by intro e; cases e)).mono ?_; rintro e u0 ⟨a0, e0, rfl, t0, -, h0⟩; have k0 := jS_keep hS0 h0)
      | (go_at_call_of 144 (Value.slice (some ⟨b1, 0, none⟩) l1.length c1); refine (copy_any _ _ _ l1 _ rfl (by omega) (by exact (jS_own o1 k0).row) (by intro e; cases e)).mono ?_; rintro e u1 ⟨a1, e1, rfl, t1, -, h1⟩; have k1 := jS_keep k0 h1; obtain ⟨x0, hx0⟩ := (k1.2.1.2.1 0 (by omega)).1; obtain ⟨x1, hx1⟩ := (k1.2.1.2.1 1 (by omega)).1; obtain ⟨x2, hx2⟩ := (k1.2.1.2.1 2 (by omega)).1; obtain ⟨x3, hx3⟩ := (k1.2.1.2.1 3 (by omega)).1; have f0 := (k1.2.1.2.1 0 (by omega)).2; have f1 := (k1.2.1.2.1 1 (by omega)).2; have f2 := (k1.2.1.2.1 2 (by omega)).2; have f3 := (k1.2.1.2.1 3 (by omega)).2))
  all_goals
    obtain ⟨F, FO⟩ := Own.fill k1.2.1 (.slice a0 l0.length e0) (.slice a1 l1.length e1) (.slice none 0 0) (.slice none 0 0)
    have hB := k1.1
    have gq := jS_ge hS0
    have hz0 := h0.size
    have hz := h1.size
    have hy := FO.size
    replace t0 := t0.below h1 (Nat.le_refl _)
    clear k0 k1 h0 h1 hS0
    rw [World.size_drew] at gq hz0 t0
    go_wp2
    have i0 := F.c0; have i1 := F.c1; have i2 := F.c2; have i3 := F.c3
    refine bodyPost_ret (v := .agg #[.slice a0 l0.length e0, .slice a1 l1.length e1, .slice none 0 0, .slice none 0 0]) ?_ rfl ⟨a0, a1, none, none, e0, e1, 0, 0, by simp [okL, HB.out], ?_, ?_⟩
    · simp [results, Try.results106, go_sem, i0, i1, i2, i3]
    · simp only [okL, HB.out]
      exact (Four.two hz0 hz (t0.out FO (.inr (by omega))) (t1.out FO (.inr (by omega)))).mono (by omega) (by simp)
    · exact hB.trans (FO.below (by omega) hB.size)

end Go.Proofs.Ytphchdjbhbmnbaa
namespace Go.Proofs.Ytphchdjbhbmnbaa
open Go.RowKit
set_option linter.unusedVariables false

theorem step_freshP {ops : Array Oper} {o : Oper} {a : Act} {w : World} {K : Act → World → Prop} {Q : Exit → Act → World → Prop} {E : Prop}
    (hg : o.guard = none) (s x : Operand) (hop : o.op = Op.call { callee := Callee.builtin Builtin.append, args := #[s, x], argTypes := #[26, 26] })
    (Z : Nat) (p : Addr) (m c : Nat) (l : List (Int × Int)) (hs : a.eval s = .slice (some ⟨Z, 0, none⟩) 0 0) (hx : a.eval x = .slice (some p) m c) (hl : l.length = m) (ho : PRow w (some p) l) (hm : m ≤ 1048576)
    (hK : ∀ a' c' w', RoomIn w' w.heap.size w'.heap.size a' m c' l → Below w.heap.size w w' → K (a.put o.dst (.slice a' m c')) w') :
    if Region.wanted o (yielded ops a.tmps) = true then Oper.wp Try.prog o a w K Q else E := by
  obtain ⟨i0, hi, hz0, hz1, hz2⟩ := Try.i57
  subst hl
  by_cases e : l.length = 0
  · have el : l = [] := List.eq_nil_of_length_eq_zero e
    subst el
    refine step_append_room hg s x 26 hop 69 i0 2 Try.underlying26 hi hz1 Z 0 0 0 hs p 0 c [] hx rfl (by intro j u h; cases h) (by intro u h; cases h) (Nat.le_refl _) (by intro j h; exact absurd h (Nat.not_lt_zero _)) ?_
    exact hK _ _ _ ⟨rfl, .inl ⟨rfl, rfl, _, rfl⟩⟩ (Below.refl _ _)
  · refine step_append_grows hg s x 26 hop 69 i0 (.agg #[.int .i64 0, .int .i64 0]) 2 16 Try.underlying26 hi hz0 hz1 hz2 rfl (by decide) (some ⟨Z, 0, none⟩) 0 0 [] hs (by intro h; cases h) rfl (by intro b h j u hu; cases hu) p l.length c (pc l) hx (pc_length l) ho.news pc_one (by omega) (by unfold maxLen; omega) (by omega) ?_
    intro v' w' hown hgr
    rw [Nat.zero_add, List.nil_append] at hown
    obtain ⟨a', c', rfl, hr⟩ := RoomIn.ofOwns hown (by omega)
    exact hK _ _ _ hr ((Below.refl _ _).grown hgr (Nat.le_refl _) (by intro k hk; cases hk))

theorem step_roomP {ops : Array Oper} {o : Oper} {a : Act} {w : World} {K : Act → World → Prop} {Q : Exit → Act → World → Prop} {E : Prop}
    (hg : o.guard = none) (s x : Operand) (hop : o.op = Op.call { callee := Callee.builtin Builtin.append, args := #[s, x], argTypes := #[26, 26] })
    (lo hi : Nat) (a' : Option Addr) (n c : Nat) (l : List (Int × Int)) (hs : a.eval s = .slice a' n c) (hr : RoomIn w lo hi a' n c l)
    (p : Addr) (m d : Nat) (k : List (Int × Int)) (hx : a.eval x = .slice (some p) m d) (hk : k.length = m) (ho : PRow w (some p) k) (hn : n + m ≤ 2097152) (hlo : lo ≤ w.heap.size)
    (hK : ∀ a'' c'' w', RowOr w' lo hi w.heap.size a'' (n + m) (l ++ k) → Out lo hi w w' → K (a.put o.dst (.slice a'' (n + m) c'')) w') :
    if Region.wanted o (yielded ops a.tmps) = true then Oper.wp Try.prog o a w K Q else E := by
  obtain ⟨i0, hi0, hz0, hz1, hz2⟩ := Try.i57
  subst hk
  have hl := hr.1
  by_cases hc : c < n + k.length
  · refine step_append_grows hg s x 26 hop 69 i0 (.agg #[.int .i64 0, .int .i64 0]) 2 16 Try.underlying26 hi0 hz0 hz1 hz2 rfl (by decide) a' n c (pc l) hs ?_ (by rw [pc_length, hl]) ?_ p k.length d (pc k) hx (pc_length k) ho.news pc_one hc (by unfold maxLen; omega) (by omega) ?_
    · obtain ⟨_, ⟨_, _, _, rfl⟩ | ⟨_, rfl, _⟩⟩ := hr <;> intro h <;> cases h
    · intro ad had j u hu
      obtain ⟨_, ⟨h0, _, _, rfl⟩ | ⟨b1, rfl, _, _, hw⟩⟩ := hr
      · have : l = [] := List.eq_nil_of_length_eq_zero (by omega)
        subst this; cases hu
      · cases had; exact hw.cells rfl j u hu
    · intro v' w' hown hgr
      rw [← pc_append] at hown
      obtain ⟨a1, c1, rfl, hl1, h0 | ⟨b1, rfl, h1, h2, h3⟩⟩ := RowIn.ofOwns hown
      · omega
      · exact hK _ _ _ ⟨hl1, .inr ⟨b1, rfl, .inr h1, h3⟩⟩ (Out.ofBelow ((Below.refl _ _).grown hgr (Nat.le_refl _) (by intro k hk; cases hk)))
  · obtain ⟨_, ⟨h0, h00, Z, rfl⟩ | ⟨b1, rfl, g1, g2, hw⟩⟩ := hr
    · have hl0 : l = [] := List.eq_nil_of_length_eq_zero (by omega)
      have hk0 : k = [] := List.eq_nil_of_length_eq_zero (by omega)
      subst hl0 hk0 h00 h0
      refine step_append_room hg s x 26 hop 69 i0 2 Try.underlying26 hi0 hz1 Z 0 0 0 hs p 0 d [] hx rfl (by intro j u h; cases h) (by intro u h; cases h) (Nat.le_refl _) (by intro j h; exact absurd h (Nat.not_lt_zero _)) ?_
      exact hK _ _ _ ⟨rfl, .inl rfl⟩ (Out.refl _ _ _)
    · have sp : ∀ j, j < (pc k).length → (w.cell? ⟨b1, 0 + n * 2 + j, none⟩).isSome = true ∧ w.frozen? ⟨b1, 0 + n * 2 + j, none⟩ = false := fun j hj => owns_room hw _ (by rw [pc_length] at hj; omega)
      obtain ⟨v', w', hrun, r1, r2, _⟩ := run_append_own (P := Try.prog) w lo 26 o.type 69 i0 (.agg #[.int .i64 0, .int .i64 0]) 2 16 Try.underlying26 hi0 hz0 hz1 hz2 rfl (by decide) _ n (pc l) hw p k.length d (pc k) (pc_length k) ho.news pc_one (by unfold maxLen; omega) (by omega) hlo
      have hrun2 := run_append_room_cells (P := Try.prog) w 26 o.type 69 i0 Try.underlying26 hi0 b1 0 n c p k.length d (pc k) (by rw [hz1]; exact pc_length k) ho.news pc_one (by omega) (by rw [hz1]; exact fun j hj => (sp j hj).1) (by rw [hz1]; exact fun j hj => (sp j hj).2)
      rw [hrun] at hrun2
      rw [hz1] at hrun2
      injection hrun2 with e1 e2
      subst e1 e2
      rw [← pc_append] at r1
      obtain ⟨q1, q2, q3⟩ := Own.ofOwns r1
      refine step_append_room hg s x 26 hop 69 i0 2 Try.underlying26 hi0 hz1 b1 0 n c hs p k.length d (pc k) hx (pc_length k) ho.news pc_one (by omega) sp ?_
      exact hK _ _ _ ⟨q1, .inr ⟨b1, rfl, .inl ⟨g1, g2⟩, q3⟩⟩ ⟨r2.os, r2.tape, r2.output, r2.size, fun i hi' hr' => r2.block i hi' (by intro e; injection e with e; subst e; omega)⟩

/-- The one where k is j, else the other. -/
def pick {α : Type} (k j : Nat) (x y : α) : α := if k = j then x else y

set_option maxHeartbeats 2000000 in
theorem l1with_any (a0 a1 a2 a3 ax : Option Addr) (n0 n1 n2 n3 nx c0 c1 c2 c3 cx : Nat) (k : Nat) (hk : k < 4) (w : World) :
    Calls Try.prog 149 #[.agg #[.slice a0 n0 c0, .slice a1 n1 c1, .slice a2 n2 c2, .slice a3 n3 c3], .int .i64 k, .slice ax nx cx] w fun e w' => e = .returned (.agg #[.slice (pick k 0 ax a0) (pick k 0 nx n0) (pick k 0 cx c0), .slice (pick k 1 ax a1) (pick k 1 nx n1) (pick k 1 cx c1), .slice (pick k 2 ax a2) (pick k 2 nx n2) (pick k 2 cx c2), .slice (pick k 3 ax a3) (pick k 3 nx n3) (pick k 3 cx c3)]) ∧ Below w.heap.size w w' := by
  obtain rfl | rfl | rfl | rfl : k = 0 ∨ k = 1 ∨ k = 2 ∨ k = 3 := by omega
  · go_enter Try.func149, Try.ntmps149
    go_wp2
    exact bodyPost_ret (v := .agg #[.slice ax nx cx, .slice a1 n1 c1, .slice a2 n2 c2, .slice a3 n3 c3]) (by simp [results, Try.results149, go_sem]) rfl ⟨rfl, ((Below.refl _ _).alloc (Nat.le_refl _) _).alloc (by simp) _⟩
  · go_enter Try.func149, Try.ntmps149
    go_wp2
    exact bodyPost_ret (v := .agg #[.slice a0 n0 c0, .slice ax nx cx, .slice a2 n2 c2, .slice a3 n3 c3]) (by simp [results, Try.results149, go_sem]) rfl ⟨rfl, ((Below.refl _ _).alloc (Nat.le_refl _) _).alloc (by simp) _⟩
  · go_enter Try.func149, Try.ntmps149
    go_wp2
    exact bodyPost_ret (v := .agg #[.slice a0 n0 c0, .slice a1 n1 c1, .slice ax nx cx, .slice a3 n3 c3]) (by simp [results, Try.results149, go_sem]) rfl ⟨rfl, ((Below.refl _ _).alloc (Nat.le_refl _) _).alloc (by simp) _⟩
  · go_enter Try.func149, Try.ntmps149
    go_wp2
    exact bodyPost_ret (v := .agg #[.slice a0 n0 c0, .slice a1 n1 c1, .slice a2 n2 c2, .slice ax nx cx]) (by simp [results, Try.results149, go_sem]) rfl ⟨rfl, ((Below.refl _ _).alloc (Nat.le_refl _) _).alloc (by simp) _⟩

theorem kind4 (b0 b1 b2 b3 c0 c1 c2 c3 : Nat) (l0 l1 l2 l3 : List (Int × Int)) (k : Nat) (w : World) (hk : k < 4) :
    Calls Try.prog 142 #[.agg #[.slice (some ⟨b0, 0, none⟩) l0.length c0, .slice (some ⟨b1, 0, none⟩) l1.length c1, .slice (some ⟨b2, 0, none⟩) l2.length c2, .slice (some ⟨b3, 0, none⟩) l3.length c3], .int .i64 k] w fun e w' => e = .returned (.slice (some ⟨kindB b0 b1 b2 b3 k, 0, none⟩) (kindL l0 l1 l2 l3 k).length (kindB c0 c1 c2 c3 k)) ∧ Below w.heap.size w w' := by
  obtain rfl | rfl | rfl | rfl : k = 0 ∨ k = 1 ∨ k = 2 ∨ k = 3 := by omega
  · go_enter Try.func142, Try.ntmps142
    go_wp2
    go_ret
    exact ⟨rfl, (Below.refl _ _).alloc (Nat.le_refl _) _⟩
  · go_enter Try.func142, Try.ntmps142
    go_wp2
    go_ret
    exact ⟨rfl, (Below.refl _ _).alloc (Nat.le_refl _) _⟩
  · go_enter Try.func142, Try.ntmps142
    go_wp2
    go_ret
    exact ⟨rfl, (Below.refl _ _).alloc (Nat.le_refl _) _⟩
  · go_enter Try.func142, Try.ntmps142
    go_wp2
    go_ret
    exact ⟨rfl, (Below.refl _ _).alloc (Nat.le_refl _) _⟩

end Go.Proofs.Ytphchdjbhbmnbaa
namespace Go.Proofs.Ytphchdjbhbmnbaa
open Go.RowKit

theorem Below.link {a b c : World} (h : Below a.heap.size a b) (k : Below b.heap.size b c) : Below a.heap.size a c := h.trans (k.mono h.size)
theorem Box.keep2 {w w' : World} {b : Nat} {v0 v1 v2 v3 : Value} (h : Box w b v0 v1 v2 v3) (hb : Below w.heap.size w w') : Box w' b v0 v1 v2 v3 := h.below hb h.lt
theorem own1 {w w' : World} {b n k : Nat} {l : List (Int × Int)} (h : Own w b n l k) (hb : Below w.heap.size w w') : Own w' b n l k := h.below hb h.1
theorem own2 {w w' u : World} {b n k : Nat} {l : List (Int × Int)} (h : Own w b n l k) (hb : Below w.heap.size w w') (hc : Below w'.heap.size w' u) : Own u b n l k := own1 (own1 h hb) hc

theorem Below.link' {B : Nat} {a b c : World} (h : Below B a b) (k : Below b.heap.size b c) (hB : B ≤ a.heap.size) : Below B a c := h.trans (k.mono (Nat.le_trans hB h.size))

theorem sK {w W u : World} {v0 v1 v2 v3 v4 v5 v6 v7 : Value} (h : Below w.heap.size w W ∧ w.heap.size + 2 ≤ W.heap.size ∧ W.cell? ⟨w.heap.size, 0, none⟩ = some v0 ∧ W.cell? ⟨w.heap.size, 1, none⟩ = some v1 ∧ W.cell? ⟨w.heap.size, 2, none⟩ = some v2 ∧ W.cell? ⟨w.heap.size, 3, none⟩ = some v3 ∧ W.cell? ⟨w.heap.size + 1, 0, none⟩ = some v4 ∧ W.cell? ⟨w.heap.size + 1, 1, none⟩ = some v5 ∧ W.cell? ⟨w.heap.size + 1, 2, none⟩ = some v6 ∧ W.cell? ⟨w.heap.size + 1, 3, none⟩ = some v7) (hb : Below W.heap.size W u) : Below w.heap.size w u ∧ w.heap.size + 2 ≤ u.heap.size ∧ u.cell? ⟨w.heap.size, 0, none⟩ = some v0 ∧ u.cell? ⟨w.heap.size, 1, none⟩ = some v1 ∧ u.cell? ⟨w.heap.size, 2, none⟩ = some v2 ∧ u.cell? ⟨w.heap.size, 3, none⟩ = some v3 ∧ u.cell? ⟨w.heap.size + 1, 0, none⟩ = some v4 ∧ u.cell? ⟨w.heap.size + 1, 1, none⟩ = some v5 ∧ u.cell? ⟨w.heap.size + 1, 2, none⟩ = some v6 ∧ u.cell? ⟨w.heap.size + 1, 3, none⟩ = some v7 := by
  obtain ⟨h0, h1, c0, c1, c2, c3, c4, c5, c6, c7⟩ := h
  have key : ∀ (b o : Nat) (v : Value), W.cell? ⟨b, o, none⟩ = some v → u.cell? ⟨b, o, none⟩ = some v := fun b o v hc => by rw [hb.cell (p := ⟨b, o, none⟩) (World.block_lt_of_cell? _ _ hc)]; exact hc
  exact ⟨Below.link' h0 hb (Nat.le_refl _), Nat.le_trans h1 hb.size, key _ _ _ c0, key _ _ _ c1, key _ _ _ c2, key _ _ _ c3, key _ _ _ c4, key _ _ _ c5, key _ _ _ c6, key _ _ _ c7⟩
theorem sAl {w W : World} {v0 v1 v2 v3 v4 v5 v6 v7 : Value} (o : Obj) (h : Below w.heap.size w W ∧ w.heap.size + 2 ≤ W.heap.size ∧ W.cell? ⟨w.heap.size, 0, none⟩ = some v0 ∧ W.cell? ⟨w.heap.size, 1, none⟩ = some v1 ∧ W.cell? ⟨w.heap.size, 2, none⟩ = some v2 ∧ W.cell? ⟨w.heap.size, 3, none⟩ = some v3 ∧ W.cell? ⟨w.heap.size + 1, 0, none⟩ = some v4 ∧ W.cell? ⟨w.heap.size + 1, 1, none⟩ = some v5 ∧ W.cell? ⟨w.heap.size + 1, 2, none⟩ = some v6 ∧ W.cell? ⟨w.heap.size + 1, 3, none⟩ = some v7) : Below w.heap.size w (W.alloc o) ∧ w.heap.size + 2 ≤ (W.alloc o).heap.size ∧ (W.alloc o).cell? ⟨w.heap.size, 0, none⟩ = some v0 ∧ (W.alloc o).cell? ⟨w.heap.size, 1, none⟩ = some v1 ∧ (W.alloc o).cell? ⟨w.heap.size, 2, none⟩ = some v2 ∧ (W.alloc o).cell? ⟨w.heap.size, 3, none⟩ = some v3 ∧ (W.alloc o).cell? ⟨w.heap.size + 1, 0, none⟩ = some v4 ∧ (W.alloc o).cell? ⟨w.heap.size + 1, 1, none⟩ = some v5 ∧ (W.alloc o).cell? ⟨w.heap.size + 1, 2, none⟩ = some v6 ∧ (W.alloc o).cell? ⟨w.heap.size + 1, 3, none⟩ = some v7 := sK h ((Below.refl _ _).alloc (Nat.le_refl _) o)
theorem sAd {w W : World} {v0 v1 v2 v3 v4 v5 v6 v7 : Value} (o : Obj) (h : Below w.heap.size w W.drew ∧ w.heap.size + 2 ≤ W.drew.heap.size ∧ W.drew.cell? ⟨w.heap.size, 0, none⟩ = some v0 ∧ W.drew.cell? ⟨w.heap.size, 1, none⟩ = some v1 ∧ W.drew.cell? ⟨w.heap.size, 2, none⟩ = some v2 ∧ W.drew.cell? ⟨w.heap.size, 3, none⟩ = some v3 ∧ W.drew.cell? ⟨w.heap.size + 1, 0, none⟩ = some v4 ∧ W.drew.cell? ⟨w.heap.size + 1, 1, none⟩ = some v5 ∧ W.drew.cell? ⟨w.heap.size + 1, 2, none⟩ = some v6 ∧ W.drew.cell? ⟨w.heap.size + 1, 3, none⟩ = some v7) : Below w.heap.size w (W.alloc o).drew ∧ w.heap.size + 2 ≤ (W.alloc o).drew.heap.size ∧ (W.alloc o).drew.cell? ⟨w.heap.size, 0, none⟩ = some v0 ∧ (W.alloc o).drew.cell? ⟨w.heap.size, 1, none⟩ = some v1 ∧ (W.alloc o).drew.cell? ⟨w.heap.size, 2, none⟩ = some v2 ∧ (W.alloc o).drew.cell? ⟨w.heap.size, 3, none⟩ = some v3 ∧ (W.alloc o).drew.cell? ⟨w.heap.size + 1, 0, none⟩ = some v4 ∧ (W.alloc o).drew.cell? ⟨w.heap.size + 1, 1, none⟩ = some v5 ∧ (W.alloc o).drew.cell? ⟨w.heap.size + 1, 2, none⟩ = some v6 ∧ (W.alloc o).drew.cell? ⟨w.heap.size + 1, 3, none⟩ = some v7 := sAl o h
theorem sSt {w W : World} {v0 v1 v2 v3 v4 v5 v6 v7 : Value} (y0 y1 y2 y3 : Value) (Z : Nat) (hz : w.heap.size + 2 ≤ Z) (h : Below w.heap.size w W ∧ w.heap.size + 2 ≤ W.heap.size ∧ W.cell? ⟨w.heap.size, 0, none⟩ = some v0 ∧ W.cell? ⟨w.heap.size, 1, none⟩ = some v1 ∧ W.cell? ⟨w.heap.size, 2, none⟩ = some v2 ∧ W.cell? ⟨w.heap.size, 3, none⟩ = some v3 ∧ W.cell? ⟨w.heap.size + 1, 0, none⟩ = some v4 ∧ W.cell? ⟨w.heap.size + 1, 1, none⟩ = some v5 ∧ W.cell? ⟨w.heap.size + 1, 2, none⟩ = some v6 ∧ W.cell? ⟨w.heap.size + 1, 3, none⟩ = some v7) : Below w.heap.size w ((((W.setCell ⟨Z, 0, none⟩ y0).setCell ⟨Z, 1, none⟩ y1).setCell ⟨Z, 2, none⟩ y2).setCell ⟨Z, 3, none⟩ y3) ∧ w.heap.size + 2 ≤ ((((W.setCell ⟨Z, 0, none⟩ y0).setCell ⟨Z, 1, none⟩ y1).setCell ⟨Z, 2, none⟩ y2).setCell ⟨Z, 3, none⟩ y3).heap.size ∧ ((((W.setCell ⟨Z, 0, none⟩ y0).setCell ⟨Z, 1, none⟩ y1).setCell ⟨Z, 2, none⟩ y2).setCell ⟨Z, 3, none⟩ y3).cell? ⟨w.heap.size, 0, none⟩ = some v0 ∧ ((((W.setCell ⟨Z, 0, none⟩ y0).setCell ⟨Z, 1, none⟩ y1).setCell ⟨Z, 2, none⟩ y2).setCell ⟨Z, 3, none⟩ y3).cell? ⟨w.heap.size, 1, none⟩ = some v1 ∧ ((((W.setCell ⟨Z, 0, none⟩ y0).setCell ⟨Z, 1, none⟩ y1).setCell ⟨Z, 2, none⟩ y2).setCell ⟨Z, 3, none⟩ y3).cell? ⟨w.heap.size, 2, none⟩ = some v2 ∧ ((((W.setCell ⟨Z, 0, none⟩ y0).setCell ⟨Z, 1, none⟩ y1).setCell ⟨Z, 2, none⟩ y2).setCell ⟨Z, 3, none⟩ y3).cell? ⟨w.heap.size, 3, none⟩ = some v3 ∧ ((((W.setCell ⟨Z, 0, none⟩ y0).setCell ⟨Z, 1, none⟩ y1).setCell ⟨Z, 2, none⟩ y2).setCell ⟨Z, 3, none⟩ y3).cell? ⟨w.heap.size + 1, 0, none⟩ = some v4 ∧ ((((W.setCell ⟨Z, 0, none⟩ y0).setCell ⟨Z, 1, none⟩ y1).setCell ⟨Z, 2, none⟩ y2).setCell ⟨Z, 3, none⟩ y3).cell? ⟨w.heap.size + 1, 1, none⟩ = some v5 ∧ ((((W.setCell ⟨Z, 0, none⟩ y0).setCell ⟨Z, 1, none⟩ y1).setCell ⟨Z, 2, none⟩ y2).setCell ⟨Z, 3, none⟩ y3).cell? ⟨w.heap.size + 1, 2, none⟩ = some v6 ∧ ((((W.setCell ⟨Z, 0, none⟩ y0).setCell ⟨Z, 1, none⟩ y1).setCell ⟨Z, 2, none⟩ y2).setCell ⟨Z, 3, none⟩ y3).cell? ⟨w.heap.size + 1, 3, none⟩ = some v7 := by
  obtain ⟨h0, h1, c0, c1, c2, c3, c4, c5, c6, c7⟩ := h
  have key : ∀ (V : World) (b i o : Nat) (u : Value), b < Z → (V.setCell ⟨Z, i, none⟩ u).cell? ⟨b, o, none⟩ = V.cell? ⟨b, o, none⟩ := fun V b i o u hb => World.cell?_setCell_other _ _ _ _ (by intro e; injection e with e1; omega)
  refine ⟨Below.set (Below.set (Below.set (Below.set h0 _ _ (by omega) _) _ _ (by omega) _) _ _ (by omega) _) _ _ (by omega) _, by simpa using h1, ?_, ?_, ?_, ?_, ?_, ?_, ?_, ?_⟩
  all_goals (rw [key _ _ _ _ _ (by omega), key _ _ _ _ _ (by omega), key _ _ _ _ _ (by omega), key _ _ _ _ _ (by omega)]; assumption)
theorem sG {w W : World} {n : Nat} {R : Prop} (h : Below w.heap.size w W ∧ n ≤ W.heap.size ∧ R) : n ≤ W.heap.size := h.2.1
theorem sB {w W : World} {R : Prop} (h : Below w.heap.size w W ∧ R) : Below w.heap.size w W := h.1

/-- The variable lies in a new block, and holds four rows. -/
def RelS (cur : World) (U0 U1 U2 U3 : List (Int × Int)) (v6 : Value) (wz : World) : Prop :=
  ∃ Z p0 p1 p2 p3 q0 q1 q2 q3, v6 = .pointer (some ⟨Z, 0, none⟩) ∧ Box wz Z (.slice p0 U0.length q0) (.slice p1 U1.length q1) (.slice p2 U2.length q2) (.slice p3 U3.length q3) ∧ Seen wz 0 wz.heap.size p0 p1 p2 p3 U0.length U1.length U2.length U3.length U0 U1 U2 U3 ∧ Below cur.heap.size cur wz ∧ cur.heap.size ≤ Z

theorem relS_alloc {cur w3 : World} {lo : Nat} {U0 U1 U2 U3 : List (Int × Int)} {p0 p1 p2 p3 : Option Addr} {q0 q1 q2 q3 : Nat} (hX : Below cur.heap.size cur w3) (W : Seen w3 lo w3.heap.size p0 p1 p2 p3 U0.length U1.length U2.length U3.length U0 U1 U2 U3) :
    RelS cur U0 U1 U2 U3 (.pointer (some ⟨w3.heap.size, 0, none⟩)) (w3.alloc (.cells #[.slice p0 U0.length q0, .slice p1 U1.length q1, .slice p2 U2.length q2, .slice p3 U3.length q3] 28)) := by
  have al : Below w3.heap.size w3 (w3.alloc (.cells #[.slice p0 U0.length q0, .slice p1 U1.length q1, .slice p2 U2.length q2, .slice p3 U3.length q3] 28)) := (Below.refl _ _).alloc (Nat.le_refl _) _
  exact ⟨w3.heap.size, p0, p1, p2, p3, q0, q1, q2, q3, rfl, Box.new w3 (.slice p0 U0.length q0) (.slice p1 U1.length q1) (.slice p2 U2.length q2) (.slice p3 U3.length q3) 28, (W.below al (Nat.le_refl _)).mono (Nat.zero_le _) (by simp), Below.link hX al, hX.size⟩

theorem relS_fill {cur X w3 : World} {Z : Nat} {U0 U1 U2 U3 : List (Int × Int)} {p0 p1 p2 p3 : Option Addr} {q0 q1 q2 q3 : Nat} (bx : Box X Z (.slice none 0 0) (.slice none 0 0) (.slice none 0 0) (.slice none 0 0)) (hb : Below X.heap.size X w3) (hX : Below cur.heap.size cur w3) (hz : cur.heap.size ≤ Z) (W : Seen w3 X.heap.size w3.heap.size p0 p1 p2 p3 U0.length U1.length U2.length U3.length U0 U1 U2 U3) :
    RelS cur U0 U1 U2 U3 (.pointer (some ⟨Z, 0, none⟩)) ((((w3.setCell ⟨Z, 0, none⟩ (.slice p0 U0.length q0)).setCell ⟨Z, 1, none⟩ (.slice p1 U1.length q1)).setCell ⟨Z, 2, none⟩ (.slice p2 U2.length q2)).setCell ⟨Z, 3, none⟩ (.slice p3 U3.length q3)) := by
  obtain ⟨F, FO⟩ := (bx.keep2 hb).fill (.slice p0 U0.length q0) (.slice p1 U1.length q1) (.slice p2 U2.length q2) (.slice p3 U3.length q3)
  have := bx.lt
  exact ⟨Z, p0, p1, p2, p3, q0, q1, q2, q3, rfl, F, (W.out FO (.inr (by omega))).mono (Nat.zero_le _) FO.size, hX.trans (FO.below hz hX.size), hz⟩

theorem relS_fill2 {cur w3 : World} {Z lo : Nat} {U0 U1 U2 U3 : List (Int × Int)} {p0 p1 p2 p3 : Option Addr} {q0 q1 q2 q3 : Nat} (bx : Box w3 Z (.slice none 0 0) (.slice none 0 0) (.slice none 0 0) (.slice none 0 0)) (hlo : Z < lo) (hX : Below cur.heap.size cur w3) (hz : cur.heap.size ≤ Z) (W : Seen w3 lo w3.heap.size p0 p1 p2 p3 U0.length U1.length U2.length U3.length U0 U1 U2 U3) :
    RelS cur U0 U1 U2 U3 (.pointer (some ⟨Z, 0, none⟩)) ((((w3.setCell ⟨Z, 0, none⟩ (.slice p0 U0.length q0)).setCell ⟨Z, 1, none⟩ (.slice p1 U1.length q1)).setCell ⟨Z, 2, none⟩ (.slice p2 U2.length q2)).setCell ⟨Z, 3, none⟩ (.slice p3 U3.length q3)) := by
  obtain ⟨F, FO⟩ := bx.fill (.slice p0 U0.length q0) (.slice p1 U1.length q1) (.slice p2 U2.length q2) (.slice p3 U3.length q3)
  exact ⟨Z, p0, p1, p2, p3, q0, q1, q2, q3, rfl, F, (W.out FO (.inr (by omega))).mono (Nat.zero_le _) FO.size, hX.trans (FO.below hz hX.size), hz⟩

end Go.Proofs.Ytphchdjbhbmnbaa
namespace Go.Proofs.Ytphchdjbhbmnbaa
open Go.RowKit

theorem wpList_room {ops : Array Oper} {rest : List Oper} {o : Oper} {a : Act} {w : World} {Q : Exit → Act → World → Prop}
    (hg : o.guard = none) (s x : Operand) (hop : o.op = Op.call { callee := Callee.builtin Builtin.append, args := #[s, x], argTypes := #[26, 26] })
    (lo hi : Nat) (a' : Option Addr) (n c : Nat) (l : List (Int × Int)) (hs : a.eval s = .slice a' n c) (hr : RoomIn w lo hi a' n c l)
    (b m d : Nat) (k : List (Int × Int)) (hx : a.eval x = .slice (some ⟨b, 0, none⟩) m d) (hk : k.length = m) (ho : Own w b m k m) (hn : n + m ≤ 2097152) (hlo : lo ≤ w.heap.size)
    (h : ∀ a'' c'' w', RowOr w' lo hi w.heap.size a'' (n + m) (l ++ k) → Out lo hi w w' → wpList Try.prog ops Q rest (a.put o.dst (.slice a'' (n + m) c'')) w') :
    wpList Try.prog ops Q (o :: rest) a w := wpList_plain hg fun K hK => by
  have z := step_room (ops := ops) (K := K) (Q := Q) (E := True) hg s x hop lo hi a' n c l hs hr b m d k hx hk ho hn hlo (fun a'' c'' w' h1 h2 => hK _ _ (h a'' c'' w' h1 h2))
  rwa [if_pos (by simp [Region.wanted, hg])] at z

theorem RowOr.out {w w' : World} {lo hi lo' hi' S n : Nat} {a : Option Addr} {l : List (Int × Int)} (h : RowOr w lo hi S a n l) (ho : Out lo' hi' w w') (h1 : hi ≤ lo' ∨ hi' ≤ lo) (h2 : hi' ≤ S) : RowOr w' lo hi S a n l := by
  obtain ⟨hl, h0 | ⟨b, rfl, hb, hw⟩⟩ := h
  · exact ⟨hl, .inl h0⟩
  · exact ⟨hl, .inr ⟨b, rfl, hb, hw.out ho (by omega)⟩⟩
theorem RowOr.row {w : World} {lo hi S n B : Nat} {a : Option Addr} {l : List (Int × Int)} (h : RowOr w lo hi S a n l) (h1 : B ≤ lo) (h2 : B ≤ S) : RowIn w B w.heap.size a n l := by
  obtain ⟨hl, h0 | ⟨b, rfl, hb, hw⟩⟩ := h
  · exact ⟨hl, .inl h0⟩
  · exact RowIn.ofOwn hw hl (by omega) hw.1

set_option maxHeartbeats 4000000 in
theorem l1star_any (b0 b1 b2 b3 c0 c1 c2 c3 d0 d1 d2 d3 f0 f1 f2 f3 : Nat) (l0 l1 l2 l3 k0 k1 k2 k3 : List (Int × Int)) (w : World) (n0 : l0.length ≤ 1048576) (n1 : l1.length ≤ 1048576) (n2 : l2.length ≤ 1048576) (n3 : l3.length ≤ 1048576) (j0 : k0.length ≤ 1048576) (j1 : k1.length ≤ 1048576) (j2 : k2.length ≤ 1048576) (j3 : k3.length ≤ 1048576) (o0 : Own w b0 l0.length l0 l0.length) (o1 : Own w b1 l1.length l1 l1.length) (o2 : Own w b2 l2.length l2 l2.length) (o3 : Own w b3 l3.length l3 l3.length) (p0 : Own w d0 k0.length k0 k0.length) (p1 : Own w d1 k1.length k1 k1.length) (p2 : Own w d2 k2.length k2 k2.length) (p3 : Own w d3 k3.length k3 k3.length) :
    Calls Try.prog 138 #[.agg #[.slice (some ⟨b0, 0, none⟩) l0.length c0, .slice (some ⟨b1, 0, none⟩) l1.length c1, .slice (some ⟨b2, 0, none⟩) l2.length c2, .slice (some ⟨b3, 0, none⟩) l3.length c3], .agg #[.slice (some ⟨d0, 0, none⟩) k0.length f0, .slice (some ⟨d1, 0, none⟩) k1.length f1, .slice (some ⟨d2, 0, none⟩) k2.length f2, .slice (some ⟨d3, 0, none⟩) k3.length f3]] w fun e w' => ∃ a0 a1 a2 a3 e0 e1 e2 e3,
      e = .returned (.agg #[.slice a0 (l0.length + k0.length) e0, .slice a1 (l1.length + k1.length) e1, .slice a2 (l2.length + k2.length) e2, .slice a3 (l3.length + k3.length) e3]) ∧ RowIn w' w.heap.size w'.heap.size a0 (l0.length + k0.length) (l0 ++ k0) ∧ RowIn w' w.heap.size w'.heap.size a1 (l1.length + k1.length) (l1 ++ k1) ∧ RowIn w' w.heap.size w'.heap.size a2 (l2.length + k2.length) (l2 ++ k2) ∧ RowIn w' w.heap.size w'.heap.size a3 (l3.length + k3.length) (l3 ++ k3) ∧ Below w.heap.size w w' := by
  have B0 := (Box.new (w.alloc (.cells #[.slice (some ⟨b0, 0, none⟩) l0.length c0, .slice (some ⟨b1, 0, none⟩) l1.length c1, .slice (some ⟨b2, 0, none⟩) l2.length c2, .slice (some ⟨b3, 0, none⟩) l3.length c3] 28)) (.slice (some ⟨d0, 0, none⟩) k0.length f0) (.slice (some ⟨d1, 0, none⟩) k1.length f1) (.slice (some ⟨d2, 0, none⟩) k2.length f2) (.slice (some ⟨d3, 0, none⟩) k3.length f3) 28).below ((Below.refl _ _).alloc (Nat.le_refl _) (.cells #[.slice none 0 0, .slice none 0 0, .slice none 0 0, .slice none 0 0] 28)) (by simp)
  have R0 := Box.new ((w.alloc (.cells #[.slice (some ⟨b0, 0, none⟩) l0.length c0, .slice (some ⟨b1, 0, none⟩) l1.length c1, .slice (some ⟨b2, 0, none⟩) l2.length c2, .slice (some ⟨b3, 0, none⟩) l3.length c3] 28)).alloc (.cells #[.slice (some ⟨d0, 0, none⟩) k0.length f0, .slice (some ⟨d1, 0, none⟩) k1.length f1, .slice (some ⟨d2, 0, none⟩) k2.length f2, .slice (some ⟨d3, 0, none⟩) k3.length f3] 28)) (.slice none 0 0) (.slice none 0 0) (.slice none 0 0) (.slice none 0 0) 28
  have A0 := ((Box.new w (.slice (some ⟨b0, 0, none⟩) l0.length c0) (.slice (some ⟨b1, 0, none⟩) l1.length c1) (.slice (some ⟨b2, 0, none⟩) l2.length c2) (.slice (some ⟨b3, 0, none⟩) l3.length c3) 28).below ((Below.refl _ _).alloc (Nat.le_refl _) (.cells #[.slice (some ⟨d0, 0, none⟩) k0.length f0, .slice (some ⟨d1, 0, none⟩) k1.length f1, .slice (some ⟨d2, 0, none⟩) k2.length f2, .slice (some ⟨d3, 0, none⟩) k3.length f3] 28)) (by simp)).below ((Below.refl _ _).alloc (Nat.le_refl _) (.cells #[.slice none 0 0, .slice none 0 0, .slice none 0 0, .slice none 0 0] 28)) (by simp; omega)
  have L0 : Below w.heap.size w (((w.alloc (.cells #[.slice (some ⟨b0, 0, none⟩) l0.length c0, .slice (some ⟨b1, 0, none⟩) l1.length c1, .slice (some ⟨b2, 0, none⟩) l2.length c2, .slice (some ⟨b3, 0, none⟩) l3.length c3] 28)).alloc (.cells #[.slice (some ⟨d0, 0, none⟩) k0.length f0, .slice (some ⟨d1, 0, none⟩) k1.length f1, .slice (some ⟨d2, 0, none⟩) k2.length f2, .slice (some ⟨d3, 0, none⟩) k3.length f3] 28)).alloc (.cells #[.slice none 0 0, .slice none 0 0, .slice none 0 0, .slice none 0 0] 28)) := (((Below.refl _ _).alloc (Nat.le_refl _) _).alloc (by simp) _).alloc (by simp; omega) _
  have Z0 : (((w.alloc (.cells #[.slice (some ⟨b0, 0, none⟩) l0.length c0, .slice (some ⟨b1, 0, none⟩) l1.length c1, .slice (some ⟨b2, 0, none⟩) l2.length c2, .slice (some ⟨b3, 0, none⟩) l3.length c3] 28)).alloc (.cells #[.slice (some ⟨d0, 0, none⟩) k0.length f0, .slice (some ⟨d1, 0, none⟩) k1.length f1, .slice (some ⟨d2, 0, none⟩) k2.length f2, .slice (some ⟨d3, 0, none⟩) k3.length f3] 28)).alloc (.cells #[.slice none 0 0, .slice none 0 0, .slice none 0 0, .slice none 0 0] 28)).heap.size = w.heap.size + 3 := by simp
  rw [World.size_alloc] at B0 R0
  rw [World.size_alloc] at R0
  go_enter Try.func138, Try.ntmps138
  go_wp2_with fail
  generalize ((w.alloc (.cells #[.slice (some ⟨b0, 0, none⟩) l0.length c0, .slice (some ⟨b1, 0, none⟩) l1.length c1, .slice (some ⟨b2, 0, none⟩) l2.length c2, .slice (some ⟨b3, 0, none⟩) l3.length c3] 28)).alloc (.cells #[.slice (some ⟨d0, 0, none⟩) k0.length f0, .slice (some ⟨d1, 0, none⟩) k1.length f1, .slice (some ⟨d2, 0, none⟩) k2.length f2, .slice (some ⟨d3, 0, none⟩) k3.length f3] 28)).alloc (.cells #[.slice none 0 0, .slice none 0 0, .slice none 0 0, .slice none 0 0] 28) = W0 at *
  refine (l1own_any b0 b1 b2 b3 c0 c1 c2 c3 l0 l1 l2 l3 _ n0 n1 n2 n3 (o0.below L0 o0.1) (o1.below L0 o1.1) (o2.below L0 o2.1) (o3.below L0 o3.1)).mono ?_
  rintro e w1 ⟨a0, a1, a2, a3, e0, e1, e2, e3, m1, m2, m3, m4, rfl, t0, t1, t2, t3, g1, g2, g3, g4, g5, hb⟩
  rw [Z0] at t0 g1
  have q0 := p0.1; have q1 := p1.1; have q2 := p2.1; have q3 := p3.1
  replace p0 := (p0.below L0 p0.1).below hb (p0.below L0 p0.1).1; replace p1 := (p1.below L0 p1.1).below hb (p1.below L0 p1.1).1; replace p2 := (p2.below L0 p2.1).below hb (p2.below L0 p2.1).1; replace p3 := (p3.below L0 p3.1).below hb (p3.below L0 p3.1).1
  have hz := hb.size; rw [Z0] at hz; clear Z0
  replace B0 := B0.below hb B0.lt; replace R0 := R0.below hb R0.lt; replace L0 := L0.trans (hb.mono L0.size)
  clear hb A0 o0 o1 o2 o3
  have X0 := Box.new w1 (.slice a0 l0.length e0) (.slice a1 l1.length e1) (.slice a2 l2.length e2) (.slice a3 l3.length e3) 28
  have al : Below w1.heap.size w1 (w1.alloc (.cells #[.slice a0 l0.length e0, .slice a1 l1.length e1, .slice a2 l2.length e2, .slice a3 l3.length e3] 28)) := (Below.refl _ _).alloc (Nat.le_refl _) _
  have Z1 : (w1.alloc (.cells #[.slice a0 l0.length e0, .slice a1 l1.length e1, .slice a2 l2.length e2, .slice a3 l3.length e3] 28)).heap.size = w1.heap.size + 1 := by simp
  replace p0 := p0.below al p0.1; replace p1 := p1.below al p1.1; replace p2 := p2.below al p2.1; replace p3 := p3.below al p3.1
  replace t0 := t0.below al (by omega); replace t1 := t1.below al (by omega); replace t2 := t2.below al (by omega); replace t3 := t3.below al (by omega)
  replace B0 := B0.below al B0.lt; replace R0 := R0.below al R0.lt; replace L0 := L0.trans (al.mono L0.size)
  clear al
  have hN : (w1.alloc (.cells #[.slice a0 l0.length e0, .slice a1 l1.length e1, .slice a2 l2.length e2, .slice a3 l3.length e3] 28)).heap.size = w1.heap.size + 1 := Z1
  clear Z1
  have x0 := X0.c0; have x1 := X0.c1; have x2 := X0.c2; have x3 := X0.c3; have y0 := B0.c0; have y1 := B0.c1; have y2 := B0.c2; have y3 := B0.c3
  have hs0 : w1.heap.size + 1 ≤ (w1.alloc (.cells #[.slice a0 l0.length e0, .slice a1 l1.length e1, .slice a2 l2.length e2, .slice a3 l3.length e3] 28)).heap.size := by omega
  go_wp2_with (first | (at_builtin; refine wpList_room rfl _ _ rfl (w.heap.size + 3 + 2) m1 a0 l0.length e0 l0 rfl t0 d0 k0.length f0 k0 rfl rfl p0 (by omega) (by omega) ?_))
  clear x0 x1 x2 x3 y0 y1 y2 y3
  intro u0 v0 w2 r0 ho
  have X1 := X0.out ho (by omega)
  replace B0 := B0.out ho (by omega); replace R0 := R0.out ho (by omega)
  replace L0 := L0.trans (ho.below (by omega) L0.size)
  replace p0 := p0.out ho (by omega)
  replace p1 := p1.out ho (by omega)
  replace p2 := p2.out ho (by omega)
  replace p3 := p3.out ho (by omega)
  replace t1 := t1.out ho (by omega)
  replace t2 := t2.out ho (by omega)
  replace t3 := t3.out ho (by omega)
  have hn0 := ho.size
  clear ho t0
  have ho := Out.set w1.heap.size 0 w2 (.slice u0 (l0.length + k0.length) v0)
  have xx0 := X1.c0; have xf0 := X1.f0
  replace X0 := X1.set0 (.slice u0 (l0.length + k0.length) v0)
  replace B0 := B0.out ho (by omega); replace R0 := R0.out ho (by omega)
  replace L0 := L0.trans (ho.below (by omega) L0.size)
  replace p0 := p0.out ho (by omega)
  replace p1 := p1.out ho (by omega)
  replace p2 := p2.out ho (by omega)
  replace p3 := p3.out ho (by omega)
  replace t1 := t1.out ho (by omega)
  replace t2 := t2.out ho (by omega)
  replace t3 := t3.out ho (by omega)
  replace r0 := r0.out ho (by omega) (by omega)
  have hm0 : (w2.setCell ⟨w1.heap.size, 0, none⟩ (.slice u0 (l0.length + k0.length) v0)).heap.size = w2.heap.size := by simp
  clear ho X1
  have x0 := X0.c0; have x1 := X0.c1; have x2 := X0.c2; have x3 := X0.c3; have y0 := B0.c0; have y1 := B0.c1; have y2 := B0.c2; have y3 := B0.c3
  have hs1 : w1.heap.size + 1 ≤ (w2.setCell ⟨w1.heap.size, 0, none⟩ (.slice u0 (l0.length + k0.length) v0)).heap.size := by omega
  go_wp2_with (first | (at_builtin; refine wpList_room rfl _ _ rfl m1 m2 a1 l1.length e1 l1 rfl t1 d1 k1.length f1 k1 rfl rfl p1 (by omega) (by omega) ?_))
  clear x0 x1 x2 x3 y0 y1 y2 y3
  intro u1 v1 w3 r1 ho
  have X1 := X0.out ho (by omega)
  replace B0 := B0.out ho (by omega); replace R0 := R0.out ho (by omega)
  replace L0 := L0.trans (ho.below (by omega) L0.size)
  replace p0 := p0.out ho (by omega)
  replace p1 := p1.out ho (by omega)
  replace p2 := p2.out ho (by omega)
  replace p3 := p3.out ho (by omega)
  replace t2 := t2.out ho (by omega)
  replace t3 := t3.out ho (by omega)
  replace r0 := r0.out ho (by omega) (by omega)
  have hn1 := ho.size
  clear ho t1
  have ho := Out.set w1.heap.size 1 w3 (.slice u1 (l1.length + k1.length) v1)
  have xx1 := X1.c1; have xf1 := X1.f1
  replace X0 := X1.set1 (.slice u1 (l1.length + k1.length) v1)
  replace B0 := B0.out ho (by omega); replace R0 := R0.out ho (by omega)
  replace L0 := L0.trans (ho.below (by omega) L0.size)
  replace p0 := p0.out ho (by omega)
  replace p1 := p1.out ho (by omega)
  replace p2 := p2.out ho (by omega)
  replace p3 := p3.out ho (by omega)
  replace t2 := t2.out ho (by omega)
  replace t3 := t3.out ho (by omega)
  replace r0 := r0.out ho (by omega) (by omega)
  replace r1 := r1.out ho (by omega) (by omega)
  have hm1 : (w3.setCell ⟨w1.heap.size, 1, none⟩ (.slice u1 (l1.length + k1.length) v1)).heap.size = w3.heap.size := by simp
  clear ho X1
  have x0 := X0.c0; have x1 := X0.c1; have x2 := X0.c2; have x3 := X0.c3; have y0 := B0.c0; have y1 := B0.c1; have y2 := B0.c2; have y3 := B0.c3
  have hs2 : w1.heap.size + 1 ≤ (w3.setCell ⟨w1.heap.size, 1, none⟩ (.slice u1 (l1.length + k1.length) v1)).heap.size := by omega
  go_wp2_with (first | (at_builtin; refine wpList_room rfl _ _ rfl m2 m3 a2 l2.length e2 l2 rfl t2 d2 k2.length f2 k2 rfl rfl p2 (by omega) (by omega) ?_))
  clear x0 x1 x2 x3 y0 y1 y2 y3
  intro u2 v2 w4 r2 ho
  have X1 := X0.out ho (by omega)
  replace B0 := B0.out ho (by omega); replace R0 := R0.out ho (by omega)
  replace L0 := L0.trans (ho.below (by omega) L0.size)
  replace p0 := p0.out ho (by omega)
  replace p1 := p1.out ho (by omega)
  replace p2 := p2.out ho (by omega)
  replace p3 := p3.out ho (by omega)
  replace t3 := t3.out ho (by omega)
  replace r0 := r0.out ho (by omega) (by omega)
  replace r1 := r1.out ho (by omega) (by omega)
  have hn2 := ho.size
  clear ho t2
  have ho := Out.set w1.heap.size 2 w4 (.slice u2 (l2.length + k2.length) v2)
  have xx2 := X1.c2; have xf2 := X1.f2
  replace X0 := X1.set2 (.slice u2 (l2.length + k2.length) v2)
  replace B0 := B0.out ho (by omega); replace R0 := R0.out ho (by omega)
  replace L0 := L0.trans (ho.below (by omega) L0.size)
  replace p0 := p0.out ho (by omega)
  replace p1 := p1.out ho (by omega)
  replace p2 := p2.out ho (by omega)
  replace p3 := p3.out ho (by omega)
  replace t3 := t3.out ho (by omega)
  replace r0 := r0.out ho (by omega) (by omega)
  replace r1 := r1.out ho (by omega) (by omega)
  replace r2 := r2.out ho (by omega) (by omega)
  have hm2 : (w4.setCell ⟨w1.heap.size, 2, none⟩ (.slice u2 (l2.length + k2.length) v2)).heap.size = w4.heap.size := by simp
  clear ho X1
  have x0 := X0.c0; have x1 := X0.c1; have x2 := X0.c2; have x3 := X0.c3; have y0 := B0.c0; have y1 := B0.c1; have y2 := B0.c2; have y3 := B0.c3
  have hs3 : w1.heap.size + 1 ≤ (w4.setCell ⟨w1.heap.size, 2, none⟩ (.slice u2 (l2.length + k2.length) v2)).heap.size := by omega
  go_wp2_with (first | (at_builtin; refine wpList_room rfl _ _ rfl m3 m4 a3 l3.length e3 l3 rfl t3 d3 k3.length f3 k3 rfl rfl p3 (by omega) (by omega) ?_))
  clear x0 x1 x2 x3 y0 y1 y2 y3
  intro u3 v3 w5 r3 ho
  have X1 := X0.out ho (by omega)
  replace B0 := B0.out ho (by omega); replace R0 := R0.out ho (by omega)
  replace L0 := L0.trans (ho.below (by omega) L0.size)
  replace p0 := p0.out ho (by omega)
  replace p1 := p1.out ho (by omega)
  replace p2 := p2.out ho (by omega)
  replace p3 := p3.out ho (by omega)
  replace r0 := r0.out ho (by omega) (by omega)
  replace r1 := r1.out ho (by omega) (by omega)
  replace r2 := r2.out ho (by omega) (by omega)
  have hn3 := ho.size
  clear ho t3
  have ho := Out.set w1.heap.size 3 w5 (.slice u3 (l3.length + k3.length) v3)
  have xx3 := X1.c3; have xf3 := X1.f3
  replace X0 := X1.set3 (.slice u3 (l3.length + k3.length) v3)
  replace B0 := B0.out ho (by omega); replace R0 := R0.out ho (by omega)
  replace L0 := L0.trans (ho.below (by omega) L0.size)
  replace p0 := p0.out ho (by omega)
  replace p1 := p1.out ho (by omega)
  replace p2 := p2.out ho (by omega)
  replace p3 := p3.out ho (by omega)
  replace r0 := r0.out ho (by omega) (by omega)
  replace r1 := r1.out ho (by omega) (by omega)
  replace r2 := r2.out ho (by omega) (by omega)
  replace r3 := r3.out ho (by omega) (by omega)
  have hm3 : (w5.setCell ⟨w1.heap.size, 3, none⟩ (.slice u3 (l3.length + k3.length) v3)).heap.size = w5.heap.size := by simp
  clear ho X1
  have x0 := X0.c0; have x1 := X0.c1; have x2 := X0.c2; have x3 := X0.c3
  have y0 := R0.c0; have y1 := R0.c1; have y2 := R0.c2; have y3 := R0.c3; have y4 := R0.f0; have y5 := R0.f1; have y6 := R0.f2; have y7 := R0.f3
  obtain ⟨F, FO⟩ := R0.fill (.slice u0 (l0.length + k0.length) v0) (.slice u1 (l1.length + k1.length) v1) (.slice u2 (l2.length + k2.length) v2) (.slice u3 (l3.length + k3.length) v3)
  have s0 := ((r0.out FO (by omega) (by omega)).row (B := w.heap.size) (by omega) (by omega))
  have s1 := ((r1.out FO (by omega) (by omega)).row (B := w.heap.size) (by omega) (by omega))
  have s2 := ((r2.out FO (by omega) (by omega)).row (B := w.heap.size) (by omega) (by omega))
  have s3 := ((r3.out FO (by omega) (by omega)).row (B := w.heap.size) (by omega) (by omega))
  have L1 := L0.trans (FO.below (by omega) L0.size)
  have i0 := F.c0; have i1 := F.c1; have i2 := F.c2; have i3 := F.c3
  clear F FO L0 r0 r1 r2 r3 p0 p1 p2 p3
  go_wp2
  refine bodyPost_ret (v := .agg #[.slice u0 (l0.length + k0.length) v0, .slice u1 (l1.length + k1.length) v1, .slice u2 (l2.length + k2.length) v2, .slice u3 (l3.length + k3.length) v3]) ?_ rfl ⟨u0, u1, u2, u3, v0, v1, v2, v3, rfl, s0, s1, s2, s3, L1⟩
  simp [results, Try.results138, go_sem, i0, i1, i2, i3]

end Go.Proofs.Ytphchdjbhbmnbaa
namespace Go.Proofs.Ytphchdjbhbmnbaa
open Go.RowKit
set_option linter.unusedVariables false

theorem kind_cap {c0 c1 c2 c3 : Nat} {l0 l1 l2 l3 : List (Int × Int)} (z0 : l0.length ≤ c0) (z1 : l1.length ≤ c1) (z2 : l2.length ≤ c2) (z3 : l3.length ≤ c3) (k : Int) : (kindL l0 l1 l2 l3 k).length ≤ kindB c0 c1 c2 c3 k := by
  unfold kindL kindB
  split
  · exact z0
  · split
    · exact z1
    · split
      · exact z2
      · exact z3

theorem jS_out {w W u : World} {lo hi : Nat} {v0 v1 v2 v3 : Value} (h : Below w.heap.size w W ∧ Own W (w.heap.size + 1) 2 [] 0 ∧ W.cell? ⟨w.heap.size, 0, none⟩ = some v0 ∧ W.cell? ⟨w.heap.size, 1, none⟩ = some v1 ∧ W.cell? ⟨w.heap.size, 2, none⟩ = some v2 ∧ W.cell? ⟨w.heap.size, 3, none⟩ = some v3) (ho : Out lo hi W u) (hl : w.heap.size + 2 ≤ lo) : Below w.heap.size w u ∧ Own u (w.heap.size + 1) 2 [] 0 ∧ u.cell? ⟨w.heap.size, 0, none⟩ = some v0 ∧ u.cell? ⟨w.heap.size, 1, none⟩ = some v1 ∧ u.cell? ⟨w.heap.size, 2, none⟩ = some v2 ∧ u.cell? ⟨w.heap.size, 3, none⟩ = some v3 := by
  obtain ⟨h0, h5, h1, h2, h3, h4⟩ := h
  have z := World.block_lt_of_cell? _ _ h1
  have e : ∀ o, u.cell? ⟨w.heap.size, o, none⟩ = W.cell? ⟨w.heap.size, o, none⟩ := fun o => World.cell?_of_block (w := W) (ho.block w.heap.size z (.inl (by omega)))
  exact ⟨h0.trans (ho.below (by omega) h0.size), h5.out ho (.inl (by omega)), by rw [e]; exact h1, by rw [e]; exact h2, by rw [e]; exact h3, by rw [e]; exact h4⟩

theorem seen2 {u0 W u1 : World} {lo hi : Nat} {a0 a1 a2 a3 : Option Addr} {n0 n1 n2 n3 : Nat} {l0 l1 l2 l3 : List (Int × Int)} (T : Seen u0 lo hi a0 a1 a2 a3 n0 n1 n2 n3 l0 l1 l2 l3) (hh : hi ≤ u0.heap.size) (h1 : Below u0.heap.size u0 W) (h2 : Below W.heap.size W u1) : Seen u1 lo hi a0 a1 a2 a3 n0 n1 n2 n3 l0 l1 l2 l3 :=
  (T.below h1 hh).below h2 (Nat.le_trans hh h1.size)

theorem pick_row {u : World} {lo hi : Nat} {ax ay : Option Addr} {nx ny : Nat} {lx ly : List (Int × Int)} (k j : Nat) (X : RowIn u lo hi ax nx lx) (Y : RowIn u lo hi ay ny ly) : RowIn u lo hi (pick k j ax ay) (pick k j nx ny) (pick k j lx ly) := by
  unfold pick; split
  · exact X
  · exact Y

theorem pick_wth (l0 l1 l2 l3 : List (Int × Int)) (k : Nat) (hk : k < 4) (i : Nat) :
    pick k 0 ((kindL l0 l1 l2 l3 k).take i ++ (kindL l0 l1 l2 l3 k).drop (i + 1)) l0 = wthL l0 (k : Int) 0 (i : Int) ∧ pick k 1 ((kindL l0 l1 l2 l3 k).take i ++ (kindL l0 l1 l2 l3 k).drop (i + 1)) l1 = wthL l1 (k : Int) 1 (i : Int) ∧ pick k 2 ((kindL l0 l1 l2 l3 k).take i ++ (kindL l0 l1 l2 l3 k).drop (i + 1)) l2 = wthL l2 (k : Int) 2 (i : Int) ∧ pick k 3 ((kindL l0 l1 l2 l3 k).take i ++ (kindL l0 l1 l2 l3 k).drop (i + 1)) l3 = wthL l3 (k : Int) 3 (i : Int) := by
  obtain rfl | rfl | rfl | rfl : k = 0 ∨ k = 1 ∨ k = 2 ∨ k = 3 := by omega
  · exact ⟨rfl, rfl, rfl, rfl⟩
  · exact ⟨rfl, rfl, rfl, rfl⟩
  · exact ⟨rfl, rfl, rfl, rfl⟩
  · exact ⟨rfl, rfl, rfl, rfl⟩

theorem pick_len (k j : Nat) (l m : List (Int × Int)) (n n' : Nat) (h1 : l.length = n) (h2 : m.length = n') : pick k j n n' = (pick k j l m).length := by
  unfold pick; split
  · exact h1.symm
  · exact h2.symm

set_option maxRecDepth 20000 in
set_option maxHeartbeats 16000000 in
theorem sWithout_any (b0 b1 b2 b3 c0 c1 c2 c3 : Nat) (l0 l1 l2 l3 : List (Int × Int)) (kind i : Int) (w : World) (n0 : l0.length ≤ 1048576) (n1 : l1.length ≤ 1048576) (n2 : l2.length ≤ 1048576) (n3 : l3.length ≤ 1048576) (o0 : Own w b0 l0.length l0 l0.length) (o1 : Own w b1 l1.length l1 l1.length) (o2 : Own w b2 l2.length l2 l2.length) (o3 : Own w b3 l3.length l3 l3.length) (z0 : l0.length ≤ c0) (z1 : l1.length ≤ c1) (z2 : l2.length ≤ c2) (z3 : l3.length ≤ c3) :
    Calls Try.prog 57 #[.agg #[.slice (some ⟨b0, 0, none⟩) l0.length c0, .slice (some ⟨b1, 0, none⟩) l1.length c1, .slice (some ⟨b2, 0, none⟩) l2.length c2, .slice (some ⟨b3, 0, none⟩) l3.length c3], .int .i64 kind, .int .i64 i] w fun e w' => ∃ p0 p1 p2 p3 q0 q1 q2 q3, e = .returned (.tuple #[.agg #[.slice p0 (okL (wthB l0 l1 l2 l3 kind i) (wthL l0 kind 0 i)).length q0, .slice p1 (okL (wthB l0 l1 l2 l3 kind i) (wthL l1 kind 1 i)).length q1, .slice p2 (okL (wthB l0 l1 l2 l3 kind i) (wthL l2 kind 2 i)).length q2, .slice p3 (okL (wthB l0 l1 l2 l3 kind i) (wthL l3 kind 3 i)).length q3], .bool (wthB l0 l1 l2 l3 kind i)]) ∧ Seen w' w.heap.size w'.heap.size p0 p1 p2 p3 (okL (wthB l0 l1 l2 l3 kind i) (wthL l0 kind 0 i)).length (okL (wthB l0 l1 l2 l3 kind i) (wthL l1 kind 1 i)).length (okL (wthB l0 l1 l2 l3 kind i) (wthL l2 kind 2 i)).length (okL (wthB l0 l1 l2 l3 kind i) (wthL l3 kind 3 i)).length (okL (wthB l0 l1 l2 l3 kind i) (wthL l0 kind 0 i)) (okL (wthB l0 l1 l2 l3 kind i) (wthL l1 kind 1 i)) (okL (wthB l0 l1 l2 l3 kind i) (wthL l2 kind 2 i)) (okL (wthB l0 l1 l2 l3 kind i) (wthL l3 kind 3 i)) ∧ Below w.heap.size w w' := by
  have A0 := (Box.new w (.slice (some ⟨b0, 0, none⟩) l0.length c0) (.slice (some ⟨b1, 0, none⟩) l1.length c1) (.slice (some ⟨b2, 0, none⟩) l2.length c2) (.slice (some ⟨b3, 0, none⟩) l3.length c3) 28).alloc (.cells #[.slice none 0 0, .slice none 0 0, .slice none 0 0, .slice none 0 0] 28)
  have R0 := Box.new (w.alloc (.cells #[.slice (some ⟨b0, 0, none⟩) l0.length c0, .slice (some ⟨b1, 0, none⟩) l1.length c1, .slice (some ⟨b2, 0, none⟩) l2.length c2, .slice (some ⟨b3, 0, none⟩) l3.length c3] 28)) (.slice none 0 0) (.slice none 0 0) (.slice none 0 0) (.slice none 0 0) 28
  rw [World.size_alloc] at R0
  have L0 : Below w.heap.size w ((w.alloc (.cells #[.slice (some ⟨b0, 0, none⟩) l0.length c0, .slice (some ⟨b1, 0, none⟩) l1.length c1, .slice (some ⟨b2, 0, none⟩) l2.length c2, .slice (some ⟨b3, 0, none⟩) l3.length c3] 28)).alloc (.cells #[.slice none 0 0, .slice none 0 0, .slice none 0 0, .slice none 0 0] 28)) := ((Below.refl _ _).alloc (Nat.le_refl _) _).alloc (by simp) _
  have HK : Hid (∀ k : Int, Own w (kindB b0 b1 b2 b3 k) (kindL l0 l1 l2 l3 k).length (kindL l0 l1 l2 l3 k) (kindL l0 l1 l2 l3 k).length ∧ (kindL l0 l1 l2 l3 k).length ≤ 1048576 ∧ (kindL l0 l1 l2 l3 k).length ≤ (kindB c0 c1 c2 c3 k)) := fun k => ⟨kind_own o0 o1 o2 o3 k, kind_le n0 n1 n2 n3 k, kind_cap z0 z1 z2 z3 k⟩
  go_enter Try.func57, Try.ntmps57
  go_wp2_with fail
  refine (sAsnOk_any _ _ _ _ _ _ _ _ _ _ _ _ _ n0 n1 n2 n3 (by exact (o0.below L0 o0.1).row) (by exact (o1.below L0 o1.1).row) (by exact (o2.below L0 o2.1).row) (by exact (o3.below L0 o3.1).row)).mono ?_
  rintro e w1 ⟨rfl, hb⟩
  replace A0 := A0.below hb A0.lt; replace R0 := R0.below hb R0.lt; replace L0 := L0.trans (hb.mono L0.size)
  clear hb
  have A0c0 := A0.c0; have A0c1 := A0.c1; have A0c2 := A0.c2; have A0c3 := A0.c3
  cases h1 : asnB l0 l1 l2 l3
  · have HE : Hid ((wthB l0 l1 l2 l3 kind i) = false) := by show (wthB l0 l1 l2 l3 kind i) = false; unfold wthB; rw [h1]; rfl
    obtain ⟨F, FO⟩ := R0.fill (.slice none 0 0) (.slice none 0 0) (.slice none 0 0) (.slice none 0 0)
    have j0' := R0.c0; have j1' := R0.c1; have j2' := R0.c2; have j3' := R0.c3
    have g0 := R0.f0; have g1 := R0.f1; have g2 := R0.f2; have g3 := R0.f3
    go_wp2
    have i0 := F.c0; have i1 := F.c1; have i2 := F.c2; have i3 := F.c3
    refine bodyPost_ret (v := .tuple #[.agg #[.slice none 0 0, .slice none 0 0, .slice none 0 0, .slice none 0 0], .bool false]) ?_ rfl ⟨none, none, none, none, 0, 0, 0, 0, by rw [HE.out]; rfl, ?_, ?_⟩
    · simp [results, Try.results57, go_sem, i0, i1, i2, i3]
    · rw [HE.out]; exact Seen.none _ _ _
    · exact L0.trans (FO.below (by omega) L0.size)
  have H1 : Hid (asnB l0 l1 l2 l3 = true) := h1
  clear h1
  by_cases kd0 : kind < 0
  · have HE : Hid ((wthB l0 l1 l2 l3 kind i) = false) := by show (wthB l0 l1 l2 l3 kind i) = false; unfold wthB; rw [decide_eq_false (p := 0 ≤ kind ∧ _) (by omega)]; simp
    obtain ⟨F, FO⟩ := R0.fill (.slice none 0 0) (.slice none 0 0) (.slice none 0 0) (.slice none 0 0)
    have j0' := R0.c0; have j1' := R0.c1; have j2' := R0.c2; have j3' := R0.c3
    have g0 := R0.f0; have g1 := R0.f1; have g2 := R0.f2; have g3 := R0.f3
    go_wp2
    have i0 := F.c0; have i1 := F.c1; have i2 := F.c2; have i3 := F.c3
    refine bodyPost_ret (v := .tuple #[.agg #[.slice none 0 0, .slice none 0 0, .slice none 0 0, .slice none 0 0], .bool false]) ?_ rfl ⟨none, none, none, none, 0, 0, 0, 0, by rw [HE.out]; rfl, ?_, ?_⟩
    · simp [results, Try.results57, go_sem, i0, i1, i2, i3]
    · rw [HE.out]; exact Seen.none _ _ _
    · exact L0.trans (FO.below (by omega) L0.size)
  by_cases kd3 : 3 < kind
  · have HE : Hid ((wthB l0 l1 l2 l3 kind i) = false) := by show (wthB l0 l1 l2 l3 kind i) = false; unfold wthB; rw [decide_eq_false (p := 0 ≤ kind ∧ _) (by omega)]; simp
    obtain ⟨F, FO⟩ := R0.fill (.slice none 0 0) (.slice none 0 0) (.slice none 0 0) (.slice none 0 0)
    have j0' := R0.c0; have j1' := R0.c1; have j2' := R0.c2; have j3' := R0.c3
    have g0 := R0.f0; have g1 := R0.f1; have g2 := R0.f2; have g3 := R0.f3
    go_wp2
    have i0 := F.c0; have i1 := F.c1; have i2 := F.c2; have i3 := F.c3
    refine bodyPost_ret (v := .tuple #[.agg #[.slice none 0 0, .slice none 0 0, .slice none 0 0, .slice none 0 0], .bool false]) ?_ rfl ⟨none, none, none, none, 0, 0, 0, 0, by rw [HE.out]; rfl, ?_, ?_⟩
    · simp [results, Try.results57, go_sem, i0, i1, i2, i3]
    · rw [HE.out]; exact Seen.none _ _ _
    · exact L0.trans (FO.below (by omega) L0.size)
  by_cases hi0 : i < 0
  · have HE : Hid ((wthB l0 l1 l2 l3 kind i) = false) := by show (wthB l0 l1 l2 l3 kind i) = false; unfold wthB; rw [decide_eq_false (p := 0 ≤ i ∧ _) (by omega)]; simp
    obtain ⟨F, FO⟩ := R0.fill (.slice none 0 0) (.slice none 0 0) (.slice none 0 0) (.slice none 0 0)
    have j0' := R0.c0; have j1' := R0.c1; have j2' := R0.c2; have j3' := R0.c3
    have g0 := R0.f0; have g1 := R0.f1; have g2 := R0.f2; have g3 := R0.f3
    go_wp2
    have i0 := F.c0; have i1 := F.c1; have i2 := F.c2; have i3 := F.c3
    refine bodyPost_ret (v := .tuple #[.agg #[.slice none 0 0, .slice none 0 0, .slice none 0 0, .slice none 0 0], .bool false]) ?_ rfl ⟨none, none, none, none, 0, 0, 0, 0, by rw [HE.out]; rfl, ?_, ?_⟩
    · simp [results, Try.results57, go_sem, i0, i1, i2, i3]
    · rw [HE.out]; exact Seen.none _ _ _
    · exact L0.trans (FO.below (by omega) L0.size)
  obtain ⟨kk, rfl⟩ := Int.eq_ofNat_of_zero_le (show 0 ≤ kind by omega)
  obtain ⟨i, rfl⟩ := Int.eq_ofNat_of_zero_le (show 0 ≤ i by omega)
  have kk4 : kk < 4 := by omega
  go_wp2_with fail
  clear A0c0 A0c1 A0c2 A0c3
  refine (kind4 _ _ _ _ _ _ _ _ _ _ _ _ kk _ kk4).mono ?_
  rintro e w2 ⟨rfl, hb⟩
  replace A0 := A0.below hb A0.lt; replace R0 := R0.below hb R0.lt; replace L0 := L0.trans (hb.mono L0.size)
  clear hb
  have A0c0 := A0.c0; have A0c1 := A0.c1; have A0c2 := A0.c2; have A0c3 := A0.c3
  by_cases hi1 : (kindL l0 l1 l2 l3 kk).length ≤ i
  · have HE : Hid ((wthB l0 l1 l2 l3 (kk : Int) (i : Int)) = false) := by show (wthB l0 l1 l2 l3 (kk : Int) (i : Int)) = false; unfold wthB; rw [decide_eq_false (p := 0 ≤ (i : Int) ∧ _) (by omega)]; simp
    obtain ⟨F, FO⟩ := R0.fill (.slice none 0 0) (.slice none 0 0) (.slice none 0 0) (.slice none 0 0)
    have j0' := R0.c0; have j1' := R0.c1; have j2' := R0.c2; have j3' := R0.c3
    have g0 := R0.f0; have g1 := R0.f1; have g2 := R0.f2; have g3 := R0.f3
    go_wp2
    have i0 := F.c0; have i1 := F.c1; have i2 := F.c2; have i3 := F.c3
    refine bodyPost_ret (v := .tuple #[.agg #[.slice none 0 0, .slice none 0 0, .slice none 0 0, .slice none 0 0], .bool false]) ?_ rfl ⟨none, none, none, none, 0, 0, 0, 0, by rw [HE.out]; rfl, ?_, ?_⟩
    · simp [results, Try.results57, go_sem, i0, i1, i2, i3]
    · rw [HE.out]; exact Seen.none _ _ _
    · exact L0.trans (FO.below (by omega) L0.size)
  have HE : Hid ((wthB l0 l1 l2 l3 (kk : Int) (i : Int)) = true) := by show (wthB l0 l1 l2 l3 (kk : Int) (i : Int)) = true; unfold wthB; rw [H1.out, decide_eq_true (by omega), decide_eq_true (by omega)]; rfl
  go_wp2_with fail
  clear A0c0 A0c1 A0c2 A0c3
  refine (kind4 _ _ _ _ _ _ _ _ _ _ _ _ kk _ kk4).mono ?_
  rintro e w3 ⟨rfl, hb⟩
  replace A0 := A0.below hb A0.lt; replace R0 := R0.below hb R0.lt; replace L0 := L0.trans (hb.mono L0.size)
  clear hb
  obtain ⟨oK, nK, zK⟩ := HK.out kk
  obtain ⟨P0, P1, P2, P3⟩ := pick_wth l0 l1 l2 l3 kk kk4 i
  have e1 : ((kindL l0 l1 l2 l3 kk).take i).length = i := by rw [List.length_take]; omega
  have e2 : ((kindL l0 l1 l2 l3 kk).drop (i + 1)).length = (kindL l0 l1 l2 l3 kk).length - (i + 1) := by rw [List.length_drop]
  have rt : PRow w (some ⟨(kindB b0 b1 b2 b3 kk), 0, none⟩) ((kindL l0 l1 l2 l3 kk).take i) := oK.row.take i
  have rd : PRow w (some (dropA (kindB b0 b1 b2 b3 kk) 0 (kindB c0 c1 c2 c3 kk) (i + 1))) ((kindL l0 l1 l2 l3 kk).drop (i + 1)) := drop_row oK.row (i + 1) zK
  have hx : ∀ w : World, (Instr.slice 26 (.slice (some ⟨(kindB b0 b1 b2 b3 kk), 0, none⟩) (kindL l0 l1 l2 l3 kk).length (kindB c0 c1 c2 c3 kk)) none (some (.int .i64 (i : Int))) none).run Try.prog w = .ok (.slice (some ⟨(kindB b0 b1 b2 b3 kk), 0, none⟩) i (kindB c0 c1 c2 c3 kk)) w := fun w => cut_hi _ _ _ _ i (by omega) w
  have hy : ∀ w : World, (Instr.slice 26 (.slice (some ⟨(kindB b0 b1 b2 b3 kk), 0, none⟩) (kindL l0 l1 l2 l3 kk).length (kindB c0 c1 c2 c3 kk)) (some (.int .i64 ((i : Int) + 1))) none none).run Try.prog w = .ok (.slice (some (dropA (kindB b0 b1 b2 b3 kk) 0 (kindB c0 c1 c2 c3 kk) (i + 1))) ((kindL l0 l1 l2 l3 kk).length - (i + 1)) ((kindB c0 c1 c2 c3 kk) - (i + 1))) w := fun w => cut_lo _ _ _ _ (i + 1) (by omega) w
  have PL0 : Hid (pick kk 0 (i + ((kindL l0 l1 l2 l3 kk).length - (i + 1))) l0.length = (wthL l0 (kk : Int) 0 (i : Int)).length) := by show pick _ _ _ _ = _; rw [← P0]; exact pick_len _ _ _ _ _ _ (by rw [List.length_append, e1, e2]) rfl
  have HP0 : Hid (pick kk 0 ((kindL l0 l1 l2 l3 kk).take i ++ (kindL l0 l1 l2 l3 kk).drop (i + 1)) l0 = wthL l0 (kk : Int) 0 (i : Int)) := P0
  have PL1 : Hid (pick kk 1 (i + ((kindL l0 l1 l2 l3 kk).length - (i + 1))) l1.length = (wthL l1 (kk : Int) 1 (i : Int)).length) := by show pick _ _ _ _ = _; rw [← P1]; exact pick_len _ _ _ _ _ _ (by rw [List.length_append, e1, e2]) rfl
  have HP1 : Hid (pick kk 1 ((kindL l0 l1 l2 l3 kk).take i ++ (kindL l0 l1 l2 l3 kk).drop (i + 1)) l1 = wthL l1 (kk : Int) 1 (i : Int)) := P1
  have PL2 : Hid (pick kk 2 (i + ((kindL l0 l1 l2 l3 kk).length - (i + 1))) l2.length = (wthL l2 (kk : Int) 2 (i : Int)).length) := by show pick _ _ _ _ = _; rw [← P2]; exact pick_len _ _ _ _ _ _ (by rw [List.length_append, e1, e2]) rfl
  have HP2 : Hid (pick kk 2 ((kindL l0 l1 l2 l3 kk).take i ++ (kindL l0 l1 l2 l3 kk).drop (i + 1)) l2 = wthL l2 (kk : Int) 2 (i : Int)) := P2
  have PL3 : Hid (pick kk 3 (i + ((kindL l0 l1 l2 l3 kk).length - (i + 1))) l3.length = (wthL l3 (kk : Int) 3 (i : Int)).length) := by show pick _ _ _ _ = _; rw [← P3]; exact pick_len _ _ _ _ _ _ (by rw [List.length_append, e1, e2]) rfl
  have HP3 : Hid (pick kk 3 ((kindL l0 l1 l2 l3 kk).take i ++ (kindL l0 l1 l2 l3 kk).drop (i + 1)) l3 = wthL l3 (kk : Int) 3 (i : Int)) := P3
  clear P0 P1 P2 P3 oK
  have hwr : IntKind.i64.wrap ((i : Int) + 1) = (i : Int) + 1 := by rw [IntKind.wrap_i64]; omega
  generalize (kindB b0 b1 b2 b3 kk) = kb at *
  generalize (kindB c0 c1 c2 c3 kk) = cc at *
  generalize hTT : (kindL l0 l1 l2 l3 kk).take i = lt at *
  generalize hDD : (kindL l0 l1 l2 l3 kk).drop (i + 1) = ld at *
  clear hTT hDD
  generalize (kindL l0 l1 l2 l3 kk).length = n at *
  generalize dropA kb 0 cc (i + 1) = ad at *
  have hS0 : Below w.heap.size w w3.drew ∧ Own w3.drew (w.heap.size + 1) 2 [] 0 ∧ w3.drew.cell? ⟨w.heap.size, 0, none⟩ = some (.slice (some ⟨b0, 0, none⟩) l0.length c0) ∧ w3.drew.cell? ⟨w.heap.size, 1, none⟩ = some (.slice (some ⟨b1, 0, none⟩) l1.length c1) ∧ w3.drew.cell? ⟨w.heap.size, 2, none⟩ = some (.slice (some ⟨b2, 0, none⟩) l2.length c2) ∧ w3.drew.cell? ⟨w.heap.size, 3, none⟩ = some (.slice (some ⟨b3, 0, none⟩) l3.length c3) := ⟨L0.drew, (box_own R0).drew, A0.c0, A0.c1, A0.c2, A0.c3⟩
  clear R0 A0 L0 HK
  go_wp2
  go_region_held3 (fun W => Below w.heap.size w W ∧ Own W (w.heap.size + 1) 2 [] 0 ∧ W.cell? ⟨w.heap.size, 0, none⟩ = some (.slice (some ⟨b0, 0, none⟩) l0.length c0) ∧ W.cell? ⟨w.heap.size, 1, none⟩ = some (.slice (some ⟨b1, 0, none⟩) l1.length c1) ∧ W.cell? ⟨w.heap.size, 2, none⟩ = some (.slice (some ⟨b2, 0, none⟩) l2.length c2) ∧ W.cell? ⟨w.heap.size, 3, none⟩ = some (.slice (some ⟨b3, 0, none⟩) l3.length c3))
    (first | exact hS0 | assumption | (refine jS_ad _ ?_; (first | assumption | (refine ⟨?_, ?_, ?_, ?_, ?_, ?_⟩ <;> assumption))) | (refine jS_alloc _ ?_; (first | assumption | (refine ⟨?_, ?_, ?_, ?_, ?_, ?_⟩ <;> assumption))) | (refine jS_store _ _ _ _ ?_; (first | assumption | (refine ⟨?_, ?_, ?_, ?_, ?_, ?_⟩ <;> assumption))) | (refine ⟨?_, ?_, ?_, ?_, ?_, ?_⟩ <;> assumption))
    (first
      | (go_at_call 150; refine (l1own_any b0 b1 b2 b3 c0 c1 c2 c3 l0 l1 l2 l3 _ n0 n1 n2 n3 (jS_own o0 (by assumption)) (jS_own o1 (by assumption)) (jS_own o2 (by assumption)) (jS_own o3 (by assumption))).mono ?_; rintro e u0 ⟨a0, a1, a2, a3, e0, e1', e2', e3', m1, m2, m3, m4, rfl, t0, t1, t2, t3, g1, g2, g3, g4, g5, h0⟩; have gp := jS_ge (by assumption); have k0 := jS_keep (by assumption) h0; have gk := jS_ge k0; have T : Seen u0 (w.heap.size + 2) u0.heap.size a0 a1 a2 a3 l0.length l1.length l2.length l3.length l0 l1 l2 l3 := ⟨t0.row.mono (by omega) (by omega), t1.row.mono (by omega) (by omega), t2.row.mono (by omega) (by omega), t3.row.mono (by omega) (by omega)⟩)
      | (refine step_freshP (by rfl) _ _ (by rfl) _ ⟨kb, 0, none⟩ i cc lt (by rfl) (by rfl) e1 (rt.below (sB (by assumption)) (Nat.le_refl _)) (by omega) ?_; rintro x1 y1 u1 d1 h1; have k1 := jS_keep (by assumption) h1; have T1 := seen2 T (Nat.le_refl _) (by (first | exact Below.refl _ _ | exact (Below.refl _ _).alloc (Nat.le_refl _) _)) h1; replace d1 := d1.mono (show u0.heap.size ≤ _ from Below.size (show Below u0.heap.size u0 _ from (by (first | exact Below.refl _ _ | exact (Below.refl _ _).alloc (Nat.le_refl _) _)))) (Nat.le_refl _); have gz : u0.heap.size ≤ u1.heap.size := Nat.le_trans (Below.size (show Below u0.heap.size u0 _ from (by (first | exact Below.refl _ _ | exact (Below.refl _ _).alloc (Nat.le_refl _) _)))) h1.size)
      | (refine step_roomP (by rfl) _ _ (by rfl) u0.heap.size u1.heap.size x1 i y1 lt (by rfl) d1 ad (n - (i + 1)) (cc - (i + 1)) ld (by rfl) e2 (rd.below (sB (by assumption)) (Nat.le_refl _)) (by omega) gz ?_; rintro x2 y2 u2 D2 h2; have k2 := jS_out k1 h2 gk; have T2 := T1.out h2 (.inl (Nat.le_refl _)); have X2 := D2.row (B := u0.heap.size) (Nat.le_refl _) gz; have gy := h2.size)
      | (go_at_call 149; refine (l1with_any _ _ _ _ _ _ _ _ _ _ _ _ _ _ _ kk kk4 _).mono ?_; rintro e u3 ⟨rfl, h3⟩; rw [PL0.out, PL1.out, PL2.out, PL3.out]; have k3 := jS_keep k2 h3; have T3 := T2.below h3 (by omega); have X3 := X2.below h3 (Nat.le_refl _); have gx := h3.size; obtain ⟨f0, hf0⟩ := (k3.2.1.2.1 0 (by omega)).1; have ff0 := (k3.2.1.2.1 0 (by omega)).2; obtain ⟨f1, hf1⟩ := (k3.2.1.2.1 1 (by omega)).1; have ff1 := (k3.2.1.2.1 1 (by omega)).2; obtain ⟨f2, hf2⟩ := (k3.2.1.2.1 2 (by omega)).1; have ff2 := (k3.2.1.2.1 2 (by omega)).2; obtain ⟨f3, hf3⟩ := (k3.2.1.2.1 3 (by omega)).1; have ff3 := (k3.2.1.2.1 3 (by omega)).2))
  all_goals
    obtain ⟨F, FO⟩ := Own.fill k3.2.1 (.slice (pick kk 0 x2 a0) (wthL l0 (kk : Int) 0 (i : Int)).length (pick kk 0 y2 e0)) (.slice (pick kk 1 x2 a1) (wthL l1 (kk : Int) 1 (i : Int)).length (pick kk 1 y2 e1')) (.slice (pick kk 2 x2 a2) (wthL l2 (kk : Int) 2 (i : Int)).length (pick kk 2 y2 e2')) (.slice (pick kk 3 x2 a3) (wthL l3 (kk : Int) 3 (i : Int)).length (pick kk 3 y2 e3'))
    have hB := k3.1
    have hy' := FO.size
    clear k0 k1 k2 k3 h0 h1 h2 h3 hS0
    go_wp2
    have i0 := F.c0; have i1 := F.c1; have i2 := F.c2; have i3 := F.c3
    refine bodyPost_ret (v := .tuple #[.agg #[.slice (pick kk 0 x2 a0) (wthL l0 (kk : Int) 0 (i : Int)).length (pick kk 0 y2 e0), .slice (pick kk 1 x2 a1) (wthL l1 (kk : Int) 1 (i : Int)).length (pick kk 1 y2 e1'), .slice (pick kk 2 x2 a2) (wthL l2 (kk : Int) 2 (i : Int)).length (pick kk 2 y2 e2'), .slice (pick kk 3 x2 a3) (wthL l3 (kk : Int) 3 (i : Int)).length (pick kk 3 y2 e3')], .bool true]) ?_ rfl ⟨pick kk 0 x2 a0, pick kk 1 x2 a1, pick kk 2 x2 a2, pick kk 3 x2 a3, pick kk 0 y2 e0, pick kk 1 y2 e1', pick kk 2 y2 e2', pick kk 3 y2 e3', by rw [HE.out]; rfl, ?_, ?_⟩
    · simp [results, Try.results57, go_sem, i0, i1, i2, i3]
    · rw [HE.out]
      replace X3 := X3.mono (show w.heap.size + 2 ≤ _ by omega) (show _ ≤ u3.heap.size by omega)
      replace T3 := T3.mono (Nat.le_refl _) (show _ ≤ u3.heap.size by omega)
      have Q0 := pick_row kk 0 X3 T3.1
      rw [PL0.out, HP0.out] at Q0
      have Q1 := pick_row kk 1 X3 T3.2.1
      rw [PL1.out, HP1.out] at Q1
      have Q2 := pick_row kk 2 X3 T3.2.2.1
      rw [PL2.out, HP2.out] at Q2
      have Q3 := pick_row kk 3 X3 T3.2.2.2
      rw [PL3.out, HP3.out] at Q3
      exact ⟨(Q0.out FO (.inr (by omega))).mono (by omega) hy', (Q1.out FO (.inr (by omega))).mono (by omega) hy', (Q2.out FO (.inr (by omega))).mono (by omega) hy', (Q3.out FO (.inr (by omega))).mono (by omega) hy'⟩
    · exact hB.trans (FO.below (by omega) hB.size)

end Go.Proofs.Ytphchdjbhbmnbaa
namespace Go.Proofs.Ytphchdjbhbmnbaa
open Go.RowKit
set_option linter.unusedVariables false

theorem step_roomR {ops : Array Oper} {o : Oper} {a : Act} {w : World} {K : Act → World → Prop} {Q : Exit → Act → World → Prop} {E : Prop}
    (hg : o.guard = none) (s x : Operand) (hop : o.op = Op.call { callee := Callee.builtin Builtin.append, args := #[s, x], argTypes := #[26, 26] })
    (lo hi : Nat) (a' : Option Addr) (n c : Nat) (l : List (Int × Int)) (hs : a.eval s = .slice a' n c) (hr : RoomIn w lo hi a' n c l)
    (p : Addr) (m d : Nat) (k : List (Int × Int)) (hx : a.eval x = .slice (some p) m d) (hk : k.length = m) (ho : PRow w (some p) k) (hn : n + m ≤ 2097152) (hlo : lo ≤ w.heap.size) (hhi : hi ≤ w.heap.size)
    (hK : ∀ a'' c'' w', RoomIn w' lo w'.heap.size a'' (n + m) c'' (l ++ k) → Out lo hi w w' → K (a.put o.dst (.slice a'' (n + m) c'')) w') :
    if Region.wanted o (yielded ops a.tmps) = true then Oper.wp Try.prog o a w K Q else E := by
  obtain ⟨i0, hi0, hz0, hz1, hz2⟩ := Try.i57
  subst hk
  have hl := hr.1
  by_cases hc : c < n + k.length
  · refine step_append_grows hg s x 26 hop 69 i0 (.agg #[.int .i64 0, .int .i64 0]) 2 16 Try.underlying26 hi0 hz0 hz1 hz2 rfl (by decide) a' n c (pc l) hs ?_ (by rw [pc_length, hl]) ?_ p k.length d (pc k) hx (pc_length k) ho.news pc_one hc (by unfold maxLen; omega) (by omega) ?_
    · obtain ⟨_, ⟨_, _, _, rfl⟩ | ⟨_, rfl, _⟩⟩ := hr <;> intro h <;> cases h
    · intro ad had j u hu
      obtain ⟨_, ⟨h0, _, _, rfl⟩ | ⟨b1, rfl, _, _, hw⟩⟩ := hr
      · have : l = [] := List.eq_nil_of_length_eq_zero (by omega)
        subst this; cases hu
      · cases had; exact hw.cells rfl j u hu
    · intro v' w' hown hgr
      rw [← pc_append] at hown
      obtain ⟨a1, c1, rfl, hR⟩ := RoomIn.ofOwns hown (by omega)
      exact hK _ _ _ (hR.mono hlo (Nat.le_refl _)) (Out.ofBelow ((Below.refl _ _).grown hgr (Nat.le_refl _) (by intro k hk; cases hk)))
  · obtain ⟨_, ⟨h0, h00, Z, rfl⟩ | ⟨b1, rfl, g1, g2, hw⟩⟩ := hr
    · have hl0 : l = [] := List.eq_nil_of_length_eq_zero (by omega)
      have hk0 : k = [] := List.eq_nil_of_length_eq_zero (by omega)
      subst hl0 hk0 h00 h0
      refine step_append_room hg s x 26 hop 69 i0 2 Try.underlying26 hi0 hz1 Z 0 0 0 hs p 0 d [] hx rfl (by intro j u h; cases h) (by intro u h; cases h) (Nat.le_refl _) (by intro j h; exact absurd h (Nat.not_lt_zero _)) ?_
      exact hK _ _ _ ⟨rfl, .inl ⟨rfl, rfl, _, rfl⟩⟩ (Out.refl _ _ _)
    · have sp : ∀ j, j < (pc k).length → (w.cell? ⟨b1, 0 + n * 2 + j, none⟩).isSome = true ∧ w.frozen? ⟨b1, 0 + n * 2 + j, none⟩ = false := fun j hj => owns_room hw _ (by rw [pc_length] at hj; omega)
      obtain ⟨v', w', hrun, r1, r2, _⟩ := run_append_own (P := Try.prog) w lo 26 o.type 69 i0 (.agg #[.int .i64 0, .int .i64 0]) 2 16 Try.underlying26 hi0 hz0 hz1 hz2 rfl (by decide) _ n (pc l) hw p k.length d (pc k) (pc_length k) ho.news pc_one (by unfold maxLen; omega) (by omega) hlo
      have hrun2 := run_append_room_cells (P := Try.prog) w 26 o.type 69 i0 Try.underlying26 hi0 b1 0 n c p k.length d (pc k) (by rw [hz1]; exact pc_length k) ho.news pc_one (by omega) (by rw [hz1]; exact fun j hj => (sp j hj).1) (by rw [hz1]; exact fun j hj => (sp j hj).2)
      rw [hrun] at hrun2
      rw [hz1] at hrun2
      injection hrun2 with e1 e2
      subst e1 e2
      rw [← pc_append] at r1
      obtain ⟨q1, q2, q3⟩ := Own.ofOwns r1
      refine step_append_room hg s x 26 hop 69 i0 2 Try.underlying26 hi0 hz1 b1 0 n c hs p k.length d (pc k) hx (pc_length k) ho.news pc_one (by omega) sp ?_
      exact hK _ _ _ ⟨q1, .inr ⟨b1, rfl, g1, Nat.lt_of_lt_of_le g2 (Nat.le_trans hhi r2.size), r1⟩⟩ ⟨r2.os, r2.tape, r2.output, r2.size, fun i hi' hr' => r2.block i hi' (by intro e; injection e with e; subst e; omega)⟩

def KB (w W : World) : Prop := Below w.heap.size w W ∧ w.heap.size ≤ W.heap.size
theorem KB.mk {w W : World} (h : Below w.heap.size w W) : Below w.heap.size w W ∧ w.heap.size ≤ W.heap.size := ⟨h, h.size⟩
theorem kb_al {w W : World} (o : Obj) (h : Below w.heap.size w W ∧ w.heap.size ≤ W.heap.size) : Below w.heap.size w (W.alloc o) ∧ w.heap.size ≤ (W.alloc o).heap.size := KB.mk (h.1.alloc h.2 o)
theorem kb_ad {w W : World} (h : Below w.heap.size w W ∧ w.heap.size ≤ W.heap.size) : Below w.heap.size w W.drew ∧ w.heap.size ≤ W.drew.heap.size := KB.mk h.1.drew
theorem kb_be {w W u : World} (h : Below w.heap.size w W ∧ w.heap.size ≤ W.heap.size) (hb : Below W.heap.size W u) : Below w.heap.size w u ∧ w.heap.size ≤ u.heap.size := KB.mk (h.1.trans (hb.mono h.2))
theorem kb_out {w W u : World} {lo hi : Nat} (h : Below w.heap.size w W ∧ w.heap.size ≤ W.heap.size) (hb : Out lo hi W u) (hl : w.heap.size ≤ lo) : Below w.heap.size w u ∧ w.heap.size ≤ u.heap.size := KB.mk (h.1.trans (hb.below hl h.2))
theorem kb_fresh {w W u : World} {a : Option Addr} {m c : Nat} {l : List (Int × Int)} (h : Below w.heap.size w W ∧ w.heap.size ≤ W.heap.size) (hb : Below W.heap.size W u) (d : RoomIn u W.heap.size u.heap.size a m c l) : (Below w.heap.size w u ∧ w.heap.size ≤ u.heap.size) ∧ RoomIn u w.heap.size u.heap.size a m c l := ⟨kb_be h hb, d.mono h.2 (Nat.le_refl _)⟩
theorem kb_row {w W : World} {a : Option Addr} {l : List (Int × Int)} (r : PRow w a l) (h : Below w.heap.size w W ∧ w.heap.size ≤ W.heap.size) : PRow W a l := r.below h.1 (Nat.le_refl _)

set_option maxHeartbeats 2000000 in
theorem l4without_any (b cp : Nat) (l : List (Int × Int)) (i : Nat) (w : World) (hi : i < l.length) (hn : l.length ≤ 1048576) (hc : l.length ≤ cp) (ho : Own w b l.length l l.length) :
    Calls Try.prog 180 #[.slice (some ⟨b, 0, none⟩) l.length cp, .int .i64 i] w fun e w' => ∃ a c, e = .returned (.slice a (i + (l.length - (i + 1))) c) ∧ RoomIn w' w.heap.size w'.heap.size a (i + (l.length - (i + 1))) c (l.take i ++ l.drop (i + 1)) ∧ Below w.heap.size w w' := by
  have e1 : (l.take i).length = i := by rw [List.length_take]; omega
  have e2 : (l.drop (i + 1)).length = l.length - (i + 1) := by rw [List.length_drop]
  have rt : PRow w (some ⟨b, 0, none⟩) (l.take i) := ho.row.take i
  have rd : PRow w (some (dropA b 0 cp (i + 1))) (l.drop (i + 1)) := drop_row ho.row (i + 1) hc
  have hx : ∀ w : World, (Instr.slice 26 (.slice (some ⟨b, 0, none⟩) l.length cp) none (some (.int .i64 (i : Int))) none).run Try.prog w = .ok (.slice (some ⟨b, 0, none⟩) i cp) w := fun w => cut_hi _ _ _ _ i (by omega) w
  have hy : ∀ w : World, (Instr.slice 26 (.slice (some ⟨b, 0, none⟩) l.length cp) (some (.int .i64 ((i : Int) + 1))) none none).run Try.prog w = .ok (.slice (some (dropA b 0 cp (i + 1))) (l.length - (i + 1)) (cp - (i + 1))) w := fun w => cut_lo _ _ _ _ (i + 1) (by omega) w
  have hwr : IntKind.i64.wrap ((i : Int) + 1) = (i : Int) + 1 := by rw [IntKind.wrap_i64]; omega
  have hS1 : Below w.heap.size w w ∧ w.heap.size ≤ w.heap.size := KB.mk (Below.refl _ _)
  have hS0 := kb_ad hS1
  clear ho hc
  generalize l.take i = lt at *
  generalize l.drop (i + 1) = ld at *
  generalize l.length = n at *
  generalize dropA b 0 cp (i + 1) = ad at *
  go_enter Try.func180, Try.ntmps180
  go_wp2
  go_region_held3 (fun W => Below w.heap.size w W ∧ w.heap.size ≤ W.heap.size)
    (first | exact hS0 | exact hS1 | assumption | exact kb_al _ hS0 | exact kb_al _ hS1 | exact kb_ad (kb_al _ hS1) | exact kb_al _ (by assumption) | (refine ⟨?_, ?_⟩ <;> assumption))
    (first
      | (refine step_freshP (by rfl) _ _ (by rfl) _ ⟨b, 0, none⟩ i cp lt (by rfl) (by rfl) e1 (kb_row rt (by assumption)) (by omega) ?_; rintro x1 y1 u1 d1 h1; have kk := kb_fresh (by assumption) h1 d1; have k1 := kk.1; have d1' := kk.2)
      | (refine step_roomR (by rfl) _ _ (by rfl) w.heap.size u1.heap.size x1 i y1 lt (by rfl) d1' ad (n - (i + 1)) (cp - (i + 1)) ld (by rfl) e2 (kb_row rd k1) (by omega) k1.2 (Nat.le_refl _) ?_; rintro x2 y2 u2 d2 h2; have k2 := kb_out k1 h2 (Nat.le_refl _)))
  all_goals
    go_wp2
    go_ret
    exact ⟨x2, y2, rfl, d2, k2.1⟩

end Go.Proofs.Ytphchdjbhbmnbaa
