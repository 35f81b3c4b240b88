/-
  The contracts of spec.PureOf and impl.PureOf.
-/
import Derived.Test.YtfplloabkceaoaaOw
import Derived.Test.YtfplloabkceaoaaBh
import Derived.Test.YtfplloabkceaoaaWd
import Derived.Test.YtfplloabkceaoaaSSubst
namespace Go.Proofs.Ytfplloabkceaoaa
open Go.RowKit
set_option linter.unusedVariables false

theorem jS_keep {w W u : World} {v0 v1 v2 v3 : Value} (h : Below w.heap.size w W ∧ Own W (w.heap.size + 1) 2 [] 0 ∧ W.cell? ⟨w.heap.size, 0, none⟩ = some v0 ∧ W.cell? ⟨w.heap.size, 1, none⟩ = some v1 ∧ W.cell? ⟨w.heap.size, 2, none⟩ = some v2 ∧ W.cell? ⟨w.heap.size, 3, none⟩ = some v3) (hb : Below W.heap.size W u) : Below w.heap.size w u ∧ Own u (w.heap.size + 1) 2 [] 0 ∧ u.cell? ⟨w.heap.size, 0, none⟩ = some v0 ∧ u.cell? ⟨w.heap.size, 1, none⟩ = some v1 ∧ u.cell? ⟨w.heap.size, 2, none⟩ = some v2 ∧ u.cell? ⟨w.heap.size, 3, none⟩ = some v3 := ownS_keep h hb
theorem jS_alloc {w W : World} {v0 v1 v2 v3 : Value} (o : Obj) (h : Below w.heap.size w W ∧ Own W (w.heap.size + 1) 2 [] 0 ∧ W.cell? ⟨w.heap.size, 0, none⟩ = some v0 ∧ W.cell? ⟨w.heap.size, 1, none⟩ = some v1 ∧ W.cell? ⟨w.heap.size, 2, none⟩ = some v2 ∧ W.cell? ⟨w.heap.size, 3, none⟩ = some v3) : Below w.heap.size w (W.alloc o) ∧ Own (W.alloc o) (w.heap.size + 1) 2 [] 0 ∧ (W.alloc o).cell? ⟨w.heap.size, 0, none⟩ = some v0 ∧ (W.alloc o).cell? ⟨w.heap.size, 1, none⟩ = some v1 ∧ (W.alloc o).cell? ⟨w.heap.size, 2, none⟩ = some v2 ∧ (W.alloc o).cell? ⟨w.heap.size, 3, none⟩ = some v3 := jS_keep h ((Below.refl _ _).alloc (Nat.le_refl _) o)
theorem jS_ad {w W : World} {v0 v1 v2 v3 : Value} (o : Obj) (h : Below w.heap.size w W.drew ∧ Own W.drew (w.heap.size + 1) 2 [] 0 ∧ W.drew.cell? ⟨w.heap.size, 0, none⟩ = some v0 ∧ W.drew.cell? ⟨w.heap.size, 1, none⟩ = some v1 ∧ W.drew.cell? ⟨w.heap.size, 2, none⟩ = some v2 ∧ W.drew.cell? ⟨w.heap.size, 3, none⟩ = some v3) : Below w.heap.size w (W.alloc o).drew ∧ Own (W.alloc o).drew (w.heap.size + 1) 2 [] 0 ∧ (W.alloc o).drew.cell? ⟨w.heap.size, 0, none⟩ = some v0 ∧ (W.alloc o).drew.cell? ⟨w.heap.size, 1, none⟩ = some v1 ∧ (W.alloc o).drew.cell? ⟨w.heap.size, 2, none⟩ = some v2 ∧ (W.alloc o).drew.cell? ⟨w.heap.size, 3, none⟩ = some v3 := jS_alloc o h
theorem jS_store {w W : World} {v0 v1 v2 v3 : Value} (y0 y1 y2 y3 : Value) (h : Below w.heap.size w W ∧ Own W (w.heap.size + 1) 2 [] 0 ∧ W.cell? ⟨w.heap.size, 0, none⟩ = some v0 ∧ W.cell? ⟨w.heap.size, 1, none⟩ = some v1 ∧ W.cell? ⟨w.heap.size, 2, none⟩ = some v2 ∧ W.cell? ⟨w.heap.size, 3, none⟩ = some v3) : Below w.heap.size w ((((W.setCell ⟨w.heap.size + 1, 0, none⟩ y0).setCell ⟨w.heap.size + 1, 1, none⟩ y1).setCell ⟨w.heap.size + 1, 2, none⟩ y2).setCell ⟨w.heap.size + 1, 3, none⟩ y3) ∧ Own ((((W.setCell ⟨w.heap.size + 1, 0, none⟩ y0).setCell ⟨w.heap.size + 1, 1, none⟩ y1).setCell ⟨w.heap.size + 1, 2, none⟩ y2).setCell ⟨w.heap.size + 1, 3, none⟩ y3) (w.heap.size + 1) 2 [] 0 ∧ ((((W.setCell ⟨w.heap.size + 1, 0, none⟩ y0).setCell ⟨w.heap.size + 1, 1, none⟩ y1).setCell ⟨w.heap.size + 1, 2, none⟩ y2).setCell ⟨w.heap.size + 1, 3, none⟩ y3).cell? ⟨w.heap.size, 0, none⟩ = some v0 ∧ ((((W.setCell ⟨w.heap.size + 1, 0, none⟩ y0).setCell ⟨w.heap.size + 1, 1, none⟩ y1).setCell ⟨w.heap.size + 1, 2, none⟩ y2).setCell ⟨w.heap.size + 1, 3, none⟩ y3).cell? ⟨w.heap.size, 1, none⟩ = some v1 ∧ ((((W.setCell ⟨w.heap.size + 1, 0, none⟩ y0).setCell ⟨w.heap.size + 1, 1, none⟩ y1).setCell ⟨w.heap.size + 1, 2, none⟩ y2).setCell ⟨w.heap.size + 1, 3, none⟩ y3).cell? ⟨w.heap.size, 2, none⟩ = some v2 ∧ ((((W.setCell ⟨w.heap.size + 1, 0, none⟩ y0).setCell ⟨w.heap.size + 1, 1, none⟩ y1).setCell ⟨w.heap.size + 1, 2, none⟩ y2).setCell ⟨w.heap.size + 1, 3, none⟩ y3).cell? ⟨w.heap.size, 3, none⟩ = some v3 := ownS_store y0 y1 y2 y3 h
theorem jS_own {w W : World} {b n k : Nat} {l : List (Int × Int)} {R : Prop} (o : Own w b n l k) (h : Below w.heap.size w W ∧ R) : Own W b n l k := o.below h.1 o.1
theorem jS_ge {w W : World} {R : Prop} (h : Below w.heap.size w W ∧ Own W (w.heap.size + 1) 2 [] 0 ∧ R) : w.heap.size + 2 ≤ W.heap.size := h.2.1.1

theorem Four.two {w : World} {s m t n0 n1 : Nat} {a0 a1 a2 a3 : Option Addr} {l0 l1 : List (Int × Int)} (h1 : s ≤ m) (h2 : m ≤ t) (r0 : RowIn w s m a0 n0 l0) (r1 : RowIn w m t a1 n1 l1) : Four w s t a0 a1 a2 a3 n0 n1 0 0 l0 l1 [] [] :=
  ⟨s, m, m, t, s, s, s, s, ⟨Nat.le_refl _, h2, r0⟩, ⟨h1, Nat.le_refl _, r1⟩, ⟨Nat.le_refl _, by omega, rfl, .inl rfl⟩, ⟨Nat.le_refl _, by omega, rfl, .inl rfl⟩, by omega, by omega, by omega, by omega, by omega, by omega⟩

theorem box_own {w : World} {b : Nat} {v0 v1 v2 v3 : Value} (h : Box w b v0 v1 v2 v3) : Own w b 2 [] 0 := ⟨h.lt, fun j hj => by
    have : j = 0 ∨ j = 1 ∨ j = 2 ∨ j = 3 := by omega
    rcases this with rfl | rfl | rfl | rfl
    · exact ⟨⟨_, h.c0⟩, h.f0⟩
    · exact ⟨⟨_, h.c1⟩, h.f1⟩
    · exact ⟨⟨_, h.c2⟩, h.f2⟩
    · exact ⟨⟨_, h.c3⟩, h.f3⟩, fun i hi => by omega⟩

set_option maxHeartbeats 4000000 in
theorem sPureOf_any (b0 b1 b2 b3 c0 c1 c2 c3 : Nat) (l0 l1 l2 l3 : List (Int × Int)) (w : World) (n0 : l0.length ≤ 1048576) (n1 : l1.length ≤ 1048576) (n2 : l2.length ≤ 1048576) (n3 : l3.length ≤ 1048576) (o0 : Own w b0 l0.length l0 l0.length) (o1 : Own w b1 l1.length l1 l1.length) (o2 : Own w b2 l2.length l2 l2.length) (o3 : Own w b3 l3.length l3 l3.length) :
    Calls Try.prog 105 #[.agg #[.slice (some ⟨b0, 0, none⟩) l0.length c0, .slice (some ⟨b1, 0, none⟩) l1.length c1, .slice (some ⟨b2, 0, none⟩) l2.length c2, .slice (some ⟨b3, 0, none⟩) l3.length c3]] w fun e w' => ∃ p0 p1 p2 p3 q0 q1 q2 q3, e = .returned (.agg #[.slice p0 (okL (asnB l0 l1 l2 l3) l0).length q0, .slice p1 (okL (asnB l0 l1 l2 l3) l1).length q1, .slice p2 (okL false l2).length q2, .slice p3 (okL false l3).length q3]) ∧ Seen w' w.heap.size w'.heap.size p0 p1 p2 p3 (okL (asnB l0 l1 l2 l3) l0).length (okL (asnB l0 l1 l2 l3) l1).length (okL false l2).length (okL false l3).length (okL (asnB l0 l1 l2 l3) l0) (okL (asnB l0 l1 l2 l3) l1) (okL false l2) (okL false l3) ∧ Below w.heap.size w w' := by
  have B0 := (Box.new w (.slice (some ⟨b0, 0, none⟩) l0.length c0) (.slice (some ⟨b1, 0, none⟩) l1.length c1) (.slice (some ⟨b2, 0, none⟩) l2.length c2) (.slice (some ⟨b3, 0, none⟩) l3.length c3) 28).alloc (.cells #[.slice none 0 0, .slice none 0 0, .slice none 0 0, .slice none 0 0] 28)
  have R0 := Box.new (w.alloc (.cells #[.slice (some ⟨b0, 0, none⟩) l0.length c0, .slice (some ⟨b1, 0, none⟩) l1.length c1, .slice (some ⟨b2, 0, none⟩) l2.length c2, .slice (some ⟨b3, 0, none⟩) l3.length c3] 28)) (.slice none 0 0) (.slice none 0 0) (.slice none 0 0) (.slice none 0 0) 28
  have L0 : Below w.heap.size w ((w.alloc (.cells #[.slice (some ⟨b0, 0, none⟩) l0.length c0, .slice (some ⟨b1, 0, none⟩) l1.length c1, .slice (some ⟨b2, 0, none⟩) l2.length c2, .slice (some ⟨b3, 0, none⟩) l3.length c3] 28)).alloc (.cells #[.slice none 0 0, .slice none 0 0, .slice none 0 0, .slice none 0 0] 28)) := ((Below.refl _ _).alloc (Nat.le_refl _) _).alloc (by simp) _
  rw [World.size_alloc] at R0
  go_enter Try.func105, Try.ntmps105
  go_wp2_with fail
  refine (sAsnOk_any _ _ _ _ _ _ _ _ _ _ _ _ _ n0 n1 n2 n3 (by exact (o0.below L0 o0.1).row) (by exact (o1.below L0 o1.1).row) (by exact (o2.below L0 o2.1).row) (by exact (o3.below L0 o3.1).row)).mono ?_
  rintro e w1 ⟨rfl, hb⟩
  replace B0 := B0.below hb B0.lt; replace R0 := R0.below hb R0.lt; replace L0 := L0.trans (hb.mono L0.size)
  clear hb
  have HE : Hid ((asnB l0 l1 l2 l3) = (asnB l0 l1 l2 l3)) := rfl
  cases h : asnB l0 l1 l2 l3
  · have HB : Hid (asnB l0 l1 l2 l3 = false) := h
    clear HE
    obtain ⟨F, FO⟩ := R0.fill (.slice none 0 0) (.slice none 0 0) (.slice none 0 0) (.slice none 0 0)
    have x0 := B0.c0; have x1 := B0.c1; have x2 := B0.c2; have x3 := B0.c3
    have j0 := R0.c0; have j1 := R0.c1; have j2 := R0.c2; have j3 := R0.c3
    have g0 := R0.f0; have g1 := R0.f1; have g2 := R0.f2; have g3 := R0.f3
    go_wp2
    have i0 := F.c0; have i1 := F.c1; have i2 := F.c2; have i3 := F.c3
    refine bodyPost_ret (v := .agg #[.slice none 0 0, .slice none 0 0, .slice none 0 0, .slice none 0 0]) ?_ rfl ⟨none, none, none, none, 0, 0, 0, 0, by simp [okL, HB.out], ?_, ?_⟩
    · simp [results, Try.results105, go_sem, i0, i1, i2, i3]
    · simp only [okL, HB.out]; exact Seen.none _ _ _
    · exact L0.trans (FO.below (by omega) L0.size)
  have HB : Hid (asnB l0 l1 l2 l3 = true) := h
  clear HE
  go_wp2
  generalize w1 = W0 at *
  have hS0 : Below w.heap.size w W0.drew ∧ Own W0.drew (w.heap.size + 1) 2 [] 0 ∧ W0.drew.cell? ⟨w.heap.size, 0, none⟩ = some (.slice (some ⟨b0, 0, none⟩) l0.length c0) ∧ W0.drew.cell? ⟨w.heap.size, 1, none⟩ = some (.slice (some ⟨b1, 0, none⟩) l1.length c1) ∧ W0.drew.cell? ⟨w.heap.size, 2, none⟩ = some (.slice (some ⟨b2, 0, none⟩) l2.length c2) ∧ W0.drew.cell? ⟨w.heap.size, 3, none⟩ = some (.slice (some ⟨b3, 0, none⟩) l3.length c3) := ⟨L0.drew, (box_own R0).drew, B0.c0, B0.c1, B0.c2, B0.c3⟩
  clear R0 B0 L0
  go_region_held3 (fun W => Below w.heap.size w W ∧ Own W (w.heap.size + 1) 2 [] 0 ∧ W.cell? ⟨w.heap.size, 0, none⟩ = some (.slice (some ⟨b0, 0, none⟩) l0.length c0) ∧ W.cell? ⟨w.heap.size, 1, none⟩ = some (.slice (some ⟨b1, 0, none⟩) l1.length c1) ∧ W.cell? ⟨w.heap.size, 2, none⟩ = some (.slice (some ⟨b2, 0, none⟩) l2.length c2) ∧ W.cell? ⟨w.heap.size, 3, none⟩ = some (.slice (some ⟨b3, 0, none⟩) l3.length c3))
    (first | exact hS0 | assumption | (refine jS_ad _ ?_; (first | assumption | (refine ⟨?_, ?_, ?_, ?_, ?_, ?_⟩ <;> assumption))) | (refine jS_alloc _ ?_; (first | assumption | (refine ⟨?_, ?_, ?_, ?_, ?_, ?_⟩ <;> assumption))) | (refine jS_store _ _ _ _ ?_; (first | assumption | (refine ⟨?_, ?_, ?_, ?_, ?_, ?_⟩ <;> assumption))) | (refine ⟨?_, ?_, ?_, ?_, ?_, ?_⟩ <;> assumption))
    (first
      | (refine step_fresh (by rfl) _ _ (by rfl) _ b0 l0.length c0 l0 (by rfl) (by rfl) rfl (jS_own o0 (by assumption)) n0 ?_; rintro a0 e0 u0 t0 h0; replace t0 := t0.mono (jS_ge (by assumption)) (Nat.le_refl _); have k0 := jS_keep (by assumption) h0)
      | (refine step_fresh (by rfl) _ _ (by rfl) _ b1 l1.length c1 l1 (by rfl) (by rfl) rfl (jS_own o1 (by assumption)) n1 ?_; rintro a1 e1 u1 t1 h1; replace t1 := t1.mono (jS_ge (by assumption)) (Nat.le_refl _); have k1 := jS_keep (by assumption) h1; have q0 := ((t0.row.below (by (first | exact Below.refl _ _ | exact (Below.refl _ _).alloc (Nat.le_refl _) _ | exact ((Below.refl _ _).alloc (Nat.le_refl _) _).alloc (by simp) _)) (Nat.le_refl _)).below h1 (by first | exact Nat.le_refl _ | (simp; done) | (simp; omega))).mono (Nat.le_refl _) (show _ ≤ u1.heap.size from Nat.le_trans (by first | exact Nat.le_refl _ | (simp; done) | (simp; omega)) h1.size); obtain ⟨x0, hx0⟩ := (k1.2.1.2.1 0 (by omega)).1; obtain ⟨x1, hx1⟩ := (k1.2.1.2.1 1 (by omega)).1; obtain ⟨x2, hx2⟩ := (k1.2.1.2.1 2 (by omega)).1; obtain ⟨x3, hx3⟩ := (k1.2.1.2.1 3 (by omega)).1; have f0 := (k1.2.1.2.1 0 (by omega)).2; have f1 := (k1.2.1.2.1 1 (by omega)).2; have f2 := (k1.2.1.2.1 2 (by omega)).2; have f3 := (k1.2.1.2.1 3 (by omega)).2))
  all_goals
    obtain ⟨F, FO⟩ := Own.fill k1.2.1 (.slice a0 l0.length e0) (.slice a1 l1.length e1) (.slice none 0 0) (.slice none 0 0)
    have hB := k1.1
    have hy := FO.size
    have t1' := t1.row
    clear k0 k1 h0 h1 hS0 t1
    go_wp2
    have i0 := F.c0; have i1 := F.c1; have i2 := F.c2; have i3 := F.c3
    refine bodyPost_ret (v := .agg #[.slice a0 l0.length e0, .slice a1 l1.length e1, .slice none 0 0, .slice none 0 0]) ?_ rfl ⟨a0, a1, none, none, e0, e1, 0, 0, by simp [okL, HB.out], ?_, ?_⟩
    · simp [results, Try.results105, go_sem, i0, i1, i2, i3]
    · simp only [okL, HB.out]
      exact ⟨(q0.out FO (.inr (by omega))).mono (by omega) hy, (t1'.out FO (.inr (by omega))).mono (by omega) hy, ⟨rfl, .inl rfl⟩, ⟨rfl, .inl rfl⟩⟩
    · exact hB.trans (FO.below (by omega) hB.size)

set_option maxHeartbeats 4000000 in
theorem iPureOf_any (b0 b1 b2 b3 c0 c1 c2 c3 : Nat) (l0 l1 l2 l3 : List (Int × Int)) (w : World) (n0 : l0.length ≤ 1048576) (n1 : l1.length ≤ 1048576) (n2 : l2.length ≤ 1048576) (n3 : l3.length ≤ 1048576) (o0 : Own w b0 l0.length l0 l0.length) (o1 : Own w b1 l1.length l1 l1.length) (o2 : Own w b2 l2.length l2 l2.length) (o3 : Own w b3 l3.length l3 l3.length) :
    Calls Try.prog 106 #[.agg #[.slice (some ⟨b0, 0, none⟩) l0.length c0, .slice (some ⟨b1, 0, none⟩) l1.length c1, .slice (some ⟨b2, 0, none⟩) l2.length c2, .slice (some ⟨b3, 0, none⟩) l3.length c3]] w fun e w' => ∃ p0 p1 p2 p3 q0 q1 q2 q3, e = .returned (.agg #[.slice p0 (okL (asnB l0 l1 l2 l3) l0).length q0, .slice p1 (okL (asnB l0 l1 l2 l3) l1).length q1, .slice p2 (okL false l2).length q2, .slice p3 (okL false l3).length q3]) ∧ Four w' w.heap.size w'.heap.size p0 p1 p2 p3 (okL (asnB l0 l1 l2 l3) l0).length (okL (asnB l0 l1 l2 l3) l1).length (okL false l2).length (okL false l3).length (okL (asnB l0 l1 l2 l3) l0) (okL (asnB l0 l1 l2 l3) l1) (okL false l2) (okL false l3) ∧ Below w.heap.size w w' := by
  have B0 := (Box.new w (.slice (some ⟨b0, 0, none⟩) l0.length c0) (.slice (some ⟨b1, 0, none⟩) l1.length c1) (.slice (some ⟨b2, 0, none⟩) l2.length c2) (.slice (some ⟨b3, 0, none⟩) l3.length c3) 28).alloc (.cells #[.slice none 0 0, .slice none 0 0, .slice none 0 0, .slice none 0 0] 28)
  have R0 := Box.new (w.alloc (.cells #[.slice (some ⟨b0, 0, none⟩) l0.length c0, .slice (some ⟨b1, 0, none⟩) l1.length c1, .slice (some ⟨b2, 0, none⟩) l2.length c2, .slice (some ⟨b3, 0, none⟩) l3.length c3] 28)) (.slice none 0 0) (.slice none 0 0) (.slice none 0 0) (.slice none 0 0) 28
  have L0 : Below w.heap.size w ((w.alloc (.cells #[.slice (some ⟨b0, 0, none⟩) l0.length c0, .slice (some ⟨b1, 0, none⟩) l1.length c1, .slice (some ⟨b2, 0, none⟩) l2.length c2, .slice (some ⟨b3, 0, none⟩) l3.length c3] 28)).alloc (.cells #[.slice none 0 0, .slice none 0 0, .slice none 0 0, .slice none 0 0] 28)) := ((Below.refl _ _).alloc (Nat.le_refl _) _).alloc (by simp) _
  rw [World.size_alloc] at R0
  go_enter Try.func106, Try.ntmps106
  go_wp2_with fail
  refine (iAsnOk_any _ _ _ _ _ _ _ _ _ _ _ _ _ n0 n1 n2 n3 (by exact (o0.below L0 o0.1).row) (by exact (o1.below L0 o1.1).row) (by exact (o2.below L0 o2.1).row) (by exact (o3.below L0 o3.1).row)).mono ?_
  rintro e w1 ⟨rfl, hb⟩
  replace B0 := B0.below hb B0.lt; replace R0 := R0.below hb R0.lt; replace L0 := L0.trans (hb.mono L0.size)
  clear hb
  have HE : Hid ((asnB l0 l1 l2 l3) = (asnB l0 l1 l2 l3)) := rfl
  cases h : asnB l0 l1 l2 l3
  · have HB : Hid (asnB l0 l1 l2 l3 = false) := h
    clear HE
    obtain ⟨F, FO⟩ := R0.fill (.slice none 0 0) (.slice none 0 0) (.slice none 0 0) (.slice none 0 0)
    have x0 := B0.c0; have x1 := B0.c1; have x2 := B0.c2; have x3 := B0.c3
    have j0 := R0.c0; have j1 := R0.c1; have j2 := R0.c2; have j3 := R0.c3
    have g0 := R0.f0; have g1 := R0.f1; have g2 := R0.f2; have g3 := R0.f3
    go_wp2
    have i0 := F.c0; have i1 := F.c1; have i2 := F.c2; have i3 := F.c3
    refine bodyPost_ret (v := .agg #[.slice none 0 0, .slice none 0 0, .slice none 0 0, .slice none 0 0]) ?_ rfl ⟨none, none, none, none, 0, 0, 0, 0, by simp [okL, HB.out], ?_, ?_⟩
    · simp [results, Try.results106, go_sem, i0, i1, i2, i3]
    · simp only [okL, HB.out]; exact (Four.none _ w.heap.size).mono (Nat.le_refl _) (by have := FO.size; have := L0.size; omega)
    · exact L0.trans (FO.below (by omega) L0.size)
  have HB : Hid (asnB l0 l1 l2 l3 = true) := h
  clear HE
  go_wp2
  generalize w1 = W0 at *
  have hS0 : Below w.heap.size w W0.drew ∧ Own W0.drew (w.heap.size + 1) 2 [] 0 ∧ W0.drew.cell? ⟨w.heap.size, 0, none⟩ = some (.slice (some ⟨b0, 0, none⟩) l0.length c0) ∧ W0.drew.cell? ⟨w.heap.size, 1, none⟩ = some (.slice (some ⟨b1, 0, none⟩) l1.length c1) ∧ W0.drew.cell? ⟨w.heap.size, 2, none⟩ = some (.slice (some ⟨b2, 0, none⟩) l2.length c2) ∧ W0.drew.cell? ⟨w.heap.size, 3, none⟩ = some (.slice (some ⟨b3, 0, none⟩) l3.length c3) := ⟨L0.drew, (box_own R0).drew, B0.c0, B0.c1, B0.c2, B0.c3⟩
  clear R0 B0 L0
  go_region_held3 (fun W => Below w.heap.size w W ∧ Own W (w.heap.size + 1) 2 [] 0 ∧ W.cell? ⟨w.heap.size, 0, none⟩ = some (.slice (some ⟨b0, 0, none⟩) l0.length c0) ∧ W.cell? ⟨w.heap.size, 1, none⟩ = some (.slice (some ⟨b1, 0, none⟩) l1.length c1) ∧ W.cell? ⟨w.heap.size, 2, none⟩ = some (.slice (some ⟨b2, 0, none⟩) l2.length c2) ∧ W.cell? ⟨w.heap.size, 3, none⟩ = some (.slice (some ⟨b3, 0, none⟩) l3.length c3))
    (first | exact hS0 | assumption | (refine jS_ad _ ?_; (first | assumption | (refine ⟨?_, ?_, ?_, ?_, ?_, ?_⟩ <;> assumption))) | (refine jS_alloc _ ?_; (first | assumption | (refine ⟨?_, ?_, ?_, ?_, ?_, ?_⟩ <;> assumption))) | (refine jS_store _ _ _ _ ?_; (first | assumption | (refine ⟨?_, ?_, ?_, ?_, ?_, ?_⟩ <;> assumption))) | (refine ⟨?_, ?_, ?_, ?_, ?_, ?_⟩ <;> assumption))
    (first
      | (go_at_call_of 144 (Value.slice (some ⟨b0, 0, none⟩) l0.length c0); refine (copy_any _ _ _ l0 _ rfl (by omega) (by exact (jS_own o0 hS0).row) (by intro e; cases e)).mono ?_; rintro e u0 ⟨a0, e0, rfl, t0, -, h0⟩; have k0 := jS_keep hS0 h0)
      | (go_at_call_of 144 (Value.slice (some ⟨b1, 0, none⟩) l1.length c1); refine (copy_any _ _ _ l1 _ rfl (by omega) (by exact (jS_own o1 k0).row) (by intro e; cases e)).mono ?_; rintro e u1 ⟨a1, e1, rfl, t1, -, h1⟩; have k1 := jS_keep k0 h1; obtain ⟨x0, hx0⟩ := (k1.2.1.2.1 0 (by omega)).1; obtain ⟨x1, hx1⟩ := (k1.2.1.2.1 1 (by omega)).1; obtain ⟨x2, hx2⟩ := (k1.2.1.2.1 2 (by omega)).1; obtain ⟨x3, hx3⟩ := (k1.2.1.2.1 3 (by omega)).1; have f0 := (k1.2.1.2.1 0 (by omega)).2; have f1 := (k1.2.1.2.1 1 (by omega)).2; have f2 := (k1.2.1.2.1 2 (by omega)).2; have f3 := (k1.2.1.2.1 3 (by omega)).2))
  all_goals
    obtain ⟨F, FO⟩ := Own.fill k1.2.1 (.slice a0 l0.length e0) (.slice a1 l1.length e1) (.slice none 0 0) (.slice none 0 0)
    have hB := k1.1
    have gq := jS_ge hS0
    have hz0 := h0.size
    have hz := h1.size
    have hy := FO.size
    replace t0 := t0.below h1 (Nat.le_refl _)
    clear k0 k1 h0 h1 hS0
    rw [World.size_drew] at gq hz0 t0
    go_wp2
    have i0 := F.c0; have i1 := F.c1; have i2 := F.c2; have i3 := F.c3
    refine bodyPost_ret (v := .agg #[.slice a0 l0.length e0, .slice a1 l1.length e1, .slice none 0 0, .slice none 0 0]) ?_ rfl ⟨a0, a1, none, none, e0, e1, 0, 0, by simp [okL, HB.out], ?_, ?_⟩
    · simp [results, Try.results106, go_sem, i0, i1, i2, i3]
    · simp only [okL, HB.out]
      exact (Four.two hz0 hz (t0.out FO (.inr (by omega))) (t1.out FO (.inr (by omega)))).mono (by omega) (by simp)
    · exact hB.trans (FO.below (by omega) hB.size)

end Go.Proofs.Ytfplloabkceaoaa
