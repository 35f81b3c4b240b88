/-
  Plain lemmas and contracts of functions for the other texts of this seat: Pu, Wts0, Owp.
-/
import Derived.Test.YtphchdjbhbmnbaaGac
import Derived.Test.YtphchdjbhbmnbaaGad
import Derived.Test.YtphchdjbhbmnbaaGab
namespace Go.Proofs.Ytphchdjbhbmnbaa
open Go.RowKit
set_option linter.unusedVariables false

theorem jS_keep {w W u : World} {v0 v1 v2 v3 : Value} (h : Below w.heap.size w W ∧ Own W (w.heap.size + 1) 2 [] 0 ∧ W.cell? ⟨w.heap.size, 0, none⟩ = some v0 ∧ W.cell? ⟨w.heap.size, 1, none⟩ = some v1 ∧ W.cell? ⟨w.heap.size, 2, none⟩ = some v2 ∧ W.cell? ⟨w.heap.size, 3, none⟩ = some v3) (hb : Below W.heap.size W u) : Below w.heap.size w u ∧ Own u (w.heap.size + 1) 2 [] 0 ∧ u.cell? ⟨w.heap.size, 0, none⟩ = some v0 ∧ u.cell? ⟨w.heap.size, 1, none⟩ = some v1 ∧ u.cell? ⟨w.heap.size, 2, none⟩ = some v2 ∧ u.cell? ⟨w.heap.size, 3, none⟩ = some v3 := ownS_keep h hb
theorem jS_alloc {w W : World} {v0 v1 v2 v3 : Value} (o : Obj) (h : Below w.heap.size w W ∧ Own W (w.heap.size + 1) 2 [] 0 ∧ W.cell? ⟨w.heap.size, 0, none⟩ = some v0 ∧ W.cell? ⟨w.heap.size, 1, none⟩ = some v1 ∧ W.cell? ⟨w.heap.size, 2, none⟩ = some v2 ∧ W.cell? ⟨w.heap.size, 3, none⟩ = some v3) : Below w.heap.size w (W.alloc o) ∧ Own (W.alloc o) (w.heap.size + 1) 2 [] 0 ∧ (W.alloc o).cell? ⟨w.heap.size, 0, none⟩ = some v0 ∧ (W.alloc o).cell? ⟨w.heap.size, 1, none⟩ = some v1 ∧ (W.alloc o).cell? ⟨w.heap.size, 2, none⟩ = some v2 ∧ (W.alloc o).cell? ⟨w.heap.size, 3, none⟩ = some v3 := jS_keep h ((Below.refl _ _).alloc (Nat.le_refl _) o)
theorem jS_ad {w W : World} {v0 v1 v2 v3 : Value} (o : Obj) (h : Below w.heap.size w W.drew ∧ Own W.drew (w.heap.size + 1) 2 [] 0 ∧ W.drew.cell? ⟨w.heap.size, 0, none⟩ = some v0 ∧ W.drew.cell? ⟨w.heap.size, 1, none⟩ = some v1 ∧ W.drew.cell? ⟨w.heap.size, 2, none⟩ = some v2 ∧ W.drew.cell? ⟨w.heap.size, 3, none⟩ = some v3) : Below w.heap.size w (W.alloc o).drew ∧ Own (W.alloc o).drew (w.heap.size + 1) 2 [] 0 ∧ (W.alloc o).drew.cell? ⟨w.heap.size, 0, none⟩ = some v0 ∧ (W.alloc o).drew.cell? ⟨w.heap.size, 1, none⟩ = some v1 ∧ (W.alloc o).drew.cell? ⟨w.heap.size, 2, none⟩ = some v2 ∧ (W.alloc o).drew.cell? ⟨w.heap.size, 3, none⟩ = some v3 := jS_alloc o h
theorem jS_store {w W : World} {v0 v1 v2 v3 : Value} (y0 y1 y2 y3 : Value) (h : Below w.heap.size w W ∧ Own W (w.heap.size + 1) 2 [] 0 ∧ W.cell? ⟨w.heap.size, 0, none⟩ = some v0 ∧ W.cell? ⟨w.heap.size, 1, none⟩ = some v1 ∧ W.cell? ⟨w.heap.size, 2, none⟩ = some v2 ∧ W.cell? ⟨w.heap.size, 3, none⟩ = some v3) : Below w.heap.size w ((((W.setCell ⟨w.heap.size + 1, 0, none⟩ y0).setCell ⟨w.heap.size + 1, 1, none⟩ y1).setCell ⟨w.heap.size + 1, 2, none⟩ y2).setCell ⟨w.heap.size + 1, 3, none⟩ y3) ∧ Own ((((W.setCell ⟨w.heap.size + 1, 0, none⟩ y0).setCell ⟨w.heap.size + 1, 1, none⟩ y1).setCell ⟨w.heap.size + 1, 2, none⟩ y2).setCell ⟨w.heap.size + 1, 3, none⟩ y3) (w.heap.size + 1) 2 [] 0 ∧ ((((W.setCell ⟨w.heap.size + 1, 0, none⟩ y0).setCell ⟨w.heap.size + 1, 1, none⟩ y1).setCell ⟨w.heap.size + 1, 2, none⟩ y2).setCell ⟨w.heap.size + 1, 3, none⟩ y3).cell? ⟨w.heap.size, 0, none⟩ = some v0 ∧ ((((W.setCell ⟨w.heap.size + 1, 0, none⟩ y0).setCell ⟨w.heap.size + 1, 1, none⟩ y1).setCell ⟨w.heap.size + 1, 2, none⟩ y2).setCell ⟨w.heap.size + 1, 3, none⟩ y3).cell? ⟨w.heap.size, 1, none⟩ = some v1 ∧ ((((W.setCell ⟨w.heap.size + 1, 0, none⟩ y0).setCell ⟨w.heap.size + 1, 1, none⟩ y1).setCell ⟨w.heap.size + 1, 2, none⟩ y2).setCell ⟨w.heap.size + 1, 3, none⟩ y3).cell? ⟨w.heap.size, 2, none⟩ = some v2 ∧ ((((W.setCell ⟨w.heap.size + 1, 0, none⟩ y0).setCell ⟨w.heap.size + 1, 1, none⟩ y1).setCell ⟨w.heap.size + 1, 2, none⟩ y2).setCell ⟨w.heap.size + 1, 3, none⟩ y3).cell? ⟨w.heap.size, 3, none⟩ = some v3 := ownS_store y0 y1 y2 y3 h
theorem jS_own {w W : World} {b n k : Nat} {l : List (Int × Int)} {R : Prop} (o : Own w b n l k) (h : Below w.heap.size w W ∧ R) : Own W b n l k := o.below h.1 o.1
theorem jS_ge {w W : World} {R : Prop} (h : Below w.heap.size w W ∧ Own W (w.heap.size + 1) 2 [] 0 ∧ R) : w.heap.size + 2 ≤ W.heap.size := h.2.1.1

theorem Four.two {w : World} {s m t n0 n1 : Nat} {a0 a1 a2 a3 : Option Addr} {l0 l1 : List (Int × Int)} (h1 : s ≤ m) (h2 : m ≤ t) (r0 : RowIn w s m a0 n0 l0) (r1 : RowIn w m t a1 n1 l1) : Four w s t a0 a1 a2 a3 n0 n1 0 0 l0 l1 [] [] :=
  ⟨s, m, m, t, s, s, s, s, ⟨Nat.le_refl _, h2, r0⟩, ⟨h1, Nat.le_refl _, r1⟩, ⟨Nat.le_refl _, by omega, rfl, .inl rfl⟩, ⟨Nat.le_refl _, by omega, rfl, .inl rfl⟩, by omega, by omega, by omega, by omega, by omega, by omega⟩

theorem box_own {w : World} {b : Nat} {v0 v1 v2 v3 : Value} (h : Box w b v0 v1 v2 v3) : Own w b 2 [] 0 := ⟨h.lt, fun j hj => by
    have : j = 0 ∨ j = 1 ∨ j = 2 ∨ j = 3 := by omega
    rcases this with rfl | rfl | rfl | rfl
    · exact ⟨⟨_, h.c0⟩, h.f0⟩
    · exact ⟨⟨_, h.c1⟩, h.f1⟩
    · exact ⟨⟨_, h.c2⟩, h.f2⟩
    · exact ⟨⟨_, h.c3⟩, h.f3⟩, fun i hi => by omega⟩

set_option maxHeartbeats 4000000 in
theorem sPureOf_any (b0 b1 b2 b3 c0 c1 c2 c3 : Nat) (l0 l1 l2 l3 : List (Int × Int)) (w : World) (n0 : l0.length ≤ 1048576) (n1 : l1.length ≤ 1048576) (n2 : l2.length ≤ 1048576) (n3 : l3.length ≤ 1048576) (o0 : Own w b0 l0.length l0 l0.length) (o1 : Own w b1 l1.length l1 l1.length) (o2 : Own w b2 l2.length l2 l2.length) (o3 : Own w b3 l3.length l3 l3.length) :
    Calls Try.prog 105 #[.agg #[.slice (some ⟨b0, 0, none⟩) l0.length c0, .slice (some ⟨b1, 0, none⟩) l1.length c1, .slice (some ⟨b2, 0, none⟩) l2.length c2, .slice (some ⟨b3, 0, none⟩) l3.length c3]] w fun e w' => ∃ p0 p1 p2 p3 q0 q1 q2 q3, e = .returned (.agg #[.slice p0 (okL (asnB l0 l1 l2 l3) l0).length q0, .slice p1 (okL (asnB l0 l1 l2 l3) l1).length q1, .slice p2 (okL false l2).length q2, .slice p3 (okL false l3).length q3]) ∧ Seen w' w.heap.size w'.heap.size p0 p1 p2 p3 (okL (asnB l0 l1 l2 l3) l0).length (okL (asnB l0 l1 l2 l3) l1).length (okL false l2).length (okL false l3).length (okL (asnB l0 l1 l2 l3) l0) (okL (asnB l0 l1 l2 l3) l1) (okL false l2) (okL false l3) ∧ Below w.heap.size w w' := by
  have B0 := (Box.new w (.slice (some ⟨b0, 0, none⟩) l0.length c0) (.slice (some ⟨b1, 0, none⟩) l1.length c1) (.slice (some ⟨b2, 0, none⟩) l2.length c2) (.slice (some ⟨b3, 0, none⟩) l3.length c3) 28).alloc (.cells #[.slice none 0 0, .slice none 0 0, .slice none 0 0, .slice none 0 0] 28)
  have R0 := Box.new (w.alloc (.cells #[.slice (some ⟨b0, 0, none⟩) l0.length c0, .slice (some ⟨b1, 0, none⟩) l1.length c1, .slice (some ⟨b2, 0, none⟩) l2.length c2, .slice (some ⟨b3, 0, none⟩) l3.length c3] 28)) (.slice none 0 0) (.slice none 0 0) (.slice none 0 0) (.slice none 0 0) 28
  have L0 : Below w.heap.size w ((w.alloc (.cells #[.slice (some ⟨b0, 0, none⟩) l0.length c0, .slice (some ⟨b1, 0, none⟩) l1.length c1, .slice (some ⟨b2, 0, none⟩) l2.length c2, .slice (some ⟨b3, 0, none⟩) l3.length c3] 28)).alloc (.cells #[.slice none 0 0, .slice none 0 0, .slice none 0 0, .slice none 0 0] 28)) := ((Below.refl _ _).alloc (Nat.le_refl _) _).alloc (by simp) _
  rw [World.size_alloc] at R0
  go_enter Try.func105, Try.ntmps105
  go_wp2_with fail
  refine (sAsnOk_any _ _ _ _ _ _ _ _ _ _ _ _ _ n0 n1 n2 n3 (by exact (o0.below L0 o0.1).row) (by exact (o1.below L0 o1.1).row) (by exact (o2.below L0 o2.1).row) (by exact (o3.below L0 o3.1).row)).mono ?_
  rintro e w1 ⟨rfl, hb⟩
  replace B0 := B0.below hb B0.lt; replace R0 := R0.below hb R0.lt; replace L0 := L0.trans (hb.mono L0.size)
  clear hb
  have HE : Hid ((asnB l0 l1 l2 l3) = (asnB l0 l1 l2 l3)) := rfl
  cases h : asnB l0 l1 l2 l3
  · have HB : Hid (asnB l0 l1 l2 l3 = false) := h
    clear HE
    obtain ⟨F, FO⟩ := R0.fill (.slice none 0 0) (.slice none 0 0) (.slice none 0 0) (.slice none 0 0)
    have x0 := B0.c0; have x1 := B0.c1; have x2 := B0.c2; have x3 := B0.c3
    have j0 := R0.c0; have j1 := R0.c1; have j2 := R0.c2; have j3 := R0.c3
    have g0 := R0.f0; have g1 := R0.f1; have g2 := R0.f2; have g3 := R0.f3
    go_wp2
    have i0 := F.c0; have i1 := F.c1; have i2 := F.c2; have i3 := F.c3
    refine bodyPost_ret (v := .agg #[.slice none 0 0, .slice none 0 0, .slice none 0 0, .slice none 0 0]) ?_ rfl ⟨none, none, none, none, 0, 0, 0, 0, by simp [okL, HB.out], ?_, ?_⟩
    · simp [results, Try.results105, go_sem, i0, i1, i2, i3]
    · simp only [okL, HB.out]; exact Seen.none _ _ _
    · exact L0.trans (FO.below (by omega) L0.size)
  have HB : Hid (asnB l0 l1 l2 l3 = true) := h
  clear HE
  go_wp2
  generalize w1 = W0 at *
  have hS0 : Below w.heap.size w W0.drew ∧ Own W0.drew (w.heap.size + 1) 2 [] 0 ∧ W0.drew.cell? ⟨w.heap.size, 0, none⟩ = some (.slice (some ⟨b0, 0, none⟩) l0.length c0) ∧ W0.drew.cell? ⟨w.heap.size, 1, none⟩ = some (.slice (some ⟨b1, 0, none⟩) l1.length c1) ∧ W0.drew.cell? ⟨w.heap.size, 2, none⟩ = some (.slice (some ⟨b2, 0, none⟩) l2.length c2) ∧ W0.drew.cell? ⟨w.heap.size, 3, none⟩ = some (.slice (some ⟨b3, 0, none⟩) l3.length c3) := ⟨L0.drew, (box_own R0).drew, B0.c0, B0.c1, B0.c2, B0.c3⟩
  clear R0 B0 L0
  go_region_held3 (fun W => Below w.heap.size w W ∧ Own W (w.heap.size + 1) 2 [] 0 ∧ W.cell? ⟨w.heap.size, 0, none⟩ = some (.slice (some ⟨b0, 0, none⟩) l0.length c0) ∧ W.cell? ⟨w.heap.size, 1, none⟩ = some (.slice (some ⟨b1, 0, none⟩) l1.length c1) ∧ W.cell? ⟨w.heap.size, 2, none⟩ = some (.slice (some ⟨b2, 0, none⟩) l2.length c2) ∧ W.cell? ⟨w.heap.size, 3, none⟩ = some (.slice (some ⟨b3, 0, none⟩) l3.length c3))
    (first | exact hS0 | assumption | (refine jS_ad _ ?_; (first | assumption | (refine ⟨?_, ?_, ?_, ?_, ?_, ?_⟩ <;> assumption))) | (refine jS_alloc _ ?_; (first | assumption | (refine ⟨?_, ?_, ?_, ?_, ?_, ?_⟩ <;> assumption))) | (refine jS_store _ _ _ _ ?_; (first | assumption | (refine ⟨?_, ?_, ?_, ?_, ?_, ?_⟩ <;> assumption))) | (refine ⟨?_, ?_, ?_, ?_, ?_, ?_⟩ <;> assumption))
    (first
      | (refine step_fresh (by rfl) _ _ (by rfl) _ b0 l0.length c0 l0 (by rfl) (by rfl) rfl (jS_own o0 (by assumption)) n0 ?_; rintro a0 e0 u0 t0 h0; replace t0 := t0.mono (jS_ge (by assumption)) (Nat.le_refl _); have k0 := jS_keep (by assumption) h0)
      | (refine step_fresh (by rfl) _ _ (by rfl) _ b1 l1.length c1 l1 (by rfl) (by rfl) rfl (jS_own o1 (by assumption)) n1 ?_; rintro a1 e1 u1 t1 h1; replace t1 := t1.mono (jS_ge (by assumption)) (Nat.le_refl _); have k1 := jS_keep (by assumption) h1; have q0 := ((t0.row.below (by (first | exact Below.refl _ _ | exact (Below.refl _ _).alloc (Nat.le_refl _) _ | exact ((Below.refl _ _).alloc (Nat.le_refl _) _).alloc (by simp) _)) (Nat.le_refl _)).below h1 (by first | exact Nat.le_refl _ | (simp; done) | (simp; omega))).mono (Nat.le_refl _) (show _ ≤ u1.heap.size from Nat.le_trans (by first | exact Nat.le_refl _ | (simp; done) | (simp; omega)) h1.size); obtain ⟨x0, hx0⟩ := (k1.2.1.2.1 0 (by omega)).1; obtain ⟨x1, hx1⟩ := (k1.2.1.2.1 1 (by omega)).1; obtain ⟨x2, hx2⟩ := (k1.2.1.2.1 2 (by omega)).1; obtain ⟨x3, hx3⟩ := (k1.2.1.2.1 3 (by omega)).1; have f0 := (k1.2.1.2.1 0 (by omega)).2; have f1 := (k1.2.1.2.1 1 (by omega)).2; have f2 := (k1.2.1.2.1 2 (by omega)).2; have f3 := (k1.2.1.2.1 3 (by omega)).2))
  all_goals
    obtain ⟨F, FO⟩ := Own.fill k1.2.1 (.slice a0 l0.length e0) (.slice a1 l1.length e1) (.slice none 0 0) (.slice none 0 0)
    have hB := k1.1
    have hy := FO.size
    have t1' := t1.row
    clear k0 k1 h0 h1 hS0 t1
    go_wp2
    have i0 := F.c0; have i1 := F.c1; have i2 := F.c2; have i3 := F.c3
    refine bodyPost_ret (v := .agg #[.slice a0 l0.length e0, .slice a1 l1.length e1, .slice none 0 0, .slice none 0 0]) ?_ rfl ⟨a0, a1, none, none, e0, e1, 0, 0, by simp [okL, HB.out], ?_, ?_⟩
    · simp [results, Try.results105, go_sem, i0, i1, i2, i3]
    · simp only [okL, HB.out]
      exact ⟨(q0.out FO (.inr (by omega))).mono (by omega) hy, (t1'.out FO (.inr (by omega))).mono (by omega) hy, ⟨rfl, .inl rfl⟩, ⟨rfl, .inl rfl⟩⟩
    · exact hB.trans (FO.below (by omega) hB.size)

set_option maxHeartbeats 4000000 in
theorem iPureOf_any (b0 b1 b2 b3 c0 c1 c2 c3 : Nat) (l0 l1 l2 l3 : List (Int × Int)) (w : World) (n0 : l0.length ≤ 1048576) (n1 : l1.length ≤ 1048576) (n2 : l2.length ≤ 1048576) (n3 : l3.length ≤ 1048576) (o0 : Own w b0 l0.length l0 l0.length) (o1 : Own w b1 l1.length l1 l1.length) (o2 : Own w b2 l2.length l2 l2.length) (o3 : Own w b3 l3.length l3 l3.length) :
    Calls Try.prog 106 #[.agg #[.slice (some ⟨b0, 0, none⟩) l0.length c0, .slice (some ⟨b1, 0, none⟩) l1.length c1, .slice (some ⟨b2, 0, none⟩) l2.length c2, .slice (some ⟨b3, 0, none⟩) l3.length c3]] w fun e w' => ∃ p0 p1 p2 p3 q0 q1 q2 q3, e = .returned (.agg #[.slice p0 (okL (asnB l0 l1 l2 l3) l0).length q0, .slice p1 (okL (asnB l0 l1 l2 l3) l1).length q1, .slice p2 (okL false l2).length q2, .slice p3 (okL false l3).length q3]) ∧ Four w' w.heap.size w'.heap.size p0 p1 p2 p3 (okL (asnB l0 l1 l2 l3) l0).length (okL (asnB l0 l1 l2 l3) l1).length (okL false l2).length (okL false l3).length (okL (asnB l0 l1 l2 l3) l0) (okL (asnB l0 l1 l2 l3) l1) (okL false l2) (okL false l3) ∧ Below w.heap.size w w' := by
  have B0 := (Box.new w (.slice (some ⟨b0, 0, none⟩) l0.length c0) (.slice (some ⟨b1, 0, none⟩) l1.length c1) (.slice (some ⟨b2, 0, none⟩) l2.length c2) (.slice (some ⟨b3, 0, none⟩) l3.length c3) 28).alloc (.cells #[.slice none 0 0, .slice none 0 0, .slice none 0 0, .slice none 0 0] 28)
  have R0 := Box.new (w.alloc (.cells #[.slice (some ⟨b0, 0, none⟩) l0.length c0, .slice (some ⟨b1, 0, none⟩) l1.length c1, .slice (some ⟨b2, 0, none⟩) l2.length c2, .slice (some ⟨b3, 0, none⟩) l3.length c3] 28)) (.slice none 0 0) (.slice none 0 0) (.slice none 0 0) (.slice none 0 0) 28
  have L0 : Below w.heap.size w ((w.alloc (.cells #[.slice (some ⟨b0, 0, none⟩) l0.length c0, .slice (some ⟨b1, 0, none⟩) l1.length c1, .slice (some ⟨b2, 0, none⟩) l2.length c2, .slice (some ⟨b3, 0, none⟩) l3.length c3] 28)).alloc (.cells #[.slice none 0 0, .slice none 0 0, .slice none 0 0, .slice none 0 0] 28)) := ((Below.refl _ _).alloc (Nat.le_refl _) _).alloc (by simp) _
  rw [World.size_alloc] at R0
  go_enter Try.func106, Try.ntmps106
  go_wp2_with fail
  refine (iAsnOk_any _ _ _ _ _ _ _ _ _ _ _ _ _ n0 n1 n2 n3 (by exact (o0.below L0 o0.1).row) (by exact (o1.below L0 o1.1).row) (by exact (o2.below L0 o2.1).row) (by exact (o3.below L0 o3.1).row)).mono ?_
  rintro e w1 ⟨rfl, hb⟩
  replace B0 := B0.below hb B0.lt; replace R0 := R0.below hb R0.lt; replace L0 := L0.trans (hb.mono L0.size)
  clear hb
  have HE : Hid ((asnB l0 l1 l2 l3) = (asnB l0 l1 l2 l3)) := rfl
  cases h : asnB l0 l1 l2 l3
  · have HB : Hid (asnB l0 l1 l2 l3 = false) := h
    clear HE
    obtain ⟨F, FO⟩ := R0.fill (.slice none 0 0) (.slice none 0 0) (.slice none 0 0) (.slice none 0 0)
    have x0 := B0.c0; have x1 := B0.c1; have x2 := B0.c2; have x3 := B0.c3
    have j0 := R0.c0; have j1 := R0.c1; have j2 := R0.c2; have j3 := R0.c3
    have g0 := R0.f0; have g1 := R0.f1; have g2 := R0.f2; have g3 := R0.f3
    go_wp2
    have i0 := F.c0; have i1 := F.c1; have i2 := F.c2; have i3 := F.c3
    refine bodyPost_ret (v := .agg #[.slice none 0 0, .slice none 0 0, .slice none 0 0, .slice none 0 0]) ?_ rfl ⟨none, none, none, none, 0, 0, 0, 0, by simp [okL, HB.out], ?_, ?_⟩
    · simp [results, Try.results106, go_sem, i0, i1, i2, i3]
    · simp only [okL, HB.out]; exact (Four.none _ w.heap.size).mono (Nat.le_refl _) (by have := FO.size; have := L0.size; omega)
    · exact L0.trans (FO.below (by omega) L0.size)
  have HB : Hid (asnB l0 l1 l2 l3 = true) := h
  clear HE
  go_wp2
  generalize w1 = W0 at *
  have hS0 : Below w.heap.size w W0.drew ∧ Own W0.drew (w.heap.size + 1) 2 [] 0 ∧ W0.drew.cell? ⟨w.heap.size, 0, none⟩ = some (.slice (some ⟨b0, 0, none⟩) l0.length c0) ∧ W0.drew.cell? ⟨w.heap.size, 1, none⟩ = some (.slice (some ⟨b1, 0, none⟩) l1.length c1) ∧ W0.drew.cell? ⟨w.heap.size, 2, none⟩ = some (.slice (some ⟨b2, 0, none⟩) l2.length c2) ∧ W0.drew.cell? ⟨w.heap.size, 3, none⟩ = some (.slice (some ⟨b3, 0, none⟩) l3.length c3) := ⟨L0.drew, (box_own R0).drew, B0.c0, B0.c1, B0.c2, B0.c3⟩
  clear R0 B0 L0
  go_region_held3 (fun W => Below w.heap.size w W ∧ Own W (w.heap.size + 1) 2 [] 0 ∧ W.cell? ⟨w.heap.size, 0, none⟩ = some (.slice (some ⟨b0, 0, none⟩) l0.length c0) ∧ W.cell? ⟨w.heap.size, 1, none⟩ = some (.slice (some ⟨b1, 0, none⟩) l1.length c1) ∧ W.cell? ⟨w.heap.size, 2, none⟩ = some (.slice (some ⟨b2, 0, none⟩) l2.length c2) ∧ W.cell? ⟨w.heap.size, 3, none⟩ = some (.slice (some ⟨b3, 0, none⟩) l3.length c3))
    (first | exact hS0 | assumption | (refine jS_ad _ ?_; (first | assumption | (refine ⟨?_, ?_, ?_, ?_, ?_, ?_⟩ <;> assumption))) | (refine jS_alloc _ ?_; (first | assumption | (refine ⟨?_, ?_, ?_, ?_, ?_, ?_⟩ <;> assumption))) | (refine jS_store _ _ _ _ ?_; (first | assumption | (refine ⟨?_, ?_, ?_, ?_, ?_, ?_⟩ <;> assumption))) | (refine ⟨?_, ?_, ?_, ?_, ?_, ?_⟩ <;> assumption))
    (first
      | (go_at_call_of 144 (Value.slice (some ⟨b0, 0, none⟩) l0.length c0); refine (copy_any _ _ _ l0 _ rfl (by omega) (by exact (jS_own o0 hS0).row) (by intro e; cases e)).mono ?_; rintro e u0 ⟨a0, e0, rfl, t0, -, h0⟩; have k0 := jS_keep hS0 h0)
      | (go_at_call_of 144 (Value.slice (some ⟨b1, 0, none⟩) l1.length c1); refine (copy_any _ _ _ l1 _ rfl (by omega) (by exact (jS_own o1 k0).row) (by intro e; cases e)).mono ?_; rintro e u1 ⟨a1, e1, rfl, t1, -, h1⟩; have k1 := jS_keep k0 h1; obtain ⟨x0, hx0⟩ := (k1.2.1.2.1 0 (by omega)).1; obtain ⟨x1, hx1⟩ := (k1.2.1.2.1 1 (by omega)).1; obtain ⟨x2, hx2⟩ := (k1.2.1.2.1 2 (by omega)).1; obtain ⟨x3, hx3⟩ := (k1.2.1.2.1 3 (by omega)).1; have f0 := (k1.2.1.2.1 0 (by omega)).2; have f1 := (k1.2.1.2.1 1 (by omega)).2; have f2 := (k1.2.1.2.1 2 (by omega)).2; have f3 := (k1.2.1.2.1 3 (by omega)).2))
  all_goals
    obtain ⟨F, FO⟩ := Own.fill k1.2.1 (.slice a0 l0.length e0) (.slice a1 l1.length e1) (.slice none 0 0) (.slice none 0 0)
    have hB := k1.1
    have gq := jS_ge hS0
    have hz0 := h0.size
    have hz := h1.size
    have hy := FO.size
    replace t0 := t0.below h1 (Nat.le_refl _)
    clear k0 k1 h0 h1 hS0
    rw [World.size_drew] at gq hz0 t0
    go_wp2
    have i0 := F.c0; have i1 := F.c1; have i2 := F.c2; have i3 := F.c3
    refine bodyPost_ret (v := .agg #[.slice a0 l0.length e0, .slice a1 l1.length e1, .slice none 0 0, .slice none 0 0]) ?_ rfl ⟨a0, a1, none, none, e0, e1, 0, 0, by simp [okL, HB.out], ?_, ?_⟩
    · simp [results, Try.results106, go_sem, i0, i1, i2, i3]
    · simp only [okL, HB.out]
      exact (Four.two hz0 hz (t0.out FO (.inr (by omega))) (t1.out FO (.inr (by omega)))).mono (by omega) (by simp)
    · exact hB.trans (FO.below (by omega) hB.size)

end Go.Proofs.Ytphchdjbhbmnbaa
namespace Go.Proofs.Ytphchdjbhbmnbaa
open Go.RowKit
set_option linter.unusedVariables false

theorem step_freshP {ops : Array Oper} {o : Oper} {a : Act} {w : World} {K : Act → World → Prop} {Q : Exit → Act → World → Prop} {E : Prop}
    (hg : o.guard = none) (s x : Operand) (hop : o.op = Op.call { callee := Callee.builtin Builtin.append, args := #[s, x], argTypes := #[26, 26] })
    (Z : Nat) (p : Addr) (m c : Nat) (l : List (Int × Int)) (hs : a.eval s = .slice (some ⟨Z, 0, none⟩) 0 0) (hx : a.eval x = .slice (some p) m c) (hl : l.length = m) (ho : PRow w (some p) l) (hm : m ≤ 1048576)
    (hK : ∀ a' c' w', RoomIn w' w.heap.size w'.heap.size a' m c' l → Below w.heap.size w w' → K (a.put o.dst (.slice a' m c')) w') :
    if Region.wanted o (yielded ops a.tmps) = true then Oper.wp Try.prog o a w K Q else E := by
  obtain ⟨i0, hi, hz0, hz1, hz2⟩ := Try.i57
  subst hl
  by_cases e : l.length = 0
  · have el : l = [] := List.eq_nil_of_length_eq_zero e
    subst el
    refine step_append_room hg s x 26 hop 69 i0 2 Try.underlying26 hi hz1 Z 0 0 0 hs p 0 c [] hx rfl (by intro j u h; cases h) (by intro u h; cases h) (Nat.le_refl _) (by intro j h; exact absurd h (Nat.not_lt_zero _)) ?_
    exact hK _ _ _ ⟨rfl, .inl ⟨rfl, rfl, _, rfl⟩⟩ (Below.refl _ _)
  · refine step_append_grows hg s x 26 hop 69 i0 (.agg #[.int .i64 0, .int .i64 0]) 2 16 Try.underlying26 hi hz0 hz1 hz2 rfl (by decide) (some ⟨Z, 0, none⟩) 0 0 [] hs (by intro h; cases h) rfl (by intro b h j u hu; cases hu) p l.length c (pc l) hx (pc_length l) ho.news pc_one (by omega) (by unfold maxLen; omega) (by omega) ?_
    intro v' w' hown hgr
    rw [Nat.zero_add, List.nil_append] at hown
    obtain ⟨a', c', rfl, hr⟩ := RoomIn.ofOwns hown (by omega)
    exact hK _ _ _ hr ((Below.refl _ _).grown hgr (Nat.le_refl _) (by intro k hk; cases hk))

theorem step_roomP {ops : Array Oper} {o : Oper} {a : Act} {w : World} {K : Act → World → Prop} {Q : Exit → Act → World → Prop} {E : Prop}
    (hg : o.guard = none) (s x : Operand) (hop : o.op = Op.call { callee := Callee.builtin Builtin.append, args := #[s, x], argTypes := #[26, 26] })
    (lo hi : Nat) (a' : Option Addr) (n c : Nat) (l : List (Int × Int)) (hs : a.eval s = .slice a' n c) (hr : RoomIn w lo hi a' n c l)
    (p : Addr) (m d : Nat) (k : List (Int × Int)) (hx : a.eval x = .slice (some p) m d) (hk : k.length = m) (ho : PRow w (some p) k) (hn : n + m ≤ 2097152) (hlo : lo ≤ w.heap.size)
    (hK : ∀ a'' c'' w', RowOr w' lo hi w.heap.size a'' (n + m) (l ++ k) → Out lo hi w w' → K (a.put o.dst (.slice a'' (n + m) c'')) w') :
    if Region.wanted o (yielded ops a.tmps) = true then Oper.wp Try.prog o a w K Q else E := by
  obtain ⟨i0, hi0, hz0, hz1, hz2⟩ := Try.i57
  subst hk
  have hl := hr.1
  by_cases hc : c < n + k.length
  · refine step_append_grows hg s x 26 hop 69 i0 (.agg #[.int .i64 0, .int .i64 0]) 2 16 Try.underlying26 hi0 hz0 hz1 hz2 rfl (by decide) a' n c (pc l) hs ?_ (by rw [pc_length, hl]) ?_ p k.length d (pc k) hx (pc_length k) ho.news pc_one hc (by unfold maxLen; omega) (by omega) ?_
    · obtain ⟨_, ⟨_, _, _, rfl⟩ | ⟨_, rfl, _⟩⟩ := hr <;> intro h <;> cases h
    · intro ad had j u hu
      obtain ⟨_, ⟨h0, _, _, rfl⟩ | ⟨b1, rfl, _, _, hw⟩⟩ := hr
      · have : l = [] := List.eq_nil_of_length_eq_zero (by omega)
        subst this; cases hu
      · cases had; exact hw.cells rfl j u hu
    · intro v' w' hown hgr
      rw [← pc_append] at hown
      obtain ⟨a1, c1, rfl, hl1, h0 | ⟨b1, rfl, h1, h2, h3⟩⟩ := RowIn.ofOwns hown
      · omega
      · exact hK _ _ _ ⟨hl1, .inr ⟨b1, rfl, .inr h1, h3⟩⟩ (Out.ofBelow ((Below.refl _ _).grown hgr (Nat.le_refl _) (by intro k hk; cases hk)))
  · obtain ⟨_, ⟨h0, h00, Z, rfl⟩ | ⟨b1, rfl, g1, g2, hw⟩⟩ := hr
    · have hl0 : l = [] := List.eq_nil_of_length_eq_zero (by omega)
      have hk0 : k = [] := List.eq_nil_of_length_eq_zero (by omega)
      subst hl0 hk0 h00 h0
      refine step_append_room hg s x 26 hop 69 i0 2 Try.underlying26 hi0 hz1 Z 0 0 0 hs p 0 d [] hx rfl (by intro j u h; cases h) (by intro u h; cases h) (Nat.le_refl _) (by intro j h; exact absurd h (Nat.not_lt_zero _)) ?_
      exact hK _ _ _ ⟨rfl, .inl rfl⟩ (Out.refl _ _ _)
    · have sp : ∀ j, j < (pc k).length → (w.cell? ⟨b1, 0 + n * 2 + j, none⟩).isSome = true ∧ w.frozen? ⟨b1, 0 + n * 2 + j, none⟩ = false := fun j hj => owns_room hw _ (by rw [pc_length] at hj; omega)
      obtain ⟨v', w', hrun, r1, r2, _⟩ := run_append_own (P := Try.prog) w lo 26 o.type 69 i0 (.agg #[.int .i64 0, .int .i64 0]) 2 16 Try.underlying26 hi0 hz0 hz1 hz2 rfl (by decide) _ n (pc l) hw p k.length d (pc k) (pc_length k) ho.news pc_one (by unfold maxLen; omega) (by omega) hlo
      have hrun2 := run_append_room_cells (P := Try.prog) w 26 o.type 69 i0 Try.underlying26 hi0 b1 0 n c p k.length d (pc k) (by rw [hz1]; exact pc_length k) ho.news pc_one (by omega) (by rw [hz1]; exact fun j hj => (sp j hj).1) (by rw [hz1]; exact fun j hj => (sp j hj).2)
      rw [hrun] at hrun2
      rw [hz1] at hrun2
      injection hrun2 with e1 e2
      subst e1 e2
      rw [← pc_append] at r1
      obtain ⟨q1, q2, q3⟩ := Own.ofOwns r1
      refine step_append_room hg s x 26 hop 69 i0 2 Try.underlying26 hi0 hz1 b1 0 n c hs p k.length d (pc k) hx (pc_length k) ho.news pc_one (by omega) sp ?_
      exact hK _ _ _ ⟨q1, .inr ⟨b1, rfl, .inl ⟨g1, g2⟩, q3⟩⟩ ⟨r2.os, r2.tape, r2.output, r2.size, fun i hi' hr' => r2.block i hi' (by intro e; injection e with e; subst e; omega)⟩

/-- The one where k is j, else the other. -/
def pick {α : Type} (k j : Nat) (x y : α) : α := if k = j then x else y

set_option maxHeartbeats 2000000 in
theorem l1with_any (a0 a1 a2 a3 ax : Option Addr) (n0 n1 n2 n3 nx c0 c1 c2 c3 cx : Nat) (k : Nat) (hk : k < 4) (w : World) :
    Calls Try.prog 149 #[.agg #[.slice a0 n0 c0, .slice a1 n1 c1, .slice a2 n2 c2, .slice a3 n3 c3], .int .i64 k, .slice ax nx cx] w fun e w' => e = .returned (.agg #[.slice (pick k 0 ax a0) (pick k 0 nx n0) (pick k 0 cx c0), .slice (pick k 1 ax a1) (pick k 1 nx n1) (pick k 1 cx c1), .slice (pick k 2 ax a2) (pick k 2 nx n2) (pick k 2 cx c2), .slice (pick k 3 ax a3) (pick k 3 nx n3) (pick k 3 cx c3)]) ∧ Below w.heap.size w w' := by
  obtain rfl | rfl | rfl | rfl : k = 0 ∨ k = 1 ∨ k = 2 ∨ k = 3 := by omega
  · go_enter Try.func149, Try.ntmps149
    go_wp2
    exact bodyPost_ret (v := .agg #[.slice ax nx cx, .slice a1 n1 c1, .slice a2 n2 c2, .slice a3 n3 c3]) (by simp [results, Try.results149, go_sem]) rfl ⟨rfl, ((Below.refl _ _).alloc (Nat.le_refl _) _).alloc (by simp) _⟩
  · go_enter Try.func149, Try.ntmps149
    go_wp2
    exact bodyPost_ret (v := .agg #[.slice a0 n0 c0, .slice ax nx cx, .slice a2 n2 c2, .slice a3 n3 c3]) (by simp [results, Try.results149, go_sem]) rfl ⟨rfl, ((Below.refl _ _).alloc (Nat.le_refl _) _).alloc (by simp) _⟩
  · go_enter Try.func149, Try.ntmps149
    go_wp2
    exact bodyPost_ret (v := .agg #[.slice a0 n0 c0, .slice a1 n1 c1, .slice ax nx cx, .slice a3 n3 c3]) (by simp [results, Try.results149, go_sem]) rfl ⟨rfl, ((Below.refl _ _).alloc (Nat.le_refl _) _).alloc (by simp) _⟩
  · go_enter Try.func149, Try.ntmps149
    go_wp2
    exact bodyPost_ret (v := .agg #[.slice a0 n0 c0, .slice a1 n1 c1, .slice a2 n2 c2, .slice ax nx cx]) (by simp [results, Try.results149, go_sem]) rfl ⟨rfl, ((Below.refl _ _).alloc (Nat.le_refl _) _).alloc (by simp) _⟩

theorem kind4 (b0 b1 b2 b3 c0 c1 c2 c3 : Nat) (l0 l1 l2 l3 : List (Int × Int)) (k : Nat) (w : World) (hk : k < 4) :
    Calls Try.prog 142 #[.agg #[.slice (some ⟨b0, 0, none⟩) l0.length c0, .slice (some ⟨b1, 0, none⟩) l1.length c1, .slice (some ⟨b2, 0, none⟩) l2.length c2, .slice (some ⟨b3, 0, none⟩) l3.length c3], .int .i64 k] w fun e w' => e = .returned (.slice (some ⟨kindB b0 b1 b2 b3 k, 0, none⟩) (kindL l0 l1 l2 l3 k).length (kindB c0 c1 c2 c3 k)) ∧ Below w.heap.size w w' := by
  obtain rfl | rfl | rfl | rfl : k = 0 ∨ k = 1 ∨ k = 2 ∨ k = 3 := by omega
  · go_enter Try.func142, Try.ntmps142
    go_wp2
    go_ret
    exact ⟨rfl, (Below.refl _ _).alloc (Nat.le_refl _) _⟩
  · go_enter Try.func142, Try.ntmps142
    go_wp2
    go_ret
    exact ⟨rfl, (Below.refl _ _).alloc (Nat.le_refl _) _⟩
  · go_enter Try.func142, Try.ntmps142
    go_wp2
    go_ret
    exact ⟨rfl, (Below.refl _ _).alloc (Nat.le_refl _) _⟩
  · go_enter Try.func142, Try.ntmps142
    go_wp2
    go_ret
    exact ⟨rfl, (Below.refl _ _).alloc (Nat.le_refl _) _⟩

end Go.Proofs.Ytphchdjbhbmnbaa
namespace Go.Proofs.Ytphchdjbhbmnbaa
open Go.RowKit
set_option linter.unusedVariables false

set_option maxRecDepth 20000 in
set_option maxHeartbeats 4000000 in
theorem ownp_nd4_n {b0 b1 b2 b3 : Addr} {c0 c1 c2 c3 : Nat} {l0 l1 l2 l3 : List (Int × Int)} {w : World} {Q : Exit → Act → World → Prop} (n0 : l0.length ≤ 1048576) (n1 : l1.length ≤ 1048576) (n2 : l2.length ≤ 1048576) (n3 : l3.length ≤ 1048576) (o0 : PRow w (some b0) l0) (o1 : PRow w (some b1) l1) (o2 : PRow w (some b2) l2) (o3 : PRow w (some b3) l3)
    (hQ : ∀ (W : World) (hS : ownS w (.slice (some b0) l0.length c0) (.slice (some b1) l1.length c1) (.slice (some b2) l2.length c2) (.slice (some b3) l3.length c3) W) (z0 z1 z2 z3 : Nat) (a0 : Option Addr) (e0 m1 : Nat) (t0 : RoomIn W (w.heap.size + 2) m1 a0 l0.length e0 l0) (g1 : m1 ≤ W.heap.size) (k1 : (w.heap.size + 2) ≤ m1) (a1 : Option Addr) (e1 m2 : Nat) (t1 : RoomIn W m1 m2 a1 l1.length e1 l1) (g2 : m2 ≤ W.heap.size) (k2 : m1 ≤ m2) (a2 : Option Addr) (e2 m3 : Nat) (t2 : RoomIn W m2 m3 a2 l2.length e2 l2) (g3 : m3 ≤ W.heap.size) (k3 : m2 ≤ m3) (a3 : Option Addr) (e3 m4 : Nat) (t3 : RoomIn W m3 m4 a3 l3.length e3 l3) (g4 : m4 ≤ W.heap.size) (k4 : m3 ≤ m4), Q .normal { tmps := #[.agg #[.slice (some b0) l0.length c0, .slice (some b1) l1.length c1, .slice (some b2) l2.length c2, .slice (some b3) l3.length c3], .pointer (some ⟨w.heap.size, 0, none⟩), .pointer (some ⟨w.heap.size + 1, 0, none⟩), .slice (some ⟨z0, 0, none⟩) 0 0, .pointer (some ⟨w.heap.size, 0, none⟩), .slice (some b0) l0.length c0, .slice a0 l0.length e0, .slice (some ⟨z1, 0, none⟩) 0 0, .pointer (some ⟨w.heap.size, 1, none⟩), .slice (some b1) l1.length c1, .slice a1 l1.length e1, .slice (some ⟨z2, 0, none⟩) 0 0, .pointer (some ⟨w.heap.size, 2, none⟩), .slice (some b2) l2.length c2, .slice a2 l2.length e2, .slice (some ⟨z3, 0, none⟩) 0 0, .pointer (some ⟨w.heap.size, 3, none⟩), .slice (some b3) l3.length c3, .slice a3 l3.length e3, .agg #[.slice a0 l0.length e0, .slice a1 l1.length e1, .slice a2 l2.length e2, .slice a3 l3.length e3]], defers := [] } ((((W.setCell ⟨w.heap.size + 1, 0, none⟩ (.slice a0 l0.length e0)).setCell ⟨w.heap.size + 1, 1, none⟩ (.slice a1 l1.length e1)).setCell ⟨w.heap.size + 1, 2, none⟩ (.slice a2 l2.length e2)).setCell ⟨w.heap.size + 1, 3, none⟩ (.slice a3 l3.length e3)))
    (W : World) (hS : ownS w (.slice (some b0) l0.length c0) (.slice (some b1) l1.length c1) (.slice (some b2) l2.length c2) (.slice (some b3) l3.length c3) W) (z0 z1 z2 z3 : Nat) (a0 : Option Addr) (e0 m1 : Nat) (t0 : RoomIn W (w.heap.size + 2) m1 a0 l0.length e0 l0) (g1 : m1 ≤ W.heap.size) (k1 : (w.heap.size + 2) ≤ m1) (a1 : Option Addr) (e1 m2 : Nat) (t1 : RoomIn W m1 m2 a1 l1.length e1 l1) (g2 : m2 ≤ W.heap.size) (k2 : m1 ≤ m2) (a2 : Option Addr) (e2 m3 : Nat) (t2 : RoomIn W m2 m3 a2 l2.length e2 l2) (g3 : m3 ≤ W.heap.size) (k3 : m2 ≤ m3) (a3 : Option Addr) (e3 m4 : Nat) (t3 : RoomIn W m3 m4 a3 l3.length e3 l3) (g4 : m4 ≤ W.heap.size) (k4 : m3 ≤ m4) :
    wpAnyH Try.prog .any ownOps Q (ownS w (.slice (some b0) l0.length c0) (.slice (some b1) l1.length c1) (.slice (some b2) l2.length c2) (.slice (some b3) l3.length c3)) 2 #[true, true, true, true, true, true, true, true, true, true, true, true, true, true, true, true, false, false] { tmps := #[.agg #[.slice (some b0) l0.length c0, .slice (some b1) l1.length c1, .slice (some b2) l2.length c2, .slice (some b3) l3.length c3], .pointer (some ⟨w.heap.size, 0, none⟩), .pointer (some ⟨w.heap.size + 1, 0, none⟩), .slice (some ⟨z0, 0, none⟩) 0 0, .pointer (some ⟨w.heap.size, 0, none⟩), .slice (some b0) l0.length c0, .slice a0 l0.length e0, .slice (some ⟨z1, 0, none⟩) 0 0, .pointer (some ⟨w.heap.size, 1, none⟩), .slice (some b1) l1.length c1, .slice a1 l1.length e1, .slice (some ⟨z2, 0, none⟩) 0 0, .pointer (some ⟨w.heap.size, 2, none⟩), .slice (some b2) l2.length c2, .slice a2 l2.length e2, .slice (some ⟨z3, 0, none⟩) 0 0, .pointer (some ⟨w.heap.size, 3, none⟩), .slice (some b3) l3.length c3, .slice a3 l3.length e3, undef], defers := [] } W := by
  refine wpAnyH_ready (rs := [16]) (by kernel_rfl) (by simp) ?_
  refine AllReadyH.cons (o := { dst := some 19, op := Op.build 28 #[(0, Operand.tmp 6), (1, Operand.tmp 10), (2, Operand.tmp 14), (3, Operand.tmp 18)], type := 28, pos := "l01_asn.go:137", after := #[{ on := 3, ground := Ground.data }, { on := 7, ground := Ground.data }, { on := 11, ground := Ground.data }, { on := 15, ground := Ground.data }], guard := none }) rfl (fun K hK => ?_) AllReadyH.nil
  go_simp
  refine hK.out _ _ hS (fun _ => ?_)
  show wpAnyH Try.prog .any ownOps Q (ownS w (.slice (some b0) l0.length c0) (.slice (some b1) l1.length c1) (.slice (some b2) l2.length c2) (.slice (some b3) l3.length c3)) 1 #[true, true, true, true, true, true, true, true, true, true, true, true, true, true, true, true, true, false] { tmps := #[.agg #[.slice (some b0) l0.length c0, .slice (some b1) l1.length c1, .slice (some b2) l2.length c2, .slice (some b3) l3.length c3], .pointer (some ⟨w.heap.size, 0, none⟩), .pointer (some ⟨w.heap.size + 1, 0, none⟩), .slice (some ⟨z0, 0, none⟩) 0 0, .pointer (some ⟨w.heap.size, 0, none⟩), .slice (some b0) l0.length c0, .slice a0 l0.length e0, .slice (some ⟨z1, 0, none⟩) 0 0, .pointer (some ⟨w.heap.size, 1, none⟩), .slice (some b1) l1.length c1, .slice a1 l1.length e1, .slice (some ⟨z2, 0, none⟩) 0 0, .pointer (some ⟨w.heap.size, 2, none⟩), .slice (some b2) l2.length c2, .slice a2 l2.length e2, .slice (some ⟨z3, 0, none⟩) 0 0, .pointer (some ⟨w.heap.size, 3, none⟩), .slice (some b3) l3.length c3, .slice a3 l3.length e3, .agg #[.slice a0 l0.length e0, .slice a1 l1.length e1, .slice a2 l2.length e2, .slice a3 l3.length e3]], defers := [] } W
  refine wpAnyH_ready (rs := [17]) (by kernel_rfl) (by simp) ?_
  refine AllReadyH.cons (o := { dst := none, op := Op.store 28 (Operand.tmp 2) (Operand.tmp 19), type := 0, pos := "l01_asn.go:137", after := #[{ on := 16, ground := Ground.data }, { on := 15, ground := Ground.chain }, { on := 0, ground := Ground.phase }, { on := 1, ground := Ground.phase }, { on := 2, ground := Ground.phase }, { on := 3, ground := Ground.phase }, { on := 4, ground := Ground.phase }, { on := 5, ground := Ground.phase }, { on := 6, ground := Ground.phase }, { on := 7, ground := Ground.phase }, { on := 8, ground := Ground.phase }, { on := 9, ground := Ground.phase }, { on := 10, ground := Ground.phase }, { on := 11, ground := Ground.phase }, { on := 12, ground := Ground.phase }, { on := 13, ground := Ground.phase }, { on := 14, ground := Ground.phase }, { on := 15, ground := Ground.phase }, { on := 16, ground := Ground.phase }], guard := none }) rfl (fun K hK => ?_) AllReadyH.nil
  obtain ⟨x0, hx0⟩ := (hS.2.1.2.1 0 (by omega)).1; obtain ⟨x1, hx1⟩ := (hS.2.1.2.1 1 (by omega)).1; obtain ⟨x2, hx2⟩ := (hS.2.1.2.1 2 (by omega)).1; obtain ⟨x3, hx3⟩ := (hS.2.1.2.1 3 (by omega)).1
  have f0 := (hS.2.1.2.1 0 (by omega)).2; have f1 := (hS.2.1.2.1 1 (by omega)).2; have f2 := (hS.2.1.2.1 2 (by omega)).2; have f3 := (hS.2.1.2.1 3 (by omega)).2
  go_simp
  refine hK.out _ _ (ownS_store _ _ _ _ hS) (fun _ => ?_)
  refine wpAnyH_done (by kernel_rfl) ?_ _
  exact hQ W hS z0 z1 z2 z3 a0 e0 m1 t0 g1 k1 a1 e1 m2 t1 g2 k2 a2 e2 m3 t2 g3 k3 a3 e3 m4 t3 g4 k4

set_option maxRecDepth 20000 in
set_option maxHeartbeats 4000000 in
theorem ownp_nd3_3 {b0 b1 b2 b3 : Addr} {c0 c1 c2 c3 : Nat} {l0 l1 l2 l3 : List (Int × Int)} {w : World} {Q : Exit → Act → World → Prop} (n0 : l0.length ≤ 1048576) (n1 : l1.length ≤ 1048576) (n2 : l2.length ≤ 1048576) (n3 : l3.length ≤ 1048576) (o0 : PRow w (some b0) l0) (o1 : PRow w (some b1) l1) (o2 : PRow w (some b2) l2) (o3 : PRow w (some b3) l3)
    (hQ : ∀ (W : World) (hS : ownS w (.slice (some b0) l0.length c0) (.slice (some b1) l1.length c1) (.slice (some b2) l2.length c2) (.slice (some b3) l3.length c3) W) (z0 z1 z2 z3 : Nat) (a0 : Option Addr) (e0 m1 : Nat) (t0 : RoomIn W (w.heap.size + 2) m1 a0 l0.length e0 l0) (g1 : m1 ≤ W.heap.size) (k1 : (w.heap.size + 2) ≤ m1) (a1 : Option Addr) (e1 m2 : Nat) (t1 : RoomIn W m1 m2 a1 l1.length e1 l1) (g2 : m2 ≤ W.heap.size) (k2 : m1 ≤ m2) (a2 : Option Addr) (e2 m3 : Nat) (t2 : RoomIn W m2 m3 a2 l2.length e2 l2) (g3 : m3 ≤ W.heap.size) (k3 : m2 ≤ m3) (a3 : Option Addr) (e3 m4 : Nat) (t3 : RoomIn W m3 m4 a3 l3.length e3 l3) (g4 : m4 ≤ W.heap.size) (k4 : m3 ≤ m4), Q .normal { tmps := #[.agg #[.slice (some b0) l0.length c0, .slice (some b1) l1.length c1, .slice (some b2) l2.length c2, .slice (some b3) l3.length c3], .pointer (some ⟨w.heap.size, 0, none⟩), .pointer (some ⟨w.heap.size + 1, 0, none⟩), .slice (some ⟨z0, 0, none⟩) 0 0, .pointer (some ⟨w.heap.size, 0, none⟩), .slice (some b0) l0.length c0, .slice a0 l0.length e0, .slice (some ⟨z1, 0, none⟩) 0 0, .pointer (some ⟨w.heap.size, 1, none⟩), .slice (some b1) l1.length c1, .slice a1 l1.length e1, .slice (some ⟨z2, 0, none⟩) 0 0, .pointer (some ⟨w.heap.size, 2, none⟩), .slice (some b2) l2.length c2, .slice a2 l2.length e2, .slice (some ⟨z3, 0, none⟩) 0 0, .pointer (some ⟨w.heap.size, 3, none⟩), .slice (some b3) l3.length c3, .slice a3 l3.length e3, .agg #[.slice a0 l0.length e0, .slice a1 l1.length e1, .slice a2 l2.length e2, .slice a3 l3.length e3]], defers := [] } ((((W.setCell ⟨w.heap.size + 1, 0, none⟩ (.slice a0 l0.length e0)).setCell ⟨w.heap.size + 1, 1, none⟩ (.slice a1 l1.length e1)).setCell ⟨w.heap.size + 1, 2, none⟩ (.slice a2 l2.length e2)).setCell ⟨w.heap.size + 1, 3, none⟩ (.slice a3 l3.length e3)))
    (W : World) (hS : ownS w (.slice (some b0) l0.length c0) (.slice (some b1) l1.length c1) (.slice (some b2) l2.length c2) (.slice (some b3) l3.length c3) W) (z0 z1 z2 z3 : Nat) (a0 : Option Addr) (e0 m1 : Nat) (t0 : RoomIn W (w.heap.size + 2) m1 a0 l0.length e0 l0) (g1 : m1 ≤ W.heap.size) (k1 : (w.heap.size + 2) ≤ m1) (a1 : Option Addr) (e1 m2 : Nat) (t1 : RoomIn W m1 m2 a1 l1.length e1 l1) (g2 : m2 ≤ W.heap.size) (k2 : m1 ≤ m2) (a2 : Option Addr) (e2 m3 : Nat) (t2 : RoomIn W m2 m3 a2 l2.length e2 l2) (g3 : m3 ≤ W.heap.size) (k3 : m2 ≤ m3) :
    wpAnyH Try.prog .any ownOps Q (ownS w (.slice (some b0) l0.length c0) (.slice (some b1) l1.length c1) (.slice (some b2) l2.length c2) (.slice (some b3) l3.length c3)) 3 #[true, true, true, true, true, true, true, true, true, true, true, true, true, true, true, false, false, false] { tmps := #[.agg #[.slice (some b0) l0.length c0, .slice (some b1) l1.length c1, .slice (some b2) l2.length c2, .slice (some b3) l3.length c3], .pointer (some ⟨w.heap.size, 0, none⟩), .pointer (some ⟨w.heap.size + 1, 0, none⟩), .slice (some ⟨z0, 0, none⟩) 0 0, .pointer (some ⟨w.heap.size, 0, none⟩), .slice (some b0) l0.length c0, .slice a0 l0.length e0, .slice (some ⟨z1, 0, none⟩) 0 0, .pointer (some ⟨w.heap.size, 1, none⟩), .slice (some b1) l1.length c1, .slice a1 l1.length e1, .slice (some ⟨z2, 0, none⟩) 0 0, .pointer (some ⟨w.heap.size, 2, none⟩), .slice (some b2) l2.length c2, .slice a2 l2.length e2, .slice (some ⟨z3, 0, none⟩) 0 0, .pointer (some ⟨w.heap.size, 3, none⟩), .slice (some b3) l3.length c3, undef, undef], defers := [] } W := by
  refine wpAnyH_ready (rs := [15]) (by kernel_rfl) (by simp) ?_
  refine AllReadyH.cons (o := ownOp15) rfl (fun K hK => ?_) ?_
  · refine step_freshP (by rfl) (Operand.tmp 15) (Operand.tmp 17) (by rfl) z3 b3 l3.length c3 l3 (by rfl) (by rfl) rfl (o3.below hS.1 (Nat.le_refl _)) n3 ?_
    intro a3 e3 W' hr hb
    have hS' := ownS_keep hS hb
    refine hK.out _ _ hS' (fun _ => ?_)
    exact ownp_nd4_n n0 n1 n2 n3 o0 o1 o2 o3 hQ W' hS' z0 z1 z2 z3 a0 e0 m1 (t0.below hb g1) (Nat.le_trans g1 hb.size) k1 a1 e1 m2 (t1.below hb g2) (Nat.le_trans g2 hb.size) k2 a2 e2 m3 (t2.below hb g3) (Nat.le_trans g3 hb.size) k3 a3 e3 W'.heap.size (hr.mono g3 (Nat.le_refl _)) (Nat.le_refl _) (Nat.le_trans g3 hb.size)
  exact AllReadyH.nil

set_option maxRecDepth 20000 in
set_option maxHeartbeats 4000000 in
theorem ownp_nd3_n {b0 b1 b2 b3 : Addr} {c0 c1 c2 c3 : Nat} {l0 l1 l2 l3 : List (Int × Int)} {w : World} {Q : Exit → Act → World → Prop} (n0 : l0.length ≤ 1048576) (n1 : l1.length ≤ 1048576) (n2 : l2.length ≤ 1048576) (n3 : l3.length ≤ 1048576) (o0 : PRow w (some b0) l0) (o1 : PRow w (some b1) l1) (o2 : PRow w (some b2) l2) (o3 : PRow w (some b3) l3)
    (hQ : ∀ (W : World) (hS : ownS w (.slice (some b0) l0.length c0) (.slice (some b1) l1.length c1) (.slice (some b2) l2.length c2) (.slice (some b3) l3.length c3) W) (z0 z1 z2 z3 : Nat) (a0 : Option Addr) (e0 m1 : Nat) (t0 : RoomIn W (w.heap.size + 2) m1 a0 l0.length e0 l0) (g1 : m1 ≤ W.heap.size) (k1 : (w.heap.size + 2) ≤ m1) (a1 : Option Addr) (e1 m2 : Nat) (t1 : RoomIn W m1 m2 a1 l1.length e1 l1) (g2 : m2 ≤ W.heap.size) (k2 : m1 ≤ m2) (a2 : Option Addr) (e2 m3 : Nat) (t2 : RoomIn W m2 m3 a2 l2.length e2 l2) (g3 : m3 ≤ W.heap.size) (k3 : m2 ≤ m3) (a3 : Option Addr) (e3 m4 : Nat) (t3 : RoomIn W m3 m4 a3 l3.length e3 l3) (g4 : m4 ≤ W.heap.size) (k4 : m3 ≤ m4), Q .normal { tmps := #[.agg #[.slice (some b0) l0.length c0, .slice (some b1) l1.length c1, .slice (some b2) l2.length c2, .slice (some b3) l3.length c3], .pointer (some ⟨w.heap.size, 0, none⟩), .pointer (some ⟨w.heap.size + 1, 0, none⟩), .slice (some ⟨z0, 0, none⟩) 0 0, .pointer (some ⟨w.heap.size, 0, none⟩), .slice (some b0) l0.length c0, .slice a0 l0.length e0, .slice (some ⟨z1, 0, none⟩) 0 0, .pointer (some ⟨w.heap.size, 1, none⟩), .slice (some b1) l1.length c1, .slice a1 l1.length e1, .slice (some ⟨z2, 0, none⟩) 0 0, .pointer (some ⟨w.heap.size, 2, none⟩), .slice (some b2) l2.length c2, .slice a2 l2.length e2, .slice (some ⟨z3, 0, none⟩) 0 0, .pointer (some ⟨w.heap.size, 3, none⟩), .slice (some b3) l3.length c3, .slice a3 l3.length e3, .agg #[.slice a0 l0.length e0, .slice a1 l1.length e1, .slice a2 l2.length e2, .slice a3 l3.length e3]], defers := [] } ((((W.setCell ⟨w.heap.size + 1, 0, none⟩ (.slice a0 l0.length e0)).setCell ⟨w.heap.size + 1, 1, none⟩ (.slice a1 l1.length e1)).setCell ⟨w.heap.size + 1, 2, none⟩ (.slice a2 l2.length e2)).setCell ⟨w.heap.size + 1, 3, none⟩ (.slice a3 l3.length e3)))
    (W : World) (hS : ownS w (.slice (some b0) l0.length c0) (.slice (some b1) l1.length c1) (.slice (some b2) l2.length c2) (.slice (some b3) l3.length c3) W) (z0 z1 z2 : Nat) (a0 : Option Addr) (e0 m1 : Nat) (t0 : RoomIn W (w.heap.size + 2) m1 a0 l0.length e0 l0) (g1 : m1 ≤ W.heap.size) (k1 : (w.heap.size + 2) ≤ m1) (a1 : Option Addr) (e1 m2 : Nat) (t1 : RoomIn W m1 m2 a1 l1.length e1 l1) (g2 : m2 ≤ W.heap.size) (k2 : m1 ≤ m2) (a2 : Option Addr) (e2 m3 : Nat) (t2 : RoomIn W m2 m3 a2 l2.length e2 l2) (g3 : m3 ≤ W.heap.size) (k3 : m2 ≤ m3) :
    wpAnyH Try.prog .any ownOps Q (ownS w (.slice (some b0) l0.length c0) (.slice (some b1) l1.length c1) (.slice (some b2) l2.length c2) (.slice (some b3) l3.length c3)) 4 #[true, true, true, true, true, true, true, true, true, true, true, true, false, true, true, false, false, false] { tmps := #[.agg #[.slice (some b0) l0.length c0, .slice (some b1) l1.length c1, .slice (some b2) l2.length c2, .slice (some b3) l3.length c3], .pointer (some ⟨w.heap.size, 0, none⟩), .pointer (some ⟨w.heap.size + 1, 0, none⟩), .slice (some ⟨z0, 0, none⟩) 0 0, .pointer (some ⟨w.heap.size, 0, none⟩), .slice (some b0) l0.length c0, .slice a0 l0.length e0, .slice (some ⟨z1, 0, none⟩) 0 0, .pointer (some ⟨w.heap.size, 1, none⟩), .slice (some b1) l1.length c1, .slice a1 l1.length e1, .slice (some ⟨z2, 0, none⟩) 0 0, .pointer (some ⟨w.heap.size, 2, none⟩), .slice (some b2) l2.length c2, .slice a2 l2.length e2, undef, .pointer (some ⟨w.heap.size, 3, none⟩), .slice (some b3) l3.length c3, undef, undef], defers := [] } W := by
  refine wpAnyH_ready (rs := [12]) (by kernel_rfl) (by simp) ?_
  refine AllReadyH.cons (o := ownOp12) rfl (fun K hK => ?_) ?_
  · refine step_lit (by rfl) (by rfl) ?_
    intro z3 W' hb
    have hS' := ownS_keep hS hb
    refine hK.out _ _ hS' (fun _ => ?_)
    exact ownp_nd3_3 n0 n1 n2 n3 o0 o1 o2 o3 hQ W' hS' z0 z1 z2 z3 a0 e0 m1 (t0.below hb g1) (Nat.le_trans g1 hb.size) k1 a1 e1 m2 (t1.below hb g2) (Nat.le_trans g2 hb.size) k2 a2 e2 m3 (t2.below hb g3) (Nat.le_trans g3 hb.size) k3
  exact AllReadyH.nil

set_option maxRecDepth 20000 in
set_option maxHeartbeats 4000000 in
theorem ownp_nd2_23 {b0 b1 b2 b3 : Addr} {c0 c1 c2 c3 : Nat} {l0 l1 l2 l3 : List (Int × Int)} {w : World} {Q : Exit → Act → World → Prop} (n0 : l0.length ≤ 1048576) (n1 : l1.length ≤ 1048576) (n2 : l2.length ≤ 1048576) (n3 : l3.length ≤ 1048576) (o0 : PRow w (some b0) l0) (o1 : PRow w (some b1) l1) (o2 : PRow w (some b2) l2) (o3 : PRow w (some b3) l3)
    (hQ : ∀ (W : World) (hS : ownS w (.slice (some b0) l0.length c0) (.slice (some b1) l1.length c1) (.slice (some b2) l2.length c2) (.slice (some b3) l3.length c3) W) (z0 z1 z2 z3 : Nat) (a0 : Option Addr) (e0 m1 : Nat) (t0 : RoomIn W (w.heap.size + 2) m1 a0 l0.length e0 l0) (g1 : m1 ≤ W.heap.size) (k1 : (w.heap.size + 2) ≤ m1) (a1 : Option Addr) (e1 m2 : Nat) (t1 : RoomIn W m1 m2 a1 l1.length e1 l1) (g2 : m2 ≤ W.heap.size) (k2 : m1 ≤ m2) (a2 : Option Addr) (e2 m3 : Nat) (t2 : RoomIn W m2 m3 a2 l2.length e2 l2) (g3 : m3 ≤ W.heap.size) (k3 : m2 ≤ m3) (a3 : Option Addr) (e3 m4 : Nat) (t3 : RoomIn W m3 m4 a3 l3.length e3 l3) (g4 : m4 ≤ W.heap.size) (k4 : m3 ≤ m4), Q .normal { tmps := #[.agg #[.slice (some b0) l0.length c0, .slice (some b1) l1.length c1, .slice (some b2) l2.length c2, .slice (some b3) l3.length c3], .pointer (some ⟨w.heap.size, 0, none⟩), .pointer (some ⟨w.heap.size + 1, 0, none⟩), .slice (some ⟨z0, 0, none⟩) 0 0, .pointer (some ⟨w.heap.size, 0, none⟩), .slice (some b0) l0.length c0, .slice a0 l0.length e0, .slice (some ⟨z1, 0, none⟩) 0 0, .pointer (some ⟨w.heap.size, 1, none⟩), .slice (some b1) l1.length c1, .slice a1 l1.length e1, .slice (some ⟨z2, 0, none⟩) 0 0, .pointer (some ⟨w.heap.size, 2, none⟩), .slice (some b2) l2.length c2, .slice a2 l2.length e2, .slice (some ⟨z3, 0, none⟩) 0 0, .pointer (some ⟨w.heap.size, 3, none⟩), .slice (some b3) l3.length c3, .slice a3 l3.length e3, .agg #[.slice a0 l0.length e0, .slice a1 l1.length e1, .slice a2 l2.length e2, .slice a3 l3.length e3]], defers := [] } ((((W.setCell ⟨w.heap.size + 1, 0, none⟩ (.slice a0 l0.length e0)).setCell ⟨w.heap.size + 1, 1, none⟩ (.slice a1 l1.length e1)).setCell ⟨w.heap.size + 1, 2, none⟩ (.slice a2 l2.length e2)).setCell ⟨w.heap.size + 1, 3, none⟩ (.slice a3 l3.length e3)))
    (W : World) (hS : ownS w (.slice (some b0) l0.length c0) (.slice (some b1) l1.length c1) (.slice (some b2) l2.length c2) (.slice (some b3) l3.length c3) W) (z0 z1 z2 z3 : Nat) (a0 : Option Addr) (e0 m1 : Nat) (t0 : RoomIn W (w.heap.size + 2) m1 a0 l0.length e0 l0) (g1 : m1 ≤ W.heap.size) (k1 : (w.heap.size + 2) ≤ m1) (a1 : Option Addr) (e1 m2 : Nat) (t1 : RoomIn W m1 m2 a1 l1.length e1 l1) (g2 : m2 ≤ W.heap.size) (k2 : m1 ≤ m2) :
    wpAnyH Try.prog .any ownOps Q (ownS w (.slice (some b0) l0.length c0) (.slice (some b1) l1.length c1) (.slice (some b2) l2.length c2) (.slice (some b3) l3.length c3)) 4 #[true, true, true, true, true, true, true, true, true, true, true, false, true, true, true, false, false, false] { tmps := #[.agg #[.slice (some b0) l0.length c0, .slice (some b1) l1.length c1, .slice (some b2) l2.length c2, .slice (some b3) l3.length c3], .pointer (some ⟨w.heap.size, 0, none⟩), .pointer (some ⟨w.heap.size + 1, 0, none⟩), .slice (some ⟨z0, 0, none⟩) 0 0, .pointer (some ⟨w.heap.size, 0, none⟩), .slice (some b0) l0.length c0, .slice a0 l0.length e0, .slice (some ⟨z1, 0, none⟩) 0 0, .pointer (some ⟨w.heap.size, 1, none⟩), .slice (some b1) l1.length c1, .slice a1 l1.length e1, .slice (some ⟨z2, 0, none⟩) 0 0, .pointer (some ⟨w.heap.size, 2, none⟩), .slice (some b2) l2.length c2, undef, .slice (some ⟨z3, 0, none⟩) 0 0, .pointer (some ⟨w.heap.size, 3, none⟩), .slice (some b3) l3.length c3, undef, undef], defers := [] } W := by
  refine wpAnyH_ready (rs := [11]) (by kernel_rfl) (by simp) ?_
  refine AllReadyH.cons (o := ownOp11) rfl (fun K hK => ?_) ?_
  · refine step_freshP (by rfl) (Operand.tmp 11) (Operand.tmp 13) (by rfl) z2 b2 l2.length c2 l2 (by rfl) (by rfl) rfl (o2.below hS.1 (Nat.le_refl _)) n2 ?_
    intro a2 e2 W' hr hb
    have hS' := ownS_keep hS hb
    refine hK.out _ _ hS' (fun _ => ?_)
    exact ownp_nd3_3 n0 n1 n2 n3 o0 o1 o2 o3 hQ W' hS' z0 z1 z2 z3 a0 e0 m1 (t0.below hb g1) (Nat.le_trans g1 hb.size) k1 a1 e1 m2 (t1.below hb g2) (Nat.le_trans g2 hb.size) k2 a2 e2 W'.heap.size (hr.mono g2 (Nat.le_refl _)) (Nat.le_refl _) (Nat.le_trans g2 hb.size)
  exact AllReadyH.nil

set_option maxRecDepth 20000 in
set_option maxHeartbeats 4000000 in
theorem ownp_nd2_2 {b0 b1 b2 b3 : Addr} {c0 c1 c2 c3 : Nat} {l0 l1 l2 l3 : List (Int × Int)} {w : World} {Q : Exit → Act → World → Prop} (n0 : l0.length ≤ 1048576) (n1 : l1.length ≤ 1048576) (n2 : l2.length ≤ 1048576) (n3 : l3.length ≤ 1048576) (o0 : PRow w (some b0) l0) (o1 : PRow w (some b1) l1) (o2 : PRow w (some b2) l2) (o3 : PRow w (some b3) l3)
    (hQ : ∀ (W : World) (hS : ownS w (.slice (some b0) l0.length c0) (.slice (some b1) l1.length c1) (.slice (some b2) l2.length c2) (.slice (some b3) l3.length c3) W) (z0 z1 z2 z3 : Nat) (a0 : Option Addr) (e0 m1 : Nat) (t0 : RoomIn W (w.heap.size + 2) m1 a0 l0.length e0 l0) (g1 : m1 ≤ W.heap.size) (k1 : (w.heap.size + 2) ≤ m1) (a1 : Option Addr) (e1 m2 : Nat) (t1 : RoomIn W m1 m2 a1 l1.length e1 l1) (g2 : m2 ≤ W.heap.size) (k2 : m1 ≤ m2) (a2 : Option Addr) (e2 m3 : Nat) (t2 : RoomIn W m2 m3 a2 l2.length e2 l2) (g3 : m3 ≤ W.heap.size) (k3 : m2 ≤ m3) (a3 : Option Addr) (e3 m4 : Nat) (t3 : RoomIn W m3 m4 a3 l3.length e3 l3) (g4 : m4 ≤ W.heap.size) (k4 : m3 ≤ m4), Q .normal { tmps := #[.agg #[.slice (some b0) l0.length c0, .slice (some b1) l1.length c1, .slice (some b2) l2.length c2, .slice (some b3) l3.length c3], .pointer (some ⟨w.heap.size, 0, none⟩), .pointer (some ⟨w.heap.size + 1, 0, none⟩), .slice (some ⟨z0, 0, none⟩) 0 0, .pointer (some ⟨w.heap.size, 0, none⟩), .slice (some b0) l0.length c0, .slice a0 l0.length e0, .slice (some ⟨z1, 0, none⟩) 0 0, .pointer (some ⟨w.heap.size, 1, none⟩), .slice (some b1) l1.length c1, .slice a1 l1.length e1, .slice (some ⟨z2, 0, none⟩) 0 0, .pointer (some ⟨w.heap.size, 2, none⟩), .slice (some b2) l2.length c2, .slice a2 l2.length e2, .slice (some ⟨z3, 0, none⟩) 0 0, .pointer (some ⟨w.heap.size, 3, none⟩), .slice (some b3) l3.length c3, .slice a3 l3.length e3, .agg #[.slice a0 l0.length e0, .slice a1 l1.length e1, .slice a2 l2.length e2, .slice a3 l3.length e3]], defers := [] } ((((W.setCell ⟨w.heap.size + 1, 0, none⟩ (.slice a0 l0.length e0)).setCell ⟨w.heap.size + 1, 1, none⟩ (.slice a1 l1.length e1)).setCell ⟨w.heap.size + 1, 2, none⟩ (.slice a2 l2.length e2)).setCell ⟨w.heap.size + 1, 3, none⟩ (.slice a3 l3.length e3)))
    (W : World) (hS : ownS w (.slice (some b0) l0.length c0) (.slice (some b1) l1.length c1) (.slice (some b2) l2.length c2) (.slice (some b3) l3.length c3) W) (z0 z1 z2 : Nat) (a0 : Option Addr) (e0 m1 : Nat) (t0 : RoomIn W (w.heap.size + 2) m1 a0 l0.length e0 l0) (g1 : m1 ≤ W.heap.size) (k1 : (w.heap.size + 2) ≤ m1) (a1 : Option Addr) (e1 m2 : Nat) (t1 : RoomIn W m1 m2 a1 l1.length e1 l1) (g2 : m2 ≤ W.heap.size) (k2 : m1 ≤ m2) :
    wpAnyH Try.prog .any ownOps Q (ownS w (.slice (some b0) l0.length c0) (.slice (some b1) l1.length c1) (.slice (some b2) l2.length c2) (.slice (some b3) l3.length c3)) 5 #[true, true, true, true, true, true, true, true, true, true, true, false, false, true, true, false, false, false] { tmps := #[.agg #[.slice (some b0) l0.length c0, .slice (some b1) l1.length c1, .slice (some b2) l2.length c2, .slice (some b3) l3.length c3], .pointer (some ⟨w.heap.size, 0, none⟩), .pointer (some ⟨w.heap.size + 1, 0, none⟩), .slice (some ⟨z0, 0, none⟩) 0 0, .pointer (some ⟨w.heap.size, 0, none⟩), .slice (some b0) l0.length c0, .slice a0 l0.length e0, .slice (some ⟨z1, 0, none⟩) 0 0, .pointer (some ⟨w.heap.size, 1, none⟩), .slice (some b1) l1.length c1, .slice a1 l1.length e1, .slice (some ⟨z2, 0, none⟩) 0 0, .pointer (some ⟨w.heap.size, 2, none⟩), .slice (some b2) l2.length c2, undef, undef, .pointer (some ⟨w.heap.size, 3, none⟩), .slice (some b3) l3.length c3, undef, undef], defers := [] } W := by
  refine wpAnyH_ready (rs := [11, 12]) (by kernel_rfl) (by simp) ?_
  refine AllReadyH.cons (o := ownOp11) rfl (fun K hK => ?_) ?_
  · refine step_freshP (by rfl) (Operand.tmp 11) (Operand.tmp 13) (by rfl) z2 b2 l2.length c2 l2 (by rfl) (by rfl) rfl (o2.below hS.1 (Nat.le_refl _)) n2 ?_
    intro a2 e2 W' hr hb
    have hS' := ownS_keep hS hb
    refine hK.out _ _ hS' (fun _ => ?_)
    exact ownp_nd3_n n0 n1 n2 n3 o0 o1 o2 o3 hQ W' hS' z0 z1 z2 a0 e0 m1 (t0.below hb g1) (Nat.le_trans g1 hb.size) k1 a1 e1 m2 (t1.below hb g2) (Nat.le_trans g2 hb.size) k2 a2 e2 W'.heap.size (hr.mono g2 (Nat.le_refl _)) (Nat.le_refl _) (Nat.le_trans g2 hb.size)
  refine AllReadyH.cons (o := ownOp12) rfl (fun K hK => ?_) ?_
  · refine step_lit (by rfl) (by rfl) ?_
    intro z3 W' hb
    have hS' := ownS_keep hS hb
    refine hK.out _ _ hS' (fun _ => ?_)
    exact ownp_nd2_23 n0 n1 n2 n3 o0 o1 o2 o3 hQ W' hS' z0 z1 z2 z3 a0 e0 m1 (t0.below hb g1) (Nat.le_trans g1 hb.size) k1 a1 e1 m2 (t1.below hb g2) (Nat.le_trans g2 hb.size) k2
  exact AllReadyH.nil

set_option maxRecDepth 20000 in
set_option maxHeartbeats 4000000 in
theorem ownp_nd2_3 {b0 b1 b2 b3 : Addr} {c0 c1 c2 c3 : Nat} {l0 l1 l2 l3 : List (Int × Int)} {w : World} {Q : Exit → Act → World → Prop} (n0 : l0.length ≤ 1048576) (n1 : l1.length ≤ 1048576) (n2 : l2.length ≤ 1048576) (n3 : l3.length ≤ 1048576) (o0 : PRow w (some b0) l0) (o1 : PRow w (some b1) l1) (o2 : PRow w (some b2) l2) (o3 : PRow w (some b3) l3)
    (hQ : ∀ (W : World) (hS : ownS w (.slice (some b0) l0.length c0) (.slice (some b1) l1.length c1) (.slice (some b2) l2.length c2) (.slice (some b3) l3.length c3) W) (z0 z1 z2 z3 : Nat) (a0 : Option Addr) (e0 m1 : Nat) (t0 : RoomIn W (w.heap.size + 2) m1 a0 l0.length e0 l0) (g1 : m1 ≤ W.heap.size) (k1 : (w.heap.size + 2) ≤ m1) (a1 : Option Addr) (e1 m2 : Nat) (t1 : RoomIn W m1 m2 a1 l1.length e1 l1) (g2 : m2 ≤ W.heap.size) (k2 : m1 ≤ m2) (a2 : Option Addr) (e2 m3 : Nat) (t2 : RoomIn W m2 m3 a2 l2.length e2 l2) (g3 : m3 ≤ W.heap.size) (k3 : m2 ≤ m3) (a3 : Option Addr) (e3 m4 : Nat) (t3 : RoomIn W m3 m4 a3 l3.length e3 l3) (g4 : m4 ≤ W.heap.size) (k4 : m3 ≤ m4), Q .normal { tmps := #[.agg #[.slice (some b0) l0.length c0, .slice (some b1) l1.length c1, .slice (some b2) l2.length c2, .slice (some b3) l3.length c3], .pointer (some ⟨w.heap.size, 0, none⟩), .pointer (some ⟨w.heap.size + 1, 0, none⟩), .slice (some ⟨z0, 0, none⟩) 0 0, .pointer (some ⟨w.heap.size, 0, none⟩), .slice (some b0) l0.length c0, .slice a0 l0.length e0, .slice (some ⟨z1, 0, none⟩) 0 0, .pointer (some ⟨w.heap.size, 1, none⟩), .slice (some b1) l1.length c1, .slice a1 l1.length e1, .slice (some ⟨z2, 0, none⟩) 0 0, .pointer (some ⟨w.heap.size, 2, none⟩), .slice (some b2) l2.length c2, .slice a2 l2.length e2, .slice (some ⟨z3, 0, none⟩) 0 0, .pointer (some ⟨w.heap.size, 3, none⟩), .slice (some b3) l3.length c3, .slice a3 l3.length e3, .agg #[.slice a0 l0.length e0, .slice a1 l1.length e1, .slice a2 l2.length e2, .slice a3 l3.length e3]], defers := [] } ((((W.setCell ⟨w.heap.size + 1, 0, none⟩ (.slice a0 l0.length e0)).setCell ⟨w.heap.size + 1, 1, none⟩ (.slice a1 l1.length e1)).setCell ⟨w.heap.size + 1, 2, none⟩ (.slice a2 l2.length e2)).setCell ⟨w.heap.size + 1, 3, none⟩ (.slice a3 l3.length e3)))
    (W : World) (hS : ownS w (.slice (some b0) l0.length c0) (.slice (some b1) l1.length c1) (.slice (some b2) l2.length c2) (.slice (some b3) l3.length c3) W) (z0 z1 z3 : Nat) (a0 : Option Addr) (e0 m1 : Nat) (t0 : RoomIn W (w.heap.size + 2) m1 a0 l0.length e0 l0) (g1 : m1 ≤ W.heap.size) (k1 : (w.heap.size + 2) ≤ m1) (a1 : Option Addr) (e1 m2 : Nat) (t1 : RoomIn W m1 m2 a1 l1.length e1 l1) (g2 : m2 ≤ W.heap.size) (k2 : m1 ≤ m2) :
    wpAnyH Try.prog .any ownOps Q (ownS w (.slice (some b0) l0.length c0) (.slice (some b1) l1.length c1) (.slice (some b2) l2.length c2) (.slice (some b3) l3.length c3)) 5 #[true, true, true, true, true, true, true, true, false, true, true, false, true, true, true, false, false, false] { tmps := #[.agg #[.slice (some b0) l0.length c0, .slice (some b1) l1.length c1, .slice (some b2) l2.length c2, .slice (some b3) l3.length c3], .pointer (some ⟨w.heap.size, 0, none⟩), .pointer (some ⟨w.heap.size + 1, 0, none⟩), .slice (some ⟨z0, 0, none⟩) 0 0, .pointer (some ⟨w.heap.size, 0, none⟩), .slice (some b0) l0.length c0, .slice a0 l0.length e0, .slice (some ⟨z1, 0, none⟩) 0 0, .pointer (some ⟨w.heap.size, 1, none⟩), .slice (some b1) l1.length c1, .slice a1 l1.length e1, undef, .pointer (some ⟨w.heap.size, 2, none⟩), .slice (some b2) l2.length c2, undef, .slice (some ⟨z3, 0, none⟩) 0 0, .pointer (some ⟨w.heap.size, 3, none⟩), .slice (some b3) l3.length c3, undef, undef], defers := [] } W := by
  refine wpAnyH_ready (rs := [8]) (by kernel_rfl) (by simp) ?_
  refine AllReadyH.cons (o := ownOp8) rfl (fun K hK => ?_) ?_
  · refine step_lit (by rfl) (by rfl) ?_
    intro z2 W' hb
    have hS' := ownS_keep hS hb
    refine hK.out _ _ hS' (fun _ => ?_)
    exact ownp_nd2_23 n0 n1 n2 n3 o0 o1 o2 o3 hQ W' hS' z0 z1 z2 z3 a0 e0 m1 (t0.below hb g1) (Nat.le_trans g1 hb.size) k1 a1 e1 m2 (t1.below hb g2) (Nat.le_trans g2 hb.size) k2
  exact AllReadyH.nil

set_option maxRecDepth 20000 in
set_option maxHeartbeats 4000000 in
theorem ownp_nd2_n {b0 b1 b2 b3 : Addr} {c0 c1 c2 c3 : Nat} {l0 l1 l2 l3 : List (Int × Int)} {w : World} {Q : Exit → Act → World → Prop} (n0 : l0.length ≤ 1048576) (n1 : l1.length ≤ 1048576) (n2 : l2.length ≤ 1048576) (n3 : l3.length ≤ 1048576) (o0 : PRow w (some b0) l0) (o1 : PRow w (some b1) l1) (o2 : PRow w (some b2) l2) (o3 : PRow w (some b3) l3)
    (hQ : ∀ (W : World) (hS : ownS w (.slice (some b0) l0.length c0) (.slice (some b1) l1.length c1) (.slice (some b2) l2.length c2) (.slice (some b3) l3.length c3) W) (z0 z1 z2 z3 : Nat) (a0 : Option Addr) (e0 m1 : Nat) (t0 : RoomIn W (w.heap.size + 2) m1 a0 l0.length e0 l0) (g1 : m1 ≤ W.heap.size) (k1 : (w.heap.size + 2) ≤ m1) (a1 : Option Addr) (e1 m2 : Nat) (t1 : RoomIn W m1 m2 a1 l1.length e1 l1) (g2 : m2 ≤ W.heap.size) (k2 : m1 ≤ m2) (a2 : Option Addr) (e2 m3 : Nat) (t2 : RoomIn W m2 m3 a2 l2.length e2 l2) (g3 : m3 ≤ W.heap.size) (k3 : m2 ≤ m3) (a3 : Option Addr) (e3 m4 : Nat) (t3 : RoomIn W m3 m4 a3 l3.length e3 l3) (g4 : m4 ≤ W.heap.size) (k4 : m3 ≤ m4), Q .normal { tmps := #[.agg #[.slice (some b0) l0.length c0, .slice (some b1) l1.length c1, .slice (some b2) l2.length c2, .slice (some b3) l3.length c3], .pointer (some ⟨w.heap.size, 0, none⟩), .pointer (some ⟨w.heap.size + 1, 0, none⟩), .slice (some ⟨z0, 0, none⟩) 0 0, .pointer (some ⟨w.heap.size, 0, none⟩), .slice (some b0) l0.length c0, .slice a0 l0.length e0, .slice (some ⟨z1, 0, none⟩) 0 0, .pointer (some ⟨w.heap.size, 1, none⟩), .slice (some b1) l1.length c1, .slice a1 l1.length e1, .slice (some ⟨z2, 0, none⟩) 0 0, .pointer (some ⟨w.heap.size, 2, none⟩), .slice (some b2) l2.length c2, .slice a2 l2.length e2, .slice (some ⟨z3, 0, none⟩) 0 0, .pointer (some ⟨w.heap.size, 3, none⟩), .slice (some b3) l3.length c3, .slice a3 l3.length e3, .agg #[.slice a0 l0.length e0, .slice a1 l1.length e1, .slice a2 l2.length e2, .slice a3 l3.length e3]], defers := [] } ((((W.setCell ⟨w.heap.size + 1, 0, none⟩ (.slice a0 l0.length e0)).setCell ⟨w.heap.size + 1, 1, none⟩ (.slice a1 l1.length e1)).setCell ⟨w.heap.size + 1, 2, none⟩ (.slice a2 l2.length e2)).setCell ⟨w.heap.size + 1, 3, none⟩ (.slice a3 l3.length e3)))
    (W : World) (hS : ownS w (.slice (some b0) l0.length c0) (.slice (some b1) l1.length c1) (.slice (some b2) l2.length c2) (.slice (some b3) l3.length c3) W) (z0 z1 : Nat) (a0 : Option Addr) (e0 m1 : Nat) (t0 : RoomIn W (w.heap.size + 2) m1 a0 l0.length e0 l0) (g1 : m1 ≤ W.heap.size) (k1 : (w.heap.size + 2) ≤ m1) (a1 : Option Addr) (e1 m2 : Nat) (t1 : RoomIn W m1 m2 a1 l1.length e1 l1) (g2 : m2 ≤ W.heap.size) (k2 : m1 ≤ m2) :
    wpAnyH Try.prog .any ownOps Q (ownS w (.slice (some b0) l0.length c0) (.slice (some b1) l1.length c1) (.slice (some b2) l2.length c2) (.slice (some b3) l3.length c3)) 6 #[true, true, true, true, true, true, true, true, false, true, true, false, false, true, true, false, false, false] { tmps := #[.agg #[.slice (some b0) l0.length c0, .slice (some b1) l1.length c1, .slice (some b2) l2.length c2, .slice (some b3) l3.length c3], .pointer (some ⟨w.heap.size, 0, none⟩), .pointer (some ⟨w.heap.size + 1, 0, none⟩), .slice (some ⟨z0, 0, none⟩) 0 0, .pointer (some ⟨w.heap.size, 0, none⟩), .slice (some b0) l0.length c0, .slice a0 l0.length e0, .slice (some ⟨z1, 0, none⟩) 0 0, .pointer (some ⟨w.heap.size, 1, none⟩), .slice (some b1) l1.length c1, .slice a1 l1.length e1, undef, .pointer (some ⟨w.heap.size, 2, none⟩), .slice (some b2) l2.length c2, undef, undef, .pointer (some ⟨w.heap.size, 3, none⟩), .slice (some b3) l3.length c3, undef, undef], defers := [] } W := by
  refine wpAnyH_ready (rs := [8, 12]) (by kernel_rfl) (by simp) ?_
  refine AllReadyH.cons (o := ownOp8) rfl (fun K hK => ?_) ?_
  · refine step_lit (by rfl) (by rfl) ?_
    intro z2 W' hb
    have hS' := ownS_keep hS hb
    refine hK.out _ _ hS' (fun _ => ?_)
    exact ownp_nd2_2 n0 n1 n2 n3 o0 o1 o2 o3 hQ W' hS' z0 z1 z2 a0 e0 m1 (t0.below hb g1) (Nat.le_trans g1 hb.size) k1 a1 e1 m2 (t1.below hb g2) (Nat.le_trans g2 hb.size) k2
  refine AllReadyH.cons (o := ownOp12) rfl (fun K hK => ?_) ?_
  · refine step_lit (by rfl) (by rfl) ?_
    intro z3 W' hb
    have hS' := ownS_keep hS hb
    refine hK.out _ _ hS' (fun _ => ?_)
    exact ownp_nd2_3 n0 n1 n2 n3 o0 o1 o2 o3 hQ W' hS' z0 z1 z3 a0 e0 m1 (t0.below hb g1) (Nat.le_trans g1 hb.size) k1 a1 e1 m2 (t1.below hb g2) (Nat.le_trans g2 hb.size) k2
  exact AllReadyH.nil

set_option maxRecDepth 20000 in
set_option maxHeartbeats 4000000 in
theorem ownp_nd1_123 {b0 b1 b2 b3 : Addr} {c0 c1 c2 c3 : Nat} {l0 l1 l2 l3 : List (Int × Int)} {w : World} {Q : Exit → Act → World → Prop} (n0 : l0.length ≤ 1048576) (n1 : l1.length ≤ 1048576) (n2 : l2.length ≤ 1048576) (n3 : l3.length ≤ 1048576) (o0 : PRow w (some b0) l0) (o1 : PRow w (some b1) l1) (o2 : PRow w (some b2) l2) (o3 : PRow w (some b3) l3)
    (hQ : ∀ (W : World) (hS : ownS w (.slice (some b0) l0.length c0) (.slice (some b1) l1.length c1) (.slice (some b2) l2.length c2) (.slice (some b3) l3.length c3) W) (z0 z1 z2 z3 : Nat) (a0 : Option Addr) (e0 m1 : Nat) (t0 : RoomIn W (w.heap.size + 2) m1 a0 l0.length e0 l0) (g1 : m1 ≤ W.heap.size) (k1 : (w.heap.size + 2) ≤ m1) (a1 : Option Addr) (e1 m2 : Nat) (t1 : RoomIn W m1 m2 a1 l1.length e1 l1) (g2 : m2 ≤ W.heap.size) (k2 : m1 ≤ m2) (a2 : Option Addr) (e2 m3 : Nat) (t2 : RoomIn W m2 m3 a2 l2.length e2 l2) (g3 : m3 ≤ W.heap.size) (k3 : m2 ≤ m3) (a3 : Option Addr) (e3 m4 : Nat) (t3 : RoomIn W m3 m4 a3 l3.length e3 l3) (g4 : m4 ≤ W.heap.size) (k4 : m3 ≤ m4), Q .normal { tmps := #[.agg #[.slice (some b0) l0.length c0, .slice (some b1) l1.length c1, .slice (some b2) l2.length c2, .slice (some b3) l3.length c3], .pointer (some ⟨w.heap.size, 0, none⟩), .pointer (some ⟨w.heap.size + 1, 0, none⟩), .slice (some ⟨z0, 0, none⟩) 0 0, .pointer (some ⟨w.heap.size, 0, none⟩), .slice (some b0) l0.length c0, .slice a0 l0.length e0, .slice (some ⟨z1, 0, none⟩) 0 0, .pointer (some ⟨w.heap.size, 1, none⟩), .slice (some b1) l1.length c1, .slice a1 l1.length e1, .slice (some ⟨z2, 0, none⟩) 0 0, .pointer (some ⟨w.heap.size, 2, none⟩), .slice (some b2) l2.length c2, .slice a2 l2.length e2, .slice (some ⟨z3, 0, none⟩) 0 0, .pointer (some ⟨w.heap.size, 3, none⟩), .slice (some b3) l3.length c3, .slice a3 l3.length e3, .agg #[.slice a0 l0.length e0, .slice a1 l1.length e1, .slice a2 l2.length e2, .slice a3 l3.length e3]], defers := [] } ((((W.setCell ⟨w.heap.size + 1, 0, none⟩ (.slice a0 l0.length e0)).setCell ⟨w.heap.size + 1, 1, none⟩ (.slice a1 l1.length e1)).setCell ⟨w.heap.size + 1, 2, none⟩ (.slice a2 l2.length e2)).setCell ⟨w.heap.size + 1, 3, none⟩ (.slice a3 l3.length e3)))
    (W : World) (hS : ownS w (.slice (some b0) l0.length c0) (.slice (some b1) l1.length c1) (.slice (some b2) l2.length c2) (.slice (some b3) l3.length c3) W) (z0 z1 z2 z3 : Nat) (a0 : Option Addr) (e0 m1 : Nat) (t0 : RoomIn W (w.heap.size + 2) m1 a0 l0.length e0 l0) (g1 : m1 ≤ W.heap.size) (k1 : (w.heap.size + 2) ≤ m1) :
    wpAnyH Try.prog .any ownOps Q (ownS w (.slice (some b0) l0.length c0) (.slice (some b1) l1.length c1) (.slice (some b2) l2.length c2) (.slice (some b3) l3.length c3)) 5 #[true, true, true, true, true, true, true, false, true, true, true, false, true, true, true, false, false, false] { tmps := #[.agg #[.slice (some b0) l0.length c0, .slice (some b1) l1.length c1, .slice (some b2) l2.length c2, .slice (some b3) l3.length c3], .pointer (some ⟨w.heap.size, 0, none⟩), .pointer (some ⟨w.heap.size + 1, 0, none⟩), .slice (some ⟨z0, 0, none⟩) 0 0, .pointer (some ⟨w.heap.size, 0, none⟩), .slice (some b0) l0.length c0, .slice a0 l0.length e0, .slice (some ⟨z1, 0, none⟩) 0 0, .pointer (some ⟨w.heap.size, 1, none⟩), .slice (some b1) l1.length c1, undef, .slice (some ⟨z2, 0, none⟩) 0 0, .pointer (some ⟨w.heap.size, 2, none⟩), .slice (some b2) l2.length c2, undef, .slice (some ⟨z3, 0, none⟩) 0 0, .pointer (some ⟨w.heap.size, 3, none⟩), .slice (some b3) l3.length c3, undef, undef], defers := [] } W := by
  refine wpAnyH_ready (rs := [7]) (by kernel_rfl) (by simp) ?_
  refine AllReadyH.cons (o := ownOp7) rfl (fun K hK => ?_) ?_
  · refine step_freshP (by rfl) (Operand.tmp 7) (Operand.tmp 9) (by rfl) z1 b1 l1.length c1 l1 (by rfl) (by rfl) rfl (o1.below hS.1 (Nat.le_refl _)) n1 ?_
    intro a1 e1 W' hr hb
    have hS' := ownS_keep hS hb
    refine hK.out _ _ hS' (fun _ => ?_)
    exact ownp_nd2_23 n0 n1 n2 n3 o0 o1 o2 o3 hQ W' hS' z0 z1 z2 z3 a0 e0 m1 (t0.below hb g1) (Nat.le_trans g1 hb.size) k1 a1 e1 W'.heap.size (hr.mono g1 (Nat.le_refl _)) (Nat.le_refl _) (Nat.le_trans g1 hb.size)
  exact AllReadyH.nil

set_option maxRecDepth 20000 in
set_option maxHeartbeats 4000000 in
theorem ownp_nd1_12 {b0 b1 b2 b3 : Addr} {c0 c1 c2 c3 : Nat} {l0 l1 l2 l3 : List (Int × Int)} {w : World} {Q : Exit → Act → World → Prop} (n0 : l0.length ≤ 1048576) (n1 : l1.length ≤ 1048576) (n2 : l2.length ≤ 1048576) (n3 : l3.length ≤ 1048576) (o0 : PRow w (some b0) l0) (o1 : PRow w (some b1) l1) (o2 : PRow w (some b2) l2) (o3 : PRow w (some b3) l3)
    (hQ : ∀ (W : World) (hS : ownS w (.slice (some b0) l0.length c0) (.slice (some b1) l1.length c1) (.slice (some b2) l2.length c2) (.slice (some b3) l3.length c3) W) (z0 z1 z2 z3 : Nat) (a0 : Option Addr) (e0 m1 : Nat) (t0 : RoomIn W (w.heap.size + 2) m1 a0 l0.length e0 l0) (g1 : m1 ≤ W.heap.size) (k1 : (w.heap.size + 2) ≤ m1) (a1 : Option Addr) (e1 m2 : Nat) (t1 : RoomIn W m1 m2 a1 l1.length e1 l1) (g2 : m2 ≤ W.heap.size) (k2 : m1 ≤ m2) (a2 : Option Addr) (e2 m3 : Nat) (t2 : RoomIn W m2 m3 a2 l2.length e2 l2) (g3 : m3 ≤ W.heap.size) (k3 : m2 ≤ m3) (a3 : Option Addr) (e3 m4 : Nat) (t3 : RoomIn W m3 m4 a3 l3.length e3 l3) (g4 : m4 ≤ W.heap.size) (k4 : m3 ≤ m4), Q .normal { tmps := #[.agg #[.slice (some b0) l0.length c0, .slice (some b1) l1.length c1, .slice (some b2) l2.length c2, .slice (some b3) l3.length c3], .pointer (some ⟨w.heap.size, 0, none⟩), .pointer (some ⟨w.heap.size + 1, 0, none⟩), .slice (some ⟨z0, 0, none⟩) 0 0, .pointer (some ⟨w.heap.size, 0, none⟩), .slice (some b0) l0.length c0, .slice a0 l0.length e0, .slice (some ⟨z1, 0, none⟩) 0 0, .pointer (some ⟨w.heap.size, 1, none⟩), .slice (some b1) l1.length c1, .slice a1 l1.length e1, .slice (some ⟨z2, 0, none⟩) 0 0, .pointer (some ⟨w.heap.size, 2, none⟩), .slice (some b2) l2.length c2, .slice a2 l2.length e2, .slice (some ⟨z3, 0, none⟩) 0 0, .pointer (some ⟨w.heap.size, 3, none⟩), .slice (some b3) l3.length c3, .slice a3 l3.length e3, .agg #[.slice a0 l0.length e0, .slice a1 l1.length e1, .slice a2 l2.length e2, .slice a3 l3.length e3]], defers := [] } ((((W.setCell ⟨w.heap.size + 1, 0, none⟩ (.slice a0 l0.length e0)).setCell ⟨w.heap.size + 1, 1, none⟩ (.slice a1 l1.length e1)).setCell ⟨w.heap.size + 1, 2, none⟩ (.slice a2 l2.length e2)).setCell ⟨w.heap.size + 1, 3, none⟩ (.slice a3 l3.length e3)))
    (W : World) (hS : ownS w (.slice (some b0) l0.length c0) (.slice (some b1) l1.length c1) (.slice (some b2) l2.length c2) (.slice (some b3) l3.length c3) W) (z0 z1 z2 : Nat) (a0 : Option Addr) (e0 m1 : Nat) (t0 : RoomIn W (w.heap.size + 2) m1 a0 l0.length e0 l0) (g1 : m1 ≤ W.heap.size) (k1 : (w.heap.size + 2) ≤ m1) :
    wpAnyH Try.prog .any ownOps Q (ownS w (.slice (some b0) l0.length c0) (.slice (some b1) l1.length c1) (.slice (some b2) l2.length c2) (.slice (some b3) l3.length c3)) 6 #[true, true, true, true, true, true, true, false, true, true, true, false, false, true, true, false, false, false] { tmps := #[.agg #[.slice (some b0) l0.length c0, .slice (some b1) l1.length c1, .slice (some b2) l2.length c2, .slice (some b3) l3.length c3], .pointer (some ⟨w.heap.size, 0, none⟩), .pointer (some ⟨w.heap.size + 1, 0, none⟩), .slice (some ⟨z0, 0, none⟩) 0 0, .pointer (some ⟨w.heap.size, 0, none⟩), .slice (some b0) l0.length c0, .slice a0 l0.length e0, .slice (some ⟨z1, 0, none⟩) 0 0, .pointer (some ⟨w.heap.size, 1, none⟩), .slice (some b1) l1.length c1, undef, .slice (some ⟨z2, 0, none⟩) 0 0, .pointer (some ⟨w.heap.size, 2, none⟩), .slice (some b2) l2.length c2, undef, undef, .pointer (some ⟨w.heap.size, 3, none⟩), .slice (some b3) l3.length c3, undef, undef], defers := [] } W := by
  refine wpAnyH_ready (rs := [7, 12]) (by kernel_rfl) (by simp) ?_
  refine AllReadyH.cons (o := ownOp7) rfl (fun K hK => ?_) ?_
  · refine step_freshP (by rfl) (Operand.tmp 7) (Operand.tmp 9) (by rfl) z1 b1 l1.length c1 l1 (by rfl) (by rfl) rfl (o1.below hS.1 (Nat.le_refl _)) n1 ?_
    intro a1 e1 W' hr hb
    have hS' := ownS_keep hS hb
    refine hK.out _ _ hS' (fun _ => ?_)
    exact ownp_nd2_2 n0 n1 n2 n3 o0 o1 o2 o3 hQ W' hS' z0 z1 z2 a0 e0 m1 (t0.below hb g1) (Nat.le_trans g1 hb.size) k1 a1 e1 W'.heap.size (hr.mono g1 (Nat.le_refl _)) (Nat.le_refl _) (Nat.le_trans g1 hb.size)
  refine AllReadyH.cons (o := ownOp12) rfl (fun K hK => ?_) ?_
  · refine step_lit (by rfl) (by rfl) ?_
    intro z3 W' hb
    have hS' := ownS_keep hS hb
    refine hK.out _ _ hS' (fun _ => ?_)
    exact ownp_nd1_123 n0 n1 n2 n3 o0 o1 o2 o3 hQ W' hS' z0 z1 z2 z3 a0 e0 m1 (t0.below hb g1) (Nat.le_trans g1 hb.size) k1
  exact AllReadyH.nil

set_option maxRecDepth 20000 in
set_option maxHeartbeats 4000000 in
theorem ownp_nd1_13 {b0 b1 b2 b3 : Addr} {c0 c1 c2 c3 : Nat} {l0 l1 l2 l3 : List (Int × Int)} {w : World} {Q : Exit → Act → World → Prop} (n0 : l0.length ≤ 1048576) (n1 : l1.length ≤ 1048576) (n2 : l2.length ≤ 1048576) (n3 : l3.length ≤ 1048576) (o0 : PRow w (some b0) l0) (o1 : PRow w (some b1) l1) (o2 : PRow w (some b2) l2) (o3 : PRow w (some b3) l3)
    (hQ : ∀ (W : World) (hS : ownS w (.slice (some b0) l0.length c0) (.slice (some b1) l1.length c1) (.slice (some b2) l2.length c2) (.slice (some b3) l3.length c3) W) (z0 z1 z2 z3 : Nat) (a0 : Option Addr) (e0 m1 : Nat) (t0 : RoomIn W (w.heap.size + 2) m1 a0 l0.length e0 l0) (g1 : m1 ≤ W.heap.size) (k1 : (w.heap.size + 2) ≤ m1) (a1 : Option Addr) (e1 m2 : Nat) (t1 : RoomIn W m1 m2 a1 l1.length e1 l1) (g2 : m2 ≤ W.heap.size) (k2 : m1 ≤ m2) (a2 : Option Addr) (e2 m3 : Nat) (t2 : RoomIn W m2 m3 a2 l2.length e2 l2) (g3 : m3 ≤ W.heap.size) (k3 : m2 ≤ m3) (a3 : Option Addr) (e3 m4 : Nat) (t3 : RoomIn W m3 m4 a3 l3.length e3 l3) (g4 : m4 ≤ W.heap.size) (k4 : m3 ≤ m4), Q .normal { tmps := #[.agg #[.slice (some b0) l0.length c0, .slice (some b1) l1.length c1, .slice (some b2) l2.length c2, .slice (some b3) l3.length c3], .pointer (some ⟨w.heap.size, 0, none⟩), .pointer (some ⟨w.heap.size + 1, 0, none⟩), .slice (some ⟨z0, 0, none⟩) 0 0, .pointer (some ⟨w.heap.size, 0, none⟩), .slice (some b0) l0.length c0, .slice a0 l0.length e0, .slice (some ⟨z1, 0, none⟩) 0 0, .pointer (some ⟨w.heap.size, 1, none⟩), .slice (some b1) l1.length c1, .slice a1 l1.length e1, .slice (some ⟨z2, 0, none⟩) 0 0, .pointer (some ⟨w.heap.size, 2, none⟩), .slice (some b2) l2.length c2, .slice a2 l2.length e2, .slice (some ⟨z3, 0, none⟩) 0 0, .pointer (some ⟨w.heap.size, 3, none⟩), .slice (some b3) l3.length c3, .slice a3 l3.length e3, .agg #[.slice a0 l0.length e0, .slice a1 l1.length e1, .slice a2 l2.length e2, .slice a3 l3.length e3]], defers := [] } ((((W.setCell ⟨w.heap.size + 1, 0, none⟩ (.slice a0 l0.length e0)).setCell ⟨w.heap.size + 1, 1, none⟩ (.slice a1 l1.length e1)).setCell ⟨w.heap.size + 1, 2, none⟩ (.slice a2 l2.length e2)).setCell ⟨w.heap.size + 1, 3, none⟩ (.slice a3 l3.length e3)))
    (W : World) (hS : ownS w (.slice (some b0) l0.length c0) (.slice (some b1) l1.length c1) (.slice (some b2) l2.length c2) (.slice (some b3) l3.length c3) W) (z0 z1 z3 : Nat) (a0 : Option Addr) (e0 m1 : Nat) (t0 : RoomIn W (w.heap.size + 2) m1 a0 l0.length e0 l0) (g1 : m1 ≤ W.heap.size) (k1 : (w.heap.size + 2) ≤ m1) :
    wpAnyH Try.prog .any ownOps Q (ownS w (.slice (some b0) l0.length c0) (.slice (some b1) l1.length c1) (.slice (some b2) l2.length c2) (.slice (some b3) l3.length c3)) 6 #[true, true, true, true, true, true, true, false, false, true, true, false, true, true, true, false, false, false] { tmps := #[.agg #[.slice (some b0) l0.length c0, .slice (some b1) l1.length c1, .slice (some b2) l2.length c2, .slice (some b3) l3.length c3], .pointer (some ⟨w.heap.size, 0, none⟩), .pointer (some ⟨w.heap.size + 1, 0, none⟩), .slice (some ⟨z0, 0, none⟩) 0 0, .pointer (some ⟨w.heap.size, 0, none⟩), .slice (some b0) l0.length c0, .slice a0 l0.length e0, .slice (some ⟨z1, 0, none⟩) 0 0, .pointer (some ⟨w.heap.size, 1, none⟩), .slice (some b1) l1.length c1, undef, undef, .pointer (some ⟨w.heap.size, 2, none⟩), .slice (some b2) l2.length c2, undef, .slice (some ⟨z3, 0, none⟩) 0 0, .pointer (some ⟨w.heap.size, 3, none⟩), .slice (some b3) l3.length c3, undef, undef], defers := [] } W := by
  refine wpAnyH_ready (rs := [7, 8]) (by kernel_rfl) (by simp) ?_
  refine AllReadyH.cons (o := ownOp7) rfl (fun K hK => ?_) ?_
  · refine step_freshP (by rfl) (Operand.tmp 7) (Operand.tmp 9) (by rfl) z1 b1 l1.length c1 l1 (by rfl) (by rfl) rfl (o1.below hS.1 (Nat.le_refl _)) n1 ?_
    intro a1 e1 W' hr hb
    have hS' := ownS_keep hS hb
    refine hK.out _ _ hS' (fun _ => ?_)
    exact ownp_nd2_3 n0 n1 n2 n3 o0 o1 o2 o3 hQ W' hS' z0 z1 z3 a0 e0 m1 (t0.below hb g1) (Nat.le_trans g1 hb.size) k1 a1 e1 W'.heap.size (hr.mono g1 (Nat.le_refl _)) (Nat.le_refl _) (Nat.le_trans g1 hb.size)
  refine AllReadyH.cons (o := ownOp8) rfl (fun K hK => ?_) ?_
  · refine step_lit (by rfl) (by rfl) ?_
    intro z2 W' hb
    have hS' := ownS_keep hS hb
    refine hK.out _ _ hS' (fun _ => ?_)
    exact ownp_nd1_123 n0 n1 n2 n3 o0 o1 o2 o3 hQ W' hS' z0 z1 z2 z3 a0 e0 m1 (t0.below hb g1) (Nat.le_trans g1 hb.size) k1
  exact AllReadyH.nil

set_option maxRecDepth 20000 in
set_option maxHeartbeats 4000000 in
theorem ownp_nd1_23 {b0 b1 b2 b3 : Addr} {c0 c1 c2 c3 : Nat} {l0 l1 l2 l3 : List (Int × Int)} {w : World} {Q : Exit → Act → World → Prop} (n0 : l0.length ≤ 1048576) (n1 : l1.length ≤ 1048576) (n2 : l2.length ≤ 1048576) (n3 : l3.length ≤ 1048576) (o0 : PRow w (some b0) l0) (o1 : PRow w (some b1) l1) (o2 : PRow w (some b2) l2) (o3 : PRow w (some b3) l3)
    (hQ : ∀ (W : World) (hS : ownS w (.slice (some b0) l0.length c0) (.slice (some b1) l1.length c1) (.slice (some b2) l2.length c2) (.slice (some b3) l3.length c3) W) (z0 z1 z2 z3 : Nat) (a0 : Option Addr) (e0 m1 : Nat) (t0 : RoomIn W (w.heap.size + 2) m1 a0 l0.length e0 l0) (g1 : m1 ≤ W.heap.size) (k1 : (w.heap.size + 2) ≤ m1) (a1 : Option Addr) (e1 m2 : Nat) (t1 : RoomIn W m1 m2 a1 l1.length e1 l1) (g2 : m2 ≤ W.heap.size) (k2 : m1 ≤ m2) (a2 : Option Addr) (e2 m3 : Nat) (t2 : RoomIn W m2 m3 a2 l2.length e2 l2) (g3 : m3 ≤ W.heap.size) (k3 : m2 ≤ m3) (a3 : Option Addr) (e3 m4 : Nat) (t3 : RoomIn W m3 m4 a3 l3.length e3 l3) (g4 : m4 ≤ W.heap.size) (k4 : m3 ≤ m4), Q .normal { tmps := #[.agg #[.slice (some b0) l0.length c0, .slice (some b1) l1.length c1, .slice (some b2) l2.length c2, .slice (some b3) l3.length c3], .pointer (some ⟨w.heap.size, 0, none⟩), .pointer (some ⟨w.heap.size + 1, 0, none⟩), .slice (some ⟨z0, 0, none⟩) 0 0, .pointer (some ⟨w.heap.size, 0, none⟩), .slice (some b0) l0.length c0, .slice a0 l0.length e0, .slice (some ⟨z1, 0, none⟩) 0 0, .pointer (some ⟨w.heap.size, 1, none⟩), .slice (some b1) l1.length c1, .slice a1 l1.length e1, .slice (some ⟨z2, 0, none⟩) 0 0, .pointer (some ⟨w.heap.size, 2, none⟩), .slice (some b2) l2.length c2, .slice a2 l2.length e2, .slice (some ⟨z3, 0, none⟩) 0 0, .pointer (some ⟨w.heap.size, 3, none⟩), .slice (some b3) l3.length c3, .slice a3 l3.length e3, .agg #[.slice a0 l0.length e0, .slice a1 l1.length e1, .slice a2 l2.length e2, .slice a3 l3.length e3]], defers := [] } ((((W.setCell ⟨w.heap.size + 1, 0, none⟩ (.slice a0 l0.length e0)).setCell ⟨w.heap.size + 1, 1, none⟩ (.slice a1 l1.length e1)).setCell ⟨w.heap.size + 1, 2, none⟩ (.slice a2 l2.length e2)).setCell ⟨w.heap.size + 1, 3, none⟩ (.slice a3 l3.length e3)))
    (W : World) (hS : ownS w (.slice (some b0) l0.length c0) (.slice (some b1) l1.length c1) (.slice (some b2) l2.length c2) (.slice (some b3) l3.length c3) W) (z0 z2 z3 : Nat) (a0 : Option Addr) (e0 m1 : Nat) (t0 : RoomIn W (w.heap.size + 2) m1 a0 l0.length e0 l0) (g1 : m1 ≤ W.heap.size) (k1 : (w.heap.size + 2) ≤ m1) :
    wpAnyH Try.prog .any ownOps Q (ownS w (.slice (some b0) l0.length c0) (.slice (some b1) l1.length c1) (.slice (some b2) l2.length c2) (.slice (some b3) l3.length c3)) 6 #[true, true, true, true, false, true, true, false, true, true, true, false, true, true, true, false, false, false] { tmps := #[.agg #[.slice (some b0) l0.length c0, .slice (some b1) l1.length c1, .slice (some b2) l2.length c2, .slice (some b3) l3.length c3], .pointer (some ⟨w.heap.size, 0, none⟩), .pointer (some ⟨w.heap.size + 1, 0, none⟩), .slice (some ⟨z0, 0, none⟩) 0 0, .pointer (some ⟨w.heap.size, 0, none⟩), .slice (some b0) l0.length c0, .slice a0 l0.length e0, undef, .pointer (some ⟨w.heap.size, 1, none⟩), .slice (some b1) l1.length c1, undef, .slice (some ⟨z2, 0, none⟩) 0 0, .pointer (some ⟨w.heap.size, 2, none⟩), .slice (some b2) l2.length c2, undef, .slice (some ⟨z3, 0, none⟩) 0 0, .pointer (some ⟨w.heap.size, 3, none⟩), .slice (some b3) l3.length c3, undef, undef], defers := [] } W := by
  refine wpAnyH_ready (rs := [4]) (by kernel_rfl) (by simp) ?_
  refine AllReadyH.cons (o := ownOp4) rfl (fun K hK => ?_) ?_
  · refine step_lit (by rfl) (by rfl) ?_
    intro z1 W' hb
    have hS' := ownS_keep hS hb
    refine hK.out _ _ hS' (fun _ => ?_)
    exact ownp_nd1_123 n0 n1 n2 n3 o0 o1 o2 o3 hQ W' hS' z0 z1 z2 z3 a0 e0 m1 (t0.below hb g1) (Nat.le_trans g1 hb.size) k1
  exact AllReadyH.nil

set_option maxRecDepth 20000 in
set_option maxHeartbeats 4000000 in
theorem ownp_nd1_1 {b0 b1 b2 b3 : Addr} {c0 c1 c2 c3 : Nat} {l0 l1 l2 l3 : List (Int × Int)} {w : World} {Q : Exit → Act → World → Prop} (n0 : l0.length ≤ 1048576) (n1 : l1.length ≤ 1048576) (n2 : l2.length ≤ 1048576) (n3 : l3.length ≤ 1048576) (o0 : PRow w (some b0) l0) (o1 : PRow w (some b1) l1) (o2 : PRow w (some b2) l2) (o3 : PRow w (some b3) l3)
    (hQ : ∀ (W : World) (hS : ownS w (.slice (some b0) l0.length c0) (.slice (some b1) l1.length c1) (.slice (some b2) l2.length c2) (.slice (some b3) l3.length c3) W) (z0 z1 z2 z3 : Nat) (a0 : Option Addr) (e0 m1 : Nat) (t0 : RoomIn W (w.heap.size + 2) m1 a0 l0.length e0 l0) (g1 : m1 ≤ W.heap.size) (k1 : (w.heap.size + 2) ≤ m1) (a1 : Option Addr) (e1 m2 : Nat) (t1 : RoomIn W m1 m2 a1 l1.length e1 l1) (g2 : m2 ≤ W.heap.size) (k2 : m1 ≤ m2) (a2 : Option Addr) (e2 m3 : Nat) (t2 : RoomIn W m2 m3 a2 l2.length e2 l2) (g3 : m3 ≤ W.heap.size) (k3 : m2 ≤ m3) (a3 : Option Addr) (e3 m4 : Nat) (t3 : RoomIn W m3 m4 a3 l3.length e3 l3) (g4 : m4 ≤ W.heap.size) (k4 : m3 ≤ m4), Q .normal { tmps := #[.agg #[.slice (some b0) l0.length c0, .slice (some b1) l1.length c1, .slice (some b2) l2.length c2, .slice (some b3) l3.length c3], .pointer (some ⟨w.heap.size, 0, none⟩), .pointer (some ⟨w.heap.size + 1, 0, none⟩), .slice (some ⟨z0, 0, none⟩) 0 0, .pointer (some ⟨w.heap.size, 0, none⟩), .slice (some b0) l0.length c0, .slice a0 l0.length e0, .slice (some ⟨z1, 0, none⟩) 0 0, .pointer (some ⟨w.heap.size, 1, none⟩), .slice (some b1) l1.length c1, .slice a1 l1.length e1, .slice (some ⟨z2, 0, none⟩) 0 0, .pointer (some ⟨w.heap.size, 2, none⟩), .slice (some b2) l2.length c2, .slice a2 l2.length e2, .slice (some ⟨z3, 0, none⟩) 0 0, .pointer (some ⟨w.heap.size, 3, none⟩), .slice (some b3) l3.length c3, .slice a3 l3.length e3, .agg #[.slice a0 l0.length e0, .slice a1 l1.length e1, .slice a2 l2.length e2, .slice a3 l3.length e3]], defers := [] } ((((W.setCell ⟨w.heap.size + 1, 0, none⟩ (.slice a0 l0.length e0)).setCell ⟨w.heap.size + 1, 1, none⟩ (.slice a1 l1.length e1)).setCell ⟨w.heap.size + 1, 2, none⟩ (.slice a2 l2.length e2)).setCell ⟨w.heap.size + 1, 3, none⟩ (.slice a3 l3.length e3)))
    (W : World) (hS : ownS w (.slice (some b0) l0.length c0) (.slice (some b1) l1.length c1) (.slice (some b2) l2.length c2) (.slice (some b3) l3.length c3) W) (z0 z1 : Nat) (a0 : Option Addr) (e0 m1 : Nat) (t0 : RoomIn W (w.heap.size + 2) m1 a0 l0.length e0 l0) (g1 : m1 ≤ W.heap.size) (k1 : (w.heap.size + 2) ≤ m1) :
    wpAnyH Try.prog .any ownOps Q (ownS w (.slice (some b0) l0.length c0) (.slice (some b1) l1.length c1) (.slice (some b2) l2.length c2) (.slice (some b3) l3.length c3)) 7 #[true, true, true, true, true, true, true, false, false, true, true, false, false, true, true, false, false, false] { tmps := #[.agg #[.slice (some b0) l0.length c0, .slice (some b1) l1.length c1, .slice (some b2) l2.length c2, .slice (some b3) l3.length c3], .pointer (some ⟨w.heap.size, 0, none⟩), .pointer (some ⟨w.heap.size + 1, 0, none⟩), .slice (some ⟨z0, 0, none⟩) 0 0, .pointer (some ⟨w.heap.size, 0, none⟩), .slice (some b0) l0.length c0, .slice a0 l0.length e0, .slice (some ⟨z1, 0, none⟩) 0 0, .pointer (some ⟨w.heap.size, 1, none⟩), .slice (some b1) l1.length c1, undef, undef, .pointer (some ⟨w.heap.size, 2, none⟩), .slice (some b2) l2.length c2, undef, undef, .pointer (some ⟨w.heap.size, 3, none⟩), .slice (some b3) l3.length c3, undef, undef], defers := [] } W := by
  refine wpAnyH_ready (rs := [7, 8, 12]) (by kernel_rfl) (by simp) ?_
  refine AllReadyH.cons (o := ownOp7) rfl (fun K hK => ?_) ?_
  · refine step_freshP (by rfl) (Operand.tmp 7) (Operand.tmp 9) (by rfl) z1 b1 l1.length c1 l1 (by rfl) (by rfl) rfl (o1.below hS.1 (Nat.le_refl _)) n1 ?_
    intro a1 e1 W' hr hb
    have hS' := ownS_keep hS hb
    refine hK.out _ _ hS' (fun _ => ?_)
    exact ownp_nd2_n n0 n1 n2 n3 o0 o1 o2 o3 hQ W' hS' z0 z1 a0 e0 m1 (t0.below hb g1) (Nat.le_trans g1 hb.size) k1 a1 e1 W'.heap.size (hr.mono g1 (Nat.le_refl _)) (Nat.le_refl _) (Nat.le_trans g1 hb.size)
  refine AllReadyH.cons (o := ownOp8) rfl (fun K hK => ?_) ?_
  · refine step_lit (by rfl) (by rfl) ?_
    intro z2 W' hb
    have hS' := ownS_keep hS hb
    refine hK.out _ _ hS' (fun _ => ?_)
    exact ownp_nd1_12 n0 n1 n2 n3 o0 o1 o2 o3 hQ W' hS' z0 z1 z2 a0 e0 m1 (t0.below hb g1) (Nat.le_trans g1 hb.size) k1
  refine AllReadyH.cons (o := ownOp12) rfl (fun K hK => ?_) ?_
  · refine step_lit (by rfl) (by rfl) ?_
    intro z3 W' hb
    have hS' := ownS_keep hS hb
    refine hK.out _ _ hS' (fun _ => ?_)
    exact ownp_nd1_13 n0 n1 n2 n3 o0 o1 o2 o3 hQ W' hS' z0 z1 z3 a0 e0 m1 (t0.below hb g1) (Nat.le_trans g1 hb.size) k1
  exact AllReadyH.nil

set_option maxRecDepth 20000 in
set_option maxHeartbeats 4000000 in
theorem ownp_nd1_2 {b0 b1 b2 b3 : Addr} {c0 c1 c2 c3 : Nat} {l0 l1 l2 l3 : List (Int × Int)} {w : World} {Q : Exit → Act → World → Prop} (n0 : l0.length ≤ 1048576) (n1 : l1.length ≤ 1048576) (n2 : l2.length ≤ 1048576) (n3 : l3.length ≤ 1048576) (o0 : PRow w (some b0) l0) (o1 : PRow w (some b1) l1) (o2 : PRow w (some b2) l2) (o3 : PRow w (some b3) l3)
    (hQ : ∀ (W : World) (hS : ownS w (.slice (some b0) l0.length c0) (.slice (some b1) l1.length c1) (.slice (some b2) l2.length c2) (.slice (some b3) l3.length c3) W) (z0 z1 z2 z3 : Nat) (a0 : Option Addr) (e0 m1 : Nat) (t0 : RoomIn W (w.heap.size + 2) m1 a0 l0.length e0 l0) (g1 : m1 ≤ W.heap.size) (k1 : (w.heap.size + 2) ≤ m1) (a1 : Option Addr) (e1 m2 : Nat) (t1 : RoomIn W m1 m2 a1 l1.length e1 l1) (g2 : m2 ≤ W.heap.size) (k2 : m1 ≤ m2) (a2 : Option Addr) (e2 m3 : Nat) (t2 : RoomIn W m2 m3 a2 l2.length e2 l2) (g3 : m3 ≤ W.heap.size) (k3 : m2 ≤ m3) (a3 : Option Addr) (e3 m4 : Nat) (t3 : RoomIn W m3 m4 a3 l3.length e3 l3) (g4 : m4 ≤ W.heap.size) (k4 : m3 ≤ m4), Q .normal { tmps := #[.agg #[.slice (some b0) l0.length c0, .slice (some b1) l1.length c1, .slice (some b2) l2.length c2, .slice (some b3) l3.length c3], .pointer (some ⟨w.heap.size, 0, none⟩), .pointer (some ⟨w.heap.size + 1, 0, none⟩), .slice (some ⟨z0, 0, none⟩) 0 0, .pointer (some ⟨w.heap.size, 0, none⟩), .slice (some b0) l0.length c0, .slice a0 l0.length e0, .slice (some ⟨z1, 0, none⟩) 0 0, .pointer (some ⟨w.heap.size, 1, none⟩), .slice (some b1) l1.length c1, .slice a1 l1.length e1, .slice (some ⟨z2, 0, none⟩) 0 0, .pointer (some ⟨w.heap.size, 2, none⟩), .slice (some b2) l2.length c2, .slice a2 l2.length e2, .slice (some ⟨z3, 0, none⟩) 0 0, .pointer (some ⟨w.heap.size, 3, none⟩), .slice (some b3) l3.length c3, .slice a3 l3.length e3, .agg #[.slice a0 l0.length e0, .slice a1 l1.length e1, .slice a2 l2.length e2, .slice a3 l3.length e3]], defers := [] } ((((W.setCell ⟨w.heap.size + 1, 0, none⟩ (.slice a0 l0.length e0)).setCell ⟨w.heap.size + 1, 1, none⟩ (.slice a1 l1.length e1)).setCell ⟨w.heap.size + 1, 2, none⟩ (.slice a2 l2.length e2)).setCell ⟨w.heap.size + 1, 3, none⟩ (.slice a3 l3.length e3)))
    (W : World) (hS : ownS w (.slice (some b0) l0.length c0) (.slice (some b1) l1.length c1) (.slice (some b2) l2.length c2) (.slice (some b3) l3.length c3) W) (z0 z2 : Nat) (a0 : Option Addr) (e0 m1 : Nat) (t0 : RoomIn W (w.heap.size + 2) m1 a0 l0.length e0 l0) (g1 : m1 ≤ W.heap.size) (k1 : (w.heap.size + 2) ≤ m1) :
    wpAnyH Try.prog .any ownOps Q (ownS w (.slice (some b0) l0.length c0) (.slice (some b1) l1.length c1) (.slice (some b2) l2.length c2) (.slice (some b3) l3.length c3)) 7 #[true, true, true, true, false, true, true, false, true, true, true, false, false, true, true, false, false, false] { tmps := #[.agg #[.slice (some b0) l0.length c0, .slice (some b1) l1.length c1, .slice (some b2) l2.length c2, .slice (some b3) l3.length c3], .pointer (some ⟨w.heap.size, 0, none⟩), .pointer (some ⟨w.heap.size + 1, 0, none⟩), .slice (some ⟨z0, 0, none⟩) 0 0, .pointer (some ⟨w.heap.size, 0, none⟩), .slice (some b0) l0.length c0, .slice a0 l0.length e0, undef, .pointer (some ⟨w.heap.size, 1, none⟩), .slice (some b1) l1.length c1, undef, .slice (some ⟨z2, 0, none⟩) 0 0, .pointer (some ⟨w.heap.size, 2, none⟩), .slice (some b2) l2.length c2, undef, undef, .pointer (some ⟨w.heap.size, 3, none⟩), .slice (some b3) l3.length c3, undef, undef], defers := [] } W := by
  refine wpAnyH_ready (rs := [4, 12]) (by kernel_rfl) (by simp) ?_
  refine AllReadyH.cons (o := ownOp4) rfl (fun K hK => ?_) ?_
  · refine step_lit (by rfl) (by rfl) ?_
    intro z1 W' hb
    have hS' := ownS_keep hS hb
    refine hK.out _ _ hS' (fun _ => ?_)
    exact ownp_nd1_12 n0 n1 n2 n3 o0 o1 o2 o3 hQ W' hS' z0 z1 z2 a0 e0 m1 (t0.below hb g1) (Nat.le_trans g1 hb.size) k1
  refine AllReadyH.cons (o := ownOp12) rfl (fun K hK => ?_) ?_
  · refine step_lit (by rfl) (by rfl) ?_
    intro z3 W' hb
    have hS' := ownS_keep hS hb
    refine hK.out _ _ hS' (fun _ => ?_)
    exact ownp_nd1_23 n0 n1 n2 n3 o0 o1 o2 o3 hQ W' hS' z0 z2 z3 a0 e0 m1 (t0.below hb g1) (Nat.le_trans g1 hb.size) k1
  exact AllReadyH.nil

set_option maxRecDepth 20000 in
set_option maxHeartbeats 4000000 in
theorem ownp_nd1_3 {b0 b1 b2 b3 : Addr} {c0 c1 c2 c3 : Nat} {l0 l1 l2 l3 : List (Int × Int)} {w : World} {Q : Exit → Act → World → Prop} (n0 : l0.length ≤ 1048576) (n1 : l1.length ≤ 1048576) (n2 : l2.length ≤ 1048576) (n3 : l3.length ≤ 1048576) (o0 : PRow w (some b0) l0) (o1 : PRow w (some b1) l1) (o2 : PRow w (some b2) l2) (o3 : PRow w (some b3) l3)
    (hQ : ∀ (W : World) (hS : ownS w (.slice (some b0) l0.length c0) (.slice (some b1) l1.length c1) (.slice (some b2) l2.length c2) (.slice (some b3) l3.length c3) W) (z0 z1 z2 z3 : Nat) (a0 : Option Addr) (e0 m1 : Nat) (t0 : RoomIn W (w.heap.size + 2) m1 a0 l0.length e0 l0) (g1 : m1 ≤ W.heap.size) (k1 : (w.heap.size + 2) ≤ m1) (a1 : Option Addr) (e1 m2 : Nat) (t1 : RoomIn W m1 m2 a1 l1.length e1 l1) (g2 : m2 ≤ W.heap.size) (k2 : m1 ≤ m2) (a2 : Option Addr) (e2 m3 : Nat) (t2 : RoomIn W m2 m3 a2 l2.length e2 l2) (g3 : m3 ≤ W.heap.size) (k3 : m2 ≤ m3) (a3 : Option Addr) (e3 m4 : Nat) (t3 : RoomIn W m3 m4 a3 l3.length e3 l3) (g4 : m4 ≤ W.heap.size) (k4 : m3 ≤ m4), Q .normal { tmps := #[.agg #[.slice (some b0) l0.length c0, .slice (some b1) l1.length c1, .slice (some b2) l2.length c2, .slice (some b3) l3.length c3], .pointer (some ⟨w.heap.size, 0, none⟩), .pointer (some ⟨w.heap.size + 1, 0, none⟩), .slice (some ⟨z0, 0, none⟩) 0 0, .pointer (some ⟨w.heap.size, 0, none⟩), .slice (some b0) l0.length c0, .slice a0 l0.length e0, .slice (some ⟨z1, 0, none⟩) 0 0, .pointer (some ⟨w.heap.size, 1, none⟩), .slice (some b1) l1.length c1, .slice a1 l1.length e1, .slice (some ⟨z2, 0, none⟩) 0 0, .pointer (some ⟨w.heap.size, 2, none⟩), .slice (some b2) l2.length c2, .slice a2 l2.length e2, .slice (some ⟨z3, 0, none⟩) 0 0, .pointer (some ⟨w.heap.size, 3, none⟩), .slice (some b3) l3.length c3, .slice a3 l3.length e3, .agg #[.slice a0 l0.length e0, .slice a1 l1.length e1, .slice a2 l2.length e2, .slice a3 l3.length e3]], defers := [] } ((((W.setCell ⟨w.heap.size + 1, 0, none⟩ (.slice a0 l0.length e0)).setCell ⟨w.heap.size + 1, 1, none⟩ (.slice a1 l1.length e1)).setCell ⟨w.heap.size + 1, 2, none⟩ (.slice a2 l2.length e2)).setCell ⟨w.heap.size + 1, 3, none⟩ (.slice a3 l3.length e3)))
    (W : World) (hS : ownS w (.slice (some b0) l0.length c0) (.slice (some b1) l1.length c1) (.slice (some b2) l2.length c2) (.slice (some b3) l3.length c3) W) (z0 z3 : Nat) (a0 : Option Addr) (e0 m1 : Nat) (t0 : RoomIn W (w.heap.size + 2) m1 a0 l0.length e0 l0) (g1 : m1 ≤ W.heap.size) (k1 : (w.heap.size + 2) ≤ m1) :
    wpAnyH Try.prog .any ownOps Q (ownS w (.slice (some b0) l0.length c0) (.slice (some b1) l1.length c1) (.slice (some b2) l2.length c2) (.slice (some b3) l3.length c3)) 7 #[true, true, true, true, false, true, true, false, false, true, true, false, true, true, true, false, false, false] { tmps := #[.agg #[.slice (some b0) l0.length c0, .slice (some b1) l1.length c1, .slice (some b2) l2.length c2, .slice (some b3) l3.length c3], .pointer (some ⟨w.heap.size, 0, none⟩), .pointer (some ⟨w.heap.size + 1, 0, none⟩), .slice (some ⟨z0, 0, none⟩) 0 0, .pointer (some ⟨w.heap.size, 0, none⟩), .slice (some b0) l0.length c0, .slice a0 l0.length e0, undef, .pointer (some ⟨w.heap.size, 1, none⟩), .slice (some b1) l1.length c1, undef, undef, .pointer (some ⟨w.heap.size, 2, none⟩), .slice (some b2) l2.length c2, undef, .slice (some ⟨z3, 0, none⟩) 0 0, .pointer (some ⟨w.heap.size, 3, none⟩), .slice (some b3) l3.length c3, undef, undef], defers := [] } W := by
  refine wpAnyH_ready (rs := [4, 8]) (by kernel_rfl) (by simp) ?_
  refine AllReadyH.cons (o := ownOp4) rfl (fun K hK => ?_) ?_
  · refine step_lit (by rfl) (by rfl) ?_
    intro z1 W' hb
    have hS' := ownS_keep hS hb
    refine hK.out _ _ hS' (fun _ => ?_)
    exact ownp_nd1_13 n0 n1 n2 n3 o0 o1 o2 o3 hQ W' hS' z0 z1 z3 a0 e0 m1 (t0.below hb g1) (Nat.le_trans g1 hb.size) k1
  refine AllReadyH.cons (o := ownOp8) rfl (fun K hK => ?_) ?_
  · refine step_lit (by rfl) (by rfl) ?_
    intro z2 W' hb
    have hS' := ownS_keep hS hb
    refine hK.out _ _ hS' (fun _ => ?_)
    exact ownp_nd1_23 n0 n1 n2 n3 o0 o1 o2 o3 hQ W' hS' z0 z2 z3 a0 e0 m1 (t0.below hb g1) (Nat.le_trans g1 hb.size) k1
  exact AllReadyH.nil

set_option maxRecDepth 20000 in
set_option maxHeartbeats 4000000 in
theorem ownp_nd1_n {b0 b1 b2 b3 : Addr} {c0 c1 c2 c3 : Nat} {l0 l1 l2 l3 : List (Int × Int)} {w : World} {Q : Exit → Act → World → Prop} (n0 : l0.length ≤ 1048576) (n1 : l1.length ≤ 1048576) (n2 : l2.length ≤ 1048576) (n3 : l3.length ≤ 1048576) (o0 : PRow w (some b0) l0) (o1 : PRow w (some b1) l1) (o2 : PRow w (some b2) l2) (o3 : PRow w (some b3) l3)
    (hQ : ∀ (W : World) (hS : ownS w (.slice (some b0) l0.length c0) (.slice (some b1) l1.length c1) (.slice (some b2) l2.length c2) (.slice (some b3) l3.length c3) W) (z0 z1 z2 z3 : Nat) (a0 : Option Addr) (e0 m1 : Nat) (t0 : RoomIn W (w.heap.size + 2) m1 a0 l0.length e0 l0) (g1 : m1 ≤ W.heap.size) (k1 : (w.heap.size + 2) ≤ m1) (a1 : Option Addr) (e1 m2 : Nat) (t1 : RoomIn W m1 m2 a1 l1.length e1 l1) (g2 : m2 ≤ W.heap.size) (k2 : m1 ≤ m2) (a2 : Option Addr) (e2 m3 : Nat) (t2 : RoomIn W m2 m3 a2 l2.length e2 l2) (g3 : m3 ≤ W.heap.size) (k3 : m2 ≤ m3) (a3 : Option Addr) (e3 m4 : Nat) (t3 : RoomIn W m3 m4 a3 l3.length e3 l3) (g4 : m4 ≤ W.heap.size) (k4 : m3 ≤ m4), Q .normal { tmps := #[.agg #[.slice (some b0) l0.length c0, .slice (some b1) l1.length c1, .slice (some b2) l2.length c2, .slice (some b3) l3.length c3], .pointer (some ⟨w.heap.size, 0, none⟩), .pointer (some ⟨w.heap.size + 1, 0, none⟩), .slice (some ⟨z0, 0, none⟩) 0 0, .pointer (some ⟨w.heap.size, 0, none⟩), .slice (some b0) l0.length c0, .slice a0 l0.length e0, .slice (some ⟨z1, 0, none⟩) 0 0, .pointer (some ⟨w.heap.size, 1, none⟩), .slice (some b1) l1.length c1, .slice a1 l1.length e1, .slice (some ⟨z2, 0, none⟩) 0 0, .pointer (some ⟨w.heap.size, 2, none⟩), .slice (some b2) l2.length c2, .slice a2 l2.length e2, .slice (some ⟨z3, 0, none⟩) 0 0, .pointer (some ⟨w.heap.size, 3, none⟩), .slice (some b3) l3.length c3, .slice a3 l3.length e3, .agg #[.slice a0 l0.length e0, .slice a1 l1.length e1, .slice a2 l2.length e2, .slice a3 l3.length e3]], defers := [] } ((((W.setCell ⟨w.heap.size + 1, 0, none⟩ (.slice a0 l0.length e0)).setCell ⟨w.heap.size + 1, 1, none⟩ (.slice a1 l1.length e1)).setCell ⟨w.heap.size + 1, 2, none⟩ (.slice a2 l2.length e2)).setCell ⟨w.heap.size + 1, 3, none⟩ (.slice a3 l3.length e3)))
    (W : World) (hS : ownS w (.slice (some b0) l0.length c0) (.slice (some b1) l1.length c1) (.slice (some b2) l2.length c2) (.slice (some b3) l3.length c3) W) (z0 : Nat) (a0 : Option Addr) (e0 m1 : Nat) (t0 : RoomIn W (w.heap.size + 2) m1 a0 l0.length e0 l0) (g1 : m1 ≤ W.heap.size) (k1 : (w.heap.size + 2) ≤ m1) :
    wpAnyH Try.prog .any ownOps Q (ownS w (.slice (some b0) l0.length c0) (.slice (some b1) l1.length c1) (.slice (some b2) l2.length c2) (.slice (some b3) l3.length c3)) 8 #[true, true, true, true, false, true, true, false, false, true, true, false, false, true, true, false, false, false] { tmps := #[.agg #[.slice (some b0) l0.length c0, .slice (some b1) l1.length c1, .slice (some b2) l2.length c2, .slice (some b3) l3.length c3], .pointer (some ⟨w.heap.size, 0, none⟩), .pointer (some ⟨w.heap.size + 1, 0, none⟩), .slice (some ⟨z0, 0, none⟩) 0 0, .pointer (some ⟨w.heap.size, 0, none⟩), .slice (some b0) l0.length c0, .slice a0 l0.length e0, undef, .pointer (some ⟨w.heap.size, 1, none⟩), .slice (some b1) l1.length c1, undef, undef, .pointer (some ⟨w.heap.size, 2, none⟩), .slice (some b2) l2.length c2, undef, undef, .pointer (some ⟨w.heap.size, 3, none⟩), .slice (some b3) l3.length c3, undef, undef], defers := [] } W := by
  refine wpAnyH_ready (rs := [4, 8, 12]) (by kernel_rfl) (by simp) ?_
  refine AllReadyH.cons (o := ownOp4) rfl (fun K hK => ?_) ?_
  · refine step_lit (by rfl) (by rfl) ?_
    intro z1 W' hb
    have hS' := ownS_keep hS hb
    refine hK.out _ _ hS' (fun _ => ?_)
    exact ownp_nd1_1 n0 n1 n2 n3 o0 o1 o2 o3 hQ W' hS' z0 z1 a0 e0 m1 (t0.below hb g1) (Nat.le_trans g1 hb.size) k1
  refine AllReadyH.cons (o := ownOp8) rfl (fun K hK => ?_) ?_
  · refine step_lit (by rfl) (by rfl) ?_
    intro z2 W' hb
    have hS' := ownS_keep hS hb
    refine hK.out _ _ hS' (fun _ => ?_)
    exact ownp_nd1_2 n0 n1 n2 n3 o0 o1 o2 o3 hQ W' hS' z0 z2 a0 e0 m1 (t0.below hb g1) (Nat.le_trans g1 hb.size) k1
  refine AllReadyH.cons (o := ownOp12) rfl (fun K hK => ?_) ?_
  · refine step_lit (by rfl) (by rfl) ?_
    intro z3 W' hb
    have hS' := ownS_keep hS hb
    refine hK.out _ _ hS' (fun _ => ?_)
    exact ownp_nd1_3 n0 n1 n2 n3 o0 o1 o2 o3 hQ W' hS' z0 z3 a0 e0 m1 (t0.below hb g1) (Nat.le_trans g1 hb.size) k1
  exact AllReadyH.nil

set_option maxRecDepth 20000 in
set_option maxHeartbeats 4000000 in
theorem ownp_nd0_0123 {b0 b1 b2 b3 : Addr} {c0 c1 c2 c3 : Nat} {l0 l1 l2 l3 : List (Int × Int)} {w : World} {Q : Exit → Act → World → Prop} (n0 : l0.length ≤ 1048576) (n1 : l1.length ≤ 1048576) (n2 : l2.length ≤ 1048576) (n3 : l3.length ≤ 1048576) (o0 : PRow w (some b0) l0) (o1 : PRow w (some b1) l1) (o2 : PRow w (some b2) l2) (o3 : PRow w (some b3) l3)
    (hQ : ∀ (W : World) (hS : ownS w (.slice (some b0) l0.length c0) (.slice (some b1) l1.length c1) (.slice (some b2) l2.length c2) (.slice (some b3) l3.length c3) W) (z0 z1 z2 z3 : Nat) (a0 : Option Addr) (e0 m1 : Nat) (t0 : RoomIn W (w.heap.size + 2) m1 a0 l0.length e0 l0) (g1 : m1 ≤ W.heap.size) (k1 : (w.heap.size + 2) ≤ m1) (a1 : Option Addr) (e1 m2 : Nat) (t1 : RoomIn W m1 m2 a1 l1.length e1 l1) (g2 : m2 ≤ W.heap.size) (k2 : m1 ≤ m2) (a2 : Option Addr) (e2 m3 : Nat) (t2 : RoomIn W m2 m3 a2 l2.length e2 l2) (g3 : m3 ≤ W.heap.size) (k3 : m2 ≤ m3) (a3 : Option Addr) (e3 m4 : Nat) (t3 : RoomIn W m3 m4 a3 l3.length e3 l3) (g4 : m4 ≤ W.heap.size) (k4 : m3 ≤ m4), Q .normal { tmps := #[.agg #[.slice (some b0) l0.length c0, .slice (some b1) l1.length c1, .slice (some b2) l2.length c2, .slice (some b3) l3.length c3], .pointer (some ⟨w.heap.size, 0, none⟩), .pointer (some ⟨w.heap.size + 1, 0, none⟩), .slice (some ⟨z0, 0, none⟩) 0 0, .pointer (some ⟨w.heap.size, 0, none⟩), .slice (some b0) l0.length c0, .slice a0 l0.length e0, .slice (some ⟨z1, 0, none⟩) 0 0, .pointer (some ⟨w.heap.size, 1, none⟩), .slice (some b1) l1.length c1, .slice a1 l1.length e1, .slice (some ⟨z2, 0, none⟩) 0 0, .pointer (some ⟨w.heap.size, 2, none⟩), .slice (some b2) l2.length c2, .slice a2 l2.length e2, .slice (some ⟨z3, 0, none⟩) 0 0, .pointer (some ⟨w.heap.size, 3, none⟩), .slice (some b3) l3.length c3, .slice a3 l3.length e3, .agg #[.slice a0 l0.length e0, .slice a1 l1.length e1, .slice a2 l2.length e2, .slice a3 l3.length e3]], defers := [] } ((((W.setCell ⟨w.heap.size + 1, 0, none⟩ (.slice a0 l0.length e0)).setCell ⟨w.heap.size + 1, 1, none⟩ (.slice a1 l1.length e1)).setCell ⟨w.heap.size + 1, 2, none⟩ (.slice a2 l2.length e2)).setCell ⟨w.heap.size + 1, 3, none⟩ (.slice a3 l3.length e3)))
    (W : World) (hS : ownS w (.slice (some b0) l0.length c0) (.slice (some b1) l1.length c1) (.slice (some b2) l2.length c2) (.slice (some b3) l3.length c3) W) (z0 z1 z2 z3 : Nat) :
    wpAnyH Try.prog .any ownOps Q (ownS w (.slice (some b0) l0.length c0) (.slice (some b1) l1.length c1) (.slice (some b2) l2.length c2) (.slice (some b3) l3.length c3)) 6 #[true, true, true, false, true, true, true, false, true, true, true, false, true, true, true, false, false, false] { tmps := #[.agg #[.slice (some b0) l0.length c0, .slice (some b1) l1.length c1, .slice (some b2) l2.length c2, .slice (some b3) l3.length c3], .pointer (some ⟨w.heap.size, 0, none⟩), .pointer (some ⟨w.heap.size + 1, 0, none⟩), .slice (some ⟨z0, 0, none⟩) 0 0, .pointer (some ⟨w.heap.size, 0, none⟩), .slice (some b0) l0.length c0, undef, .slice (some ⟨z1, 0, none⟩) 0 0, .pointer (some ⟨w.heap.size, 1, none⟩), .slice (some b1) l1.length c1, undef, .slice (some ⟨z2, 0, none⟩) 0 0, .pointer (some ⟨w.heap.size, 2, none⟩), .slice (some b2) l2.length c2, undef, .slice (some ⟨z3, 0, none⟩) 0 0, .pointer (some ⟨w.heap.size, 3, none⟩), .slice (some b3) l3.length c3, undef, undef], defers := [] } W := by
  refine wpAnyH_ready (rs := [3]) (by kernel_rfl) (by simp) ?_
  refine AllReadyH.cons (o := ownOp3) rfl (fun K hK => ?_) ?_
  · refine step_freshP (by rfl) (Operand.tmp 3) (Operand.tmp 5) (by rfl) z0 b0 l0.length c0 l0 (by rfl) (by rfl) rfl (o0.below hS.1 (Nat.le_refl _)) n0 ?_
    intro a0 e0 W' hr hb
    have hS' := ownS_keep hS hb
    refine hK.out _ _ hS' (fun _ => ?_)
    exact ownp_nd1_123 n0 n1 n2 n3 o0 o1 o2 o3 hQ W' hS' z0 z1 z2 z3  a0 e0 W'.heap.size (hr.mono (ownS_ge hS) (Nat.le_refl _)) (Nat.le_refl _) (Nat.le_trans (ownS_ge hS) hb.size)
  exact AllReadyH.nil

set_option maxRecDepth 20000 in
set_option maxHeartbeats 4000000 in
theorem ownp_nd0_012 {b0 b1 b2 b3 : Addr} {c0 c1 c2 c3 : Nat} {l0 l1 l2 l3 : List (Int × Int)} {w : World} {Q : Exit → Act → World → Prop} (n0 : l0.length ≤ 1048576) (n1 : l1.length ≤ 1048576) (n2 : l2.length ≤ 1048576) (n3 : l3.length ≤ 1048576) (o0 : PRow w (some b0) l0) (o1 : PRow w (some b1) l1) (o2 : PRow w (some b2) l2) (o3 : PRow w (some b3) l3)
    (hQ : ∀ (W : World) (hS : ownS w (.slice (some b0) l0.length c0) (.slice (some b1) l1.length c1) (.slice (some b2) l2.length c2) (.slice (some b3) l3.length c3) W) (z0 z1 z2 z3 : Nat) (a0 : Option Addr) (e0 m1 : Nat) (t0 : RoomIn W (w.heap.size + 2) m1 a0 l0.length e0 l0) (g1 : m1 ≤ W.heap.size) (k1 : (w.heap.size + 2) ≤ m1) (a1 : Option Addr) (e1 m2 : Nat) (t1 : RoomIn W m1 m2 a1 l1.length e1 l1) (g2 : m2 ≤ W.heap.size) (k2 : m1 ≤ m2) (a2 : Option Addr) (e2 m3 : Nat) (t2 : RoomIn W m2 m3 a2 l2.length e2 l2) (g3 : m3 ≤ W.heap.size) (k3 : m2 ≤ m3) (a3 : Option Addr) (e3 m4 : Nat) (t3 : RoomIn W m3 m4 a3 l3.length e3 l3) (g4 : m4 ≤ W.heap.size) (k4 : m3 ≤ m4), Q .normal { tmps := #[.agg #[.slice (some b0) l0.length c0, .slice (some b1) l1.length c1, .slice (some b2) l2.length c2, .slice (some b3) l3.length c3], .pointer (some ⟨w.heap.size, 0, none⟩), .pointer (some ⟨w.heap.size + 1, 0, none⟩), .slice (some ⟨z0, 0, none⟩) 0 0, .pointer (some ⟨w.heap.size, 0, none⟩), .slice (some b0) l0.length c0, .slice a0 l0.length e0, .slice (some ⟨z1, 0, none⟩) 0 0, .pointer (some ⟨w.heap.size, 1, none⟩), .slice (some b1) l1.length c1, .slice a1 l1.length e1, .slice (some ⟨z2, 0, none⟩) 0 0, .pointer (some ⟨w.heap.size, 2, none⟩), .slice (some b2) l2.length c2, .slice a2 l2.length e2, .slice (some ⟨z3, 0, none⟩) 0 0, .pointer (some ⟨w.heap.size, 3, none⟩), .slice (some b3) l3.length c3, .slice a3 l3.length e3, .agg #[.slice a0 l0.length e0, .slice a1 l1.length e1, .slice a2 l2.length e2, .slice a3 l3.length e3]], defers := [] } ((((W.setCell ⟨w.heap.size + 1, 0, none⟩ (.slice a0 l0.length e0)).setCell ⟨w.heap.size + 1, 1, none⟩ (.slice a1 l1.length e1)).setCell ⟨w.heap.size + 1, 2, none⟩ (.slice a2 l2.length e2)).setCell ⟨w.heap.size + 1, 3, none⟩ (.slice a3 l3.length e3)))
    (W : World) (hS : ownS w (.slice (some b0) l0.length c0) (.slice (some b1) l1.length c1) (.slice (some b2) l2.length c2) (.slice (some b3) l3.length c3) W) (z0 z1 z2 : Nat) :
    wpAnyH Try.prog .any ownOps Q (ownS w (.slice (some b0) l0.length c0) (.slice (some b1) l1.length c1) (.slice (some b2) l2.length c2) (.slice (some b3) l3.length c3)) 7 #[true, true, true, false, true, true, true, false, true, true, true, false, false, true, true, false, false, false] { tmps := #[.agg #[.slice (some b0) l0.length c0, .slice (some b1) l1.length c1, .slice (some b2) l2.length c2, .slice (some b3) l3.length c3], .pointer (some ⟨w.heap.size, 0, none⟩), .pointer (some ⟨w.heap.size + 1, 0, none⟩), .slice (some ⟨z0, 0, none⟩) 0 0, .pointer (some ⟨w.heap.size, 0, none⟩), .slice (some b0) l0.length c0, undef, .slice (some ⟨z1, 0, none⟩) 0 0, .pointer (some ⟨w.heap.size, 1, none⟩), .slice (some b1) l1.length c1, undef, .slice (some ⟨z2, 0, none⟩) 0 0, .pointer (some ⟨w.heap.size, 2, none⟩), .slice (some b2) l2.length c2, undef, undef, .pointer (some ⟨w.heap.size, 3, none⟩), .slice (some b3) l3.length c3, undef, undef], defers := [] } W := by
  refine wpAnyH_ready (rs := [3, 12]) (by kernel_rfl) (by simp) ?_
  refine AllReadyH.cons (o := ownOp3) rfl (fun K hK => ?_) ?_
  · refine step_freshP (by rfl) (Operand.tmp 3) (Operand.tmp 5) (by rfl) z0 b0 l0.length c0 l0 (by rfl) (by rfl) rfl (o0.below hS.1 (Nat.le_refl _)) n0 ?_
    intro a0 e0 W' hr hb
    have hS' := ownS_keep hS hb
    refine hK.out _ _ hS' (fun _ => ?_)
    exact ownp_nd1_12 n0 n1 n2 n3 o0 o1 o2 o3 hQ W' hS' z0 z1 z2  a0 e0 W'.heap.size (hr.mono (ownS_ge hS) (Nat.le_refl _)) (Nat.le_refl _) (Nat.le_trans (ownS_ge hS) hb.size)
  refine AllReadyH.cons (o := ownOp12) rfl (fun K hK => ?_) ?_
  · refine step_lit (by rfl) (by rfl) ?_
    intro z3 W' hb
    have hS' := ownS_keep hS hb
    refine hK.out _ _ hS' (fun _ => ?_)
    exact ownp_nd0_0123 n0 n1 n2 n3 o0 o1 o2 o3 hQ W' hS' z0 z1 z2 z3 
  exact AllReadyH.nil

set_option maxRecDepth 20000 in
set_option maxHeartbeats 4000000 in
theorem ownp_nd0_013 {b0 b1 b2 b3 : Addr} {c0 c1 c2 c3 : Nat} {l0 l1 l2 l3 : List (Int × Int)} {w : World} {Q : Exit → Act → World → Prop} (n0 : l0.length ≤ 1048576) (n1 : l1.length ≤ 1048576) (n2 : l2.length ≤ 1048576) (n3 : l3.length ≤ 1048576) (o0 : PRow w (some b0) l0) (o1 : PRow w (some b1) l1) (o2 : PRow w (some b2) l2) (o3 : PRow w (some b3) l3)
    (hQ : ∀ (W : World) (hS : ownS w (.slice (some b0) l0.length c0) (.slice (some b1) l1.length c1) (.slice (some b2) l2.length c2) (.slice (some b3) l3.length c3) W) (z0 z1 z2 z3 : Nat) (a0 : Option Addr) (e0 m1 : Nat) (t0 : RoomIn W (w.heap.size + 2) m1 a0 l0.length e0 l0) (g1 : m1 ≤ W.heap.size) (k1 : (w.heap.size + 2) ≤ m1) (a1 : Option Addr) (e1 m2 : Nat) (t1 : RoomIn W m1 m2 a1 l1.length e1 l1) (g2 : m2 ≤ W.heap.size) (k2 : m1 ≤ m2) (a2 : Option Addr) (e2 m3 : Nat) (t2 : RoomIn W m2 m3 a2 l2.length e2 l2) (g3 : m3 ≤ W.heap.size) (k3 : m2 ≤ m3) (a3 : Option Addr) (e3 m4 : Nat) (t3 : RoomIn W m3 m4 a3 l3.length e3 l3) (g4 : m4 ≤ W.heap.size) (k4 : m3 ≤ m4), Q .normal { tmps := #[.agg #[.slice (some b0) l0.length c0, .slice (some b1) l1.length c1, .slice (some b2) l2.length c2, .slice (some b3) l3.length c3], .pointer (some ⟨w.heap.size, 0, none⟩), .pointer (some ⟨w.heap.size + 1, 0, none⟩), .slice (some ⟨z0, 0, none⟩) 0 0, .pointer (some ⟨w.heap.size, 0, none⟩), .slice (some b0) l0.length c0, .slice a0 l0.length e0, .slice (some ⟨z1, 0, none⟩) 0 0, .pointer (some ⟨w.heap.size, 1, none⟩), .slice (some b1) l1.length c1, .slice a1 l1.length e1, .slice (some ⟨z2, 0, none⟩) 0 0, .pointer (some ⟨w.heap.size, 2, none⟩), .slice (some b2) l2.length c2, .slice a2 l2.length e2, .slice (some ⟨z3, 0, none⟩) 0 0, .pointer (some ⟨w.heap.size, 3, none⟩), .slice (some b3) l3.length c3, .slice a3 l3.length e3, .agg #[.slice a0 l0.length e0, .slice a1 l1.length e1, .slice a2 l2.length e2, .slice a3 l3.length e3]], defers := [] } ((((W.setCell ⟨w.heap.size + 1, 0, none⟩ (.slice a0 l0.length e0)).setCell ⟨w.heap.size + 1, 1, none⟩ (.slice a1 l1.length e1)).setCell ⟨w.heap.size + 1, 2, none⟩ (.slice a2 l2.length e2)).setCell ⟨w.heap.size + 1, 3, none⟩ (.slice a3 l3.length e3)))
    (W : World) (hS : ownS w (.slice (some b0) l0.length c0) (.slice (some b1) l1.length c1) (.slice (some b2) l2.length c2) (.slice (some b3) l3.length c3) W) (z0 z1 z3 : Nat) :
    wpAnyH Try.prog .any ownOps Q (ownS w (.slice (some b0) l0.length c0) (.slice (some b1) l1.length c1) (.slice (some b2) l2.length c2) (.slice (some b3) l3.length c3)) 7 #[true, true, true, false, true, true, true, false, false, true, true, false, true, true, true, false, false, false] { tmps := #[.agg #[.slice (some b0) l0.length c0, .slice (some b1) l1.length c1, .slice (some b2) l2.length c2, .slice (some b3) l3.length c3], .pointer (some ⟨w.heap.size, 0, none⟩), .pointer (some ⟨w.heap.size + 1, 0, none⟩), .slice (some ⟨z0, 0, none⟩) 0 0, .pointer (some ⟨w.heap.size, 0, none⟩), .slice (some b0) l0.length c0, undef, .slice (some ⟨z1, 0, none⟩) 0 0, .pointer (some ⟨w.heap.size, 1, none⟩), .slice (some b1) l1.length c1, undef, undef, .pointer (some ⟨w.heap.size, 2, none⟩), .slice (some b2) l2.length c2, undef, .slice (some ⟨z3, 0, none⟩) 0 0, .pointer (some ⟨w.heap.size, 3, none⟩), .slice (some b3) l3.length c3, undef, undef], defers := [] } W := by
  refine wpAnyH_ready (rs := [3, 8]) (by kernel_rfl) (by simp) ?_
  refine AllReadyH.cons (o := ownOp3) rfl (fun K hK => ?_) ?_
  · refine step_freshP (by rfl) (Operand.tmp 3) (Operand.tmp 5) (by rfl) z0 b0 l0.length c0 l0 (by rfl) (by rfl) rfl (o0.below hS.1 (Nat.le_refl _)) n0 ?_
    intro a0 e0 W' hr hb
    have hS' := ownS_keep hS hb
    refine hK.out _ _ hS' (fun _ => ?_)
    exact ownp_nd1_13 n0 n1 n2 n3 o0 o1 o2 o3 hQ W' hS' z0 z1 z3  a0 e0 W'.heap.size (hr.mono (ownS_ge hS) (Nat.le_refl _)) (Nat.le_refl _) (Nat.le_trans (ownS_ge hS) hb.size)
  refine AllReadyH.cons (o := ownOp8) rfl (fun K hK => ?_) ?_
  · refine step_lit (by rfl) (by rfl) ?_
    intro z2 W' hb
    have hS' := ownS_keep hS hb
    refine hK.out _ _ hS' (fun _ => ?_)
    exact ownp_nd0_0123 n0 n1 n2 n3 o0 o1 o2 o3 hQ W' hS' z0 z1 z2 z3 
  exact AllReadyH.nil

set_option maxRecDepth 20000 in
set_option maxHeartbeats 4000000 in
theorem ownp_nd0_023 {b0 b1 b2 b3 : Addr} {c0 c1 c2 c3 : Nat} {l0 l1 l2 l3 : List (Int × Int)} {w : World} {Q : Exit → Act → World → Prop} (n0 : l0.length ≤ 1048576) (n1 : l1.length ≤ 1048576) (n2 : l2.length ≤ 1048576) (n3 : l3.length ≤ 1048576) (o0 : PRow w (some b0) l0) (o1 : PRow w (some b1) l1) (o2 : PRow w (some b2) l2) (o3 : PRow w (some b3) l3)
    (hQ : ∀ (W : World) (hS : ownS w (.slice (some b0) l0.length c0) (.slice (some b1) l1.length c1) (.slice (some b2) l2.length c2) (.slice (some b3) l3.length c3) W) (z0 z1 z2 z3 : Nat) (a0 : Option Addr) (e0 m1 : Nat) (t0 : RoomIn W (w.heap.size + 2) m1 a0 l0.length e0 l0) (g1 : m1 ≤ W.heap.size) (k1 : (w.heap.size + 2) ≤ m1) (a1 : Option Addr) (e1 m2 : Nat) (t1 : RoomIn W m1 m2 a1 l1.length e1 l1) (g2 : m2 ≤ W.heap.size) (k2 : m1 ≤ m2) (a2 : Option Addr) (e2 m3 : Nat) (t2 : RoomIn W m2 m3 a2 l2.length e2 l2) (g3 : m3 ≤ W.heap.size) (k3 : m2 ≤ m3) (a3 : Option Addr) (e3 m4 : Nat) (t3 : RoomIn W m3 m4 a3 l3.length e3 l3) (g4 : m4 ≤ W.heap.size) (k4 : m3 ≤ m4), Q .normal { tmps := #[.agg #[.slice (some b0) l0.length c0, .slice (some b1) l1.length c1, .slice (some b2) l2.length c2, .slice (some b3) l3.length c3], .pointer (some ⟨w.heap.size, 0, none⟩), .pointer (some ⟨w.heap.size + 1, 0, none⟩), .slice (some ⟨z0, 0, none⟩) 0 0, .pointer (some ⟨w.heap.size, 0, none⟩), .slice (some b0) l0.length c0, .slice a0 l0.length e0, .slice (some ⟨z1, 0, none⟩) 0 0, .pointer (some ⟨w.heap.size, 1, none⟩), .slice (some b1) l1.length c1, .slice a1 l1.length e1, .slice (some ⟨z2, 0, none⟩) 0 0, .pointer (some ⟨w.heap.size, 2, none⟩), .slice (some b2) l2.length c2, .slice a2 l2.length e2, .slice (some ⟨z3, 0, none⟩) 0 0, .pointer (some ⟨w.heap.size, 3, none⟩), .slice (some b3) l3.length c3, .slice a3 l3.length e3, .agg #[.slice a0 l0.length e0, .slice a1 l1.length e1, .slice a2 l2.length e2, .slice a3 l3.length e3]], defers := [] } ((((W.setCell ⟨w.heap.size + 1, 0, none⟩ (.slice a0 l0.length e0)).setCell ⟨w.heap.size + 1, 1, none⟩ (.slice a1 l1.length e1)).setCell ⟨w.heap.size + 1, 2, none⟩ (.slice a2 l2.length e2)).setCell ⟨w.heap.size + 1, 3, none⟩ (.slice a3 l3.length e3)))
    (W : World) (hS : ownS w (.slice (some b0) l0.length c0) (.slice (some b1) l1.length c1) (.slice (some b2) l2.length c2) (.slice (some b3) l3.length c3) W) (z0 z2 z3 : Nat) :
    wpAnyH Try.prog .any ownOps Q (ownS w (.slice (some b0) l0.length c0) (.slice (some b1) l1.length c1) (.slice (some b2) l2.length c2) (.slice (some b3) l3.length c3)) 7 #[true, true, true, false, false, true, true, false, true, true, true, false, true, true, true, false, false, false] { tmps := #[.agg #[.slice (some b0) l0.length c0, .slice (some b1) l1.length c1, .slice (some b2) l2.length c2, .slice (some b3) l3.length c3], .pointer (some ⟨w.heap.size, 0, none⟩), .pointer (some ⟨w.heap.size + 1, 0, none⟩), .slice (some ⟨z0, 0, none⟩) 0 0, .pointer (some ⟨w.heap.size, 0, none⟩), .slice (some b0) l0.length c0, undef, undef, .pointer (some ⟨w.heap.size, 1, none⟩), .slice (some b1) l1.length c1, undef, .slice (some ⟨z2, 0, none⟩) 0 0, .pointer (some ⟨w.heap.size, 2, none⟩), .slice (some b2) l2.length c2, undef, .slice (some ⟨z3, 0, none⟩) 0 0, .pointer (some ⟨w.heap.size, 3, none⟩), .slice (some b3) l3.length c3, undef, undef], defers := [] } W := by
  refine wpAnyH_ready (rs := [3, 4]) (by kernel_rfl) (by simp) ?_
  refine AllReadyH.cons (o := ownOp3) rfl (fun K hK => ?_) ?_
  · refine step_freshP (by rfl) (Operand.tmp 3) (Operand.tmp 5) (by rfl) z0 b0 l0.length c0 l0 (by rfl) (by rfl) rfl (o0.below hS.1 (Nat.le_refl _)) n0 ?_
    intro a0 e0 W' hr hb
    have hS' := ownS_keep hS hb
    refine hK.out _ _ hS' (fun _ => ?_)
    exact ownp_nd1_23 n0 n1 n2 n3 o0 o1 o2 o3 hQ W' hS' z0 z2 z3  a0 e0 W'.heap.size (hr.mono (ownS_ge hS) (Nat.le_refl _)) (Nat.le_refl _) (Nat.le_trans (ownS_ge hS) hb.size)
  refine AllReadyH.cons (o := ownOp4) rfl (fun K hK => ?_) ?_
  · refine step_lit (by rfl) (by rfl) ?_
    intro z1 W' hb
    have hS' := ownS_keep hS hb
    refine hK.out _ _ hS' (fun _ => ?_)
    exact ownp_nd0_0123 n0 n1 n2 n3 o0 o1 o2 o3 hQ W' hS' z0 z1 z2 z3 
  exact AllReadyH.nil

set_option maxRecDepth 20000 in
set_option maxHeartbeats 4000000 in
theorem ownp_nd0_123 {b0 b1 b2 b3 : Addr} {c0 c1 c2 c3 : Nat} {l0 l1 l2 l3 : List (Int × Int)} {w : World} {Q : Exit → Act → World → Prop} (n0 : l0.length ≤ 1048576) (n1 : l1.length ≤ 1048576) (n2 : l2.length ≤ 1048576) (n3 : l3.length ≤ 1048576) (o0 : PRow w (some b0) l0) (o1 : PRow w (some b1) l1) (o2 : PRow w (some b2) l2) (o3 : PRow w (some b3) l3)
    (hQ : ∀ (W : World) (hS : ownS w (.slice (some b0) l0.length c0) (.slice (some b1) l1.length c1) (.slice (some b2) l2.length c2) (.slice (some b3) l3.length c3) W) (z0 z1 z2 z3 : Nat) (a0 : Option Addr) (e0 m1 : Nat) (t0 : RoomIn W (w.heap.size + 2) m1 a0 l0.length e0 l0) (g1 : m1 ≤ W.heap.size) (k1 : (w.heap.size + 2) ≤ m1) (a1 : Option Addr) (e1 m2 : Nat) (t1 : RoomIn W m1 m2 a1 l1.length e1 l1) (g2 : m2 ≤ W.heap.size) (k2 : m1 ≤ m2) (a2 : Option Addr) (e2 m3 : Nat) (t2 : RoomIn W m2 m3 a2 l2.length e2 l2) (g3 : m3 ≤ W.heap.size) (k3 : m2 ≤ m3) (a3 : Option Addr) (e3 m4 : Nat) (t3 : RoomIn W m3 m4 a3 l3.length e3 l3) (g4 : m4 ≤ W.heap.size) (k4 : m3 ≤ m4), Q .normal { tmps := #[.agg #[.slice (some b0) l0.length c0, .slice (some b1) l1.length c1, .slice (some b2) l2.length c2, .slice (some b3) l3.length c3], .pointer (some ⟨w.heap.size, 0, none⟩), .pointer (some ⟨w.heap.size + 1, 0, none⟩), .slice (some ⟨z0, 0, none⟩) 0 0, .pointer (some ⟨w.heap.size, 0, none⟩), .slice (some b0) l0.length c0, .slice a0 l0.length e0, .slice (some ⟨z1, 0, none⟩) 0 0, .pointer (some ⟨w.heap.size, 1, none⟩), .slice (some b1) l1.length c1, .slice a1 l1.length e1, .slice (some ⟨z2, 0, none⟩) 0 0, .pointer (some ⟨w.heap.size, 2, none⟩), .slice (some b2) l2.length c2, .slice a2 l2.length e2, .slice (some ⟨z3, 0, none⟩) 0 0, .pointer (some ⟨w.heap.size, 3, none⟩), .slice (some b3) l3.length c3, .slice a3 l3.length e3, .agg #[.slice a0 l0.length e0, .slice a1 l1.length e1, .slice a2 l2.length e2, .slice a3 l3.length e3]], defers := [] } ((((W.setCell ⟨w.heap.size + 1, 0, none⟩ (.slice a0 l0.length e0)).setCell ⟨w.heap.size + 1, 1, none⟩ (.slice a1 l1.length e1)).setCell ⟨w.heap.size + 1, 2, none⟩ (.slice a2 l2.length e2)).setCell ⟨w.heap.size + 1, 3, none⟩ (.slice a3 l3.length e3)))
    (W : World) (hS : ownS w (.slice (some b0) l0.length c0) (.slice (some b1) l1.length c1) (.slice (some b2) l2.length c2) (.slice (some b3) l3.length c3) W) (z1 z2 z3 : Nat) :
    wpAnyH Try.prog .any ownOps Q (ownS w (.slice (some b0) l0.length c0) (.slice (some b1) l1.length c1) (.slice (some b2) l2.length c2) (.slice (some b3) l3.length c3)) 7 #[false, true, true, false, true, true, true, false, true, true, true, false, true, true, true, false, false, false] { tmps := #[.agg #[.slice (some b0) l0.length c0, .slice (some b1) l1.length c1, .slice (some b2) l2.length c2, .slice (some b3) l3.length c3], .pointer (some ⟨w.heap.size, 0, none⟩), .pointer (some ⟨w.heap.size + 1, 0, none⟩), undef, .pointer (some ⟨w.heap.size, 0, none⟩), .slice (some b0) l0.length c0, undef, .slice (some ⟨z1, 0, none⟩) 0 0, .pointer (some ⟨w.heap.size, 1, none⟩), .slice (some b1) l1.length c1, undef, .slice (some ⟨z2, 0, none⟩) 0 0, .pointer (some ⟨w.heap.size, 2, none⟩), .slice (some b2) l2.length c2, undef, .slice (some ⟨z3, 0, none⟩) 0 0, .pointer (some ⟨w.heap.size, 3, none⟩), .slice (some b3) l3.length c3, undef, undef], defers := [] } W := by
  refine wpAnyH_ready (rs := [0]) (by kernel_rfl) (by simp) ?_
  refine AllReadyH.cons (o := ownOp0) rfl (fun K hK => ?_) ?_
  · refine step_lit (by rfl) (by rfl) ?_
    intro z0 W' hb
    have hS' := ownS_keep hS hb
    refine hK.out _ _ hS' (fun _ => ?_)
    exact ownp_nd0_0123 n0 n1 n2 n3 o0 o1 o2 o3 hQ W' hS' z0 z1 z2 z3 
  exact AllReadyH.nil

set_option maxRecDepth 20000 in
set_option maxHeartbeats 4000000 in
theorem ownp_nd0_01 {b0 b1 b2 b3 : Addr} {c0 c1 c2 c3 : Nat} {l0 l1 l2 l3 : List (Int × Int)} {w : World} {Q : Exit → Act → World → Prop} (n0 : l0.length ≤ 1048576) (n1 : l1.length ≤ 1048576) (n2 : l2.length ≤ 1048576) (n3 : l3.length ≤ 1048576) (o0 : PRow w (some b0) l0) (o1 : PRow w (some b1) l1) (o2 : PRow w (some b2) l2) (o3 : PRow w (some b3) l3)
    (hQ : ∀ (W : World) (hS : ownS w (.slice (some b0) l0.length c0) (.slice (some b1) l1.length c1) (.slice (some b2) l2.length c2) (.slice (some b3) l3.length c3) W) (z0 z1 z2 z3 : Nat) (a0 : Option Addr) (e0 m1 : Nat) (t0 : RoomIn W (w.heap.size + 2) m1 a0 l0.length e0 l0) (g1 : m1 ≤ W.heap.size) (k1 : (w.heap.size + 2) ≤ m1) (a1 : Option Addr) (e1 m2 : Nat) (t1 : RoomIn W m1 m2 a1 l1.length e1 l1) (g2 : m2 ≤ W.heap.size) (k2 : m1 ≤ m2) (a2 : Option Addr) (e2 m3 : Nat) (t2 : RoomIn W m2 m3 a2 l2.length e2 l2) (g3 : m3 ≤ W.heap.size) (k3 : m2 ≤ m3) (a3 : Option Addr) (e3 m4 : Nat) (t3 : RoomIn W m3 m4 a3 l3.length e3 l3) (g4 : m4 ≤ W.heap.size) (k4 : m3 ≤ m4), Q .normal { tmps := #[.agg #[.slice (some b0) l0.length c0, .slice (some b1) l1.length c1, .slice (some b2) l2.length c2, .slice (some b3) l3.length c3], .pointer (some ⟨w.heap.size, 0, none⟩), .pointer (some ⟨w.heap.size + 1, 0, none⟩), .slice (some ⟨z0, 0, none⟩) 0 0, .pointer (some ⟨w.heap.size, 0, none⟩), .slice (some b0) l0.length c0, .slice a0 l0.length e0, .slice (some ⟨z1, 0, none⟩) 0 0, .pointer (some ⟨w.heap.size, 1, none⟩), .slice (some b1) l1.length c1, .slice a1 l1.length e1, .slice (some ⟨z2, 0, none⟩) 0 0, .pointer (some ⟨w.heap.size, 2, none⟩), .slice (some b2) l2.length c2, .slice a2 l2.length e2, .slice (some ⟨z3, 0, none⟩) 0 0, .pointer (some ⟨w.heap.size, 3, none⟩), .slice (some b3) l3.length c3, .slice a3 l3.length e3, .agg #[.slice a0 l0.length e0, .slice a1 l1.length e1, .slice a2 l2.length e2, .slice a3 l3.length e3]], defers := [] } ((((W.setCell ⟨w.heap.size + 1, 0, none⟩ (.slice a0 l0.length e0)).setCell ⟨w.heap.size + 1, 1, none⟩ (.slice a1 l1.length e1)).setCell ⟨w.heap.size + 1, 2, none⟩ (.slice a2 l2.length e2)).setCell ⟨w.heap.size + 1, 3, none⟩ (.slice a3 l3.length e3)))
    (W : World) (hS : ownS w (.slice (some b0) l0.length c0) (.slice (some b1) l1.length c1) (.slice (some b2) l2.length c2) (.slice (some b3) l3.length c3) W) (z0 z1 : Nat) :
    wpAnyH Try.prog .any ownOps Q (ownS w (.slice (some b0) l0.length c0) (.slice (some b1) l1.length c1) (.slice (some b2) l2.length c2) (.slice (some b3) l3.length c3)) 8 #[true, true, true, false, true, true, true, false, false, true, true, false, false, true, true, false, false, false] { tmps := #[.agg #[.slice (some b0) l0.length c0, .slice (some b1) l1.length c1, .slice (some b2) l2.length c2, .slice (some b3) l3.length c3], .pointer (some ⟨w.heap.size, 0, none⟩), .pointer (some ⟨w.heap.size + 1, 0, none⟩), .slice (some ⟨z0, 0, none⟩) 0 0, .pointer (some ⟨w.heap.size, 0, none⟩), .slice (some b0) l0.length c0, undef, .slice (some ⟨z1, 0, none⟩) 0 0, .pointer (some ⟨w.heap.size, 1, none⟩), .slice (some b1) l1.length c1, undef, undef, .pointer (some ⟨w.heap.size, 2, none⟩), .slice (some b2) l2.length c2, undef, undef, .pointer (some ⟨w.heap.size, 3, none⟩), .slice (some b3) l3.length c3, undef, undef], defers := [] } W := by
  refine wpAnyH_ready (rs := [3, 8, 12]) (by kernel_rfl) (by simp) ?_
  refine AllReadyH.cons (o := ownOp3) rfl (fun K hK => ?_) ?_
  · refine step_freshP (by rfl) (Operand.tmp 3) (Operand.tmp 5) (by rfl) z0 b0 l0.length c0 l0 (by rfl) (by rfl) rfl (o0.below hS.1 (Nat.le_refl _)) n0 ?_
    intro a0 e0 W' hr hb
    have hS' := ownS_keep hS hb
    refine hK.out _ _ hS' (fun _ => ?_)
    exact ownp_nd1_1 n0 n1 n2 n3 o0 o1 o2 o3 hQ W' hS' z0 z1  a0 e0 W'.heap.size (hr.mono (ownS_ge hS) (Nat.le_refl _)) (Nat.le_refl _) (Nat.le_trans (ownS_ge hS) hb.size)
  refine AllReadyH.cons (o := ownOp8) rfl (fun K hK => ?_) ?_
  · refine step_lit (by rfl) (by rfl) ?_
    intro z2 W' hb
    have hS' := ownS_keep hS hb
    refine hK.out _ _ hS' (fun _ => ?_)
    exact ownp_nd0_012 n0 n1 n2 n3 o0 o1 o2 o3 hQ W' hS' z0 z1 z2 
  refine AllReadyH.cons (o := ownOp12) rfl (fun K hK => ?_) ?_
  · refine step_lit (by rfl) (by rfl) ?_
    intro z3 W' hb
    have hS' := ownS_keep hS hb
    refine hK.out _ _ hS' (fun _ => ?_)
    exact ownp_nd0_013 n0 n1 n2 n3 o0 o1 o2 o3 hQ W' hS' z0 z1 z3 
  exact AllReadyH.nil

set_option maxRecDepth 20000 in
set_option maxHeartbeats 4000000 in
theorem ownp_nd0_02 {b0 b1 b2 b3 : Addr} {c0 c1 c2 c3 : Nat} {l0 l1 l2 l3 : List (Int × Int)} {w : World} {Q : Exit → Act → World → Prop} (n0 : l0.length ≤ 1048576) (n1 : l1.length ≤ 1048576) (n2 : l2.length ≤ 1048576) (n3 : l3.length ≤ 1048576) (o0 : PRow w (some b0) l0) (o1 : PRow w (some b1) l1) (o2 : PRow w (some b2) l2) (o3 : PRow w (some b3) l3)
    (hQ : ∀ (W : World) (hS : ownS w (.slice (some b0) l0.length c0) (.slice (some b1) l1.length c1) (.slice (some b2) l2.length c2) (.slice (some b3) l3.length c3) W) (z0 z1 z2 z3 : Nat) (a0 : Option Addr) (e0 m1 : Nat) (t0 : RoomIn W (w.heap.size + 2) m1 a0 l0.length e0 l0) (g1 : m1 ≤ W.heap.size) (k1 : (w.heap.size + 2) ≤ m1) (a1 : Option Addr) (e1 m2 : Nat) (t1 : RoomIn W m1 m2 a1 l1.length e1 l1) (g2 : m2 ≤ W.heap.size) (k2 : m1 ≤ m2) (a2 : Option Addr) (e2 m3 : Nat) (t2 : RoomIn W m2 m3 a2 l2.length e2 l2) (g3 : m3 ≤ W.heap.size) (k3 : m2 ≤ m3) (a3 : Option Addr) (e3 m4 : Nat) (t3 : RoomIn W m3 m4 a3 l3.length e3 l3) (g4 : m4 ≤ W.heap.size) (k4 : m3 ≤ m4), Q .normal { tmps := #[.agg #[.slice (some b0) l0.length c0, .slice (some b1) l1.length c1, .slice (some b2) l2.length c2, .slice (some b3) l3.length c3], .pointer (some ⟨w.heap.size, 0, none⟩), .pointer (some ⟨w.heap.size + 1, 0, none⟩), .slice (some ⟨z0, 0, none⟩) 0 0, .pointer (some ⟨w.heap.size, 0, none⟩), .slice (some b0) l0.length c0, .slice a0 l0.length e0, .slice (some ⟨z1, 0, none⟩) 0 0, .pointer (some ⟨w.heap.size, 1, none⟩), .slice (some b1) l1.length c1, .slice a1 l1.length e1, .slice (some ⟨z2, 0, none⟩) 0 0, .pointer (some ⟨w.heap.size, 2, none⟩), .slice (some b2) l2.length c2, .slice a2 l2.length e2, .slice (some ⟨z3, 0, none⟩) 0 0, .pointer (some ⟨w.heap.size, 3, none⟩), .slice (some b3) l3.length c3, .slice a3 l3.length e3, .agg #[.slice a0 l0.length e0, .slice a1 l1.length e1, .slice a2 l2.length e2, .slice a3 l3.length e3]], defers := [] } ((((W.setCell ⟨w.heap.size + 1, 0, none⟩ (.slice a0 l0.length e0)).setCell ⟨w.heap.size + 1, 1, none⟩ (.slice a1 l1.length e1)).setCell ⟨w.heap.size + 1, 2, none⟩ (.slice a2 l2.length e2)).setCell ⟨w.heap.size + 1, 3, none⟩ (.slice a3 l3.length e3)))
    (W : World) (hS : ownS w (.slice (some b0) l0.length c0) (.slice (some b1) l1.length c1) (.slice (some b2) l2.length c2) (.slice (some b3) l3.length c3) W) (z0 z2 : Nat) :
    wpAnyH Try.prog .any ownOps Q (ownS w (.slice (some b0) l0.length c0) (.slice (some b1) l1.length c1) (.slice (some b2) l2.length c2) (.slice (some b3) l3.length c3)) 8 #[true, true, true, false, false, true, true, false, true, true, true, false, false, true, true, false, false, false] { tmps := #[.agg #[.slice (some b0) l0.length c0, .slice (some b1) l1.length c1, .slice (some b2) l2.length c2, .slice (some b3) l3.length c3], .pointer (some ⟨w.heap.size, 0, none⟩), .pointer (some ⟨w.heap.size + 1, 0, none⟩), .slice (some ⟨z0, 0, none⟩) 0 0, .pointer (some ⟨w.heap.size, 0, none⟩), .slice (some b0) l0.length c0, undef, undef, .pointer (some ⟨w.heap.size, 1, none⟩), .slice (some b1) l1.length c1, undef, .slice (some ⟨z2, 0, none⟩) 0 0, .pointer (some ⟨w.heap.size, 2, none⟩), .slice (some b2) l2.length c2, undef, undef, .pointer (some ⟨w.heap.size, 3, none⟩), .slice (some b3) l3.length c3, undef, undef], defers := [] } W := by
  refine wpAnyH_ready (rs := [3, 4, 12]) (by kernel_rfl) (by simp) ?_
  refine AllReadyH.cons (o := ownOp3) rfl (fun K hK => ?_) ?_
  · refine step_freshP (by rfl) (Operand.tmp 3) (Operand.tmp 5) (by rfl) z0 b0 l0.length c0 l0 (by rfl) (by rfl) rfl (o0.below hS.1 (Nat.le_refl _)) n0 ?_
    intro a0 e0 W' hr hb
    have hS' := ownS_keep hS hb
    refine hK.out _ _ hS' (fun _ => ?_)
    exact ownp_nd1_2 n0 n1 n2 n3 o0 o1 o2 o3 hQ W' hS' z0 z2  a0 e0 W'.heap.size (hr.mono (ownS_ge hS) (Nat.le_refl _)) (Nat.le_refl _) (Nat.le_trans (ownS_ge hS) hb.size)
  refine AllReadyH.cons (o := ownOp4) rfl (fun K hK => ?_) ?_
  · refine step_lit (by rfl) (by rfl) ?_
    intro z1 W' hb
    have hS' := ownS_keep hS hb
    refine hK.out _ _ hS' (fun _ => ?_)
    exact ownp_nd0_012 n0 n1 n2 n3 o0 o1 o2 o3 hQ W' hS' z0 z1 z2 
  refine AllReadyH.cons (o := ownOp12) rfl (fun K hK => ?_) ?_
  · refine step_lit (by rfl) (by rfl) ?_
    intro z3 W' hb
    have hS' := ownS_keep hS hb
    refine hK.out _ _ hS' (fun _ => ?_)
    exact ownp_nd0_023 n0 n1 n2 n3 o0 o1 o2 o3 hQ W' hS' z0 z2 z3 
  exact AllReadyH.nil

set_option maxRecDepth 20000 in
set_option maxHeartbeats 4000000 in
theorem ownp_nd0_03 {b0 b1 b2 b3 : Addr} {c0 c1 c2 c3 : Nat} {l0 l1 l2 l3 : List (Int × Int)} {w : World} {Q : Exit → Act → World → Prop} (n0 : l0.length ≤ 1048576) (n1 : l1.length ≤ 1048576) (n2 : l2.length ≤ 1048576) (n3 : l3.length ≤ 1048576) (o0 : PRow w (some b0) l0) (o1 : PRow w (some b1) l1) (o2 : PRow w (some b2) l2) (o3 : PRow w (some b3) l3)
    (hQ : ∀ (W : World) (hS : ownS w (.slice (some b0) l0.length c0) (.slice (some b1) l1.length c1) (.slice (some b2) l2.length c2) (.slice (some b3) l3.length c3) W) (z0 z1 z2 z3 : Nat) (a0 : Option Addr) (e0 m1 : Nat) (t0 : RoomIn W (w.heap.size + 2) m1 a0 l0.length e0 l0) (g1 : m1 ≤ W.heap.size) (k1 : (w.heap.size + 2) ≤ m1) (a1 : Option Addr) (e1 m2 : Nat) (t1 : RoomIn W m1 m2 a1 l1.length e1 l1) (g2 : m2 ≤ W.heap.size) (k2 : m1 ≤ m2) (a2 : Option Addr) (e2 m3 : Nat) (t2 : RoomIn W m2 m3 a2 l2.length e2 l2) (g3 : m3 ≤ W.heap.size) (k3 : m2 ≤ m3) (a3 : Option Addr) (e3 m4 : Nat) (t3 : RoomIn W m3 m4 a3 l3.length e3 l3) (g4 : m4 ≤ W.heap.size) (k4 : m3 ≤ m4), Q .normal { tmps := #[.agg #[.slice (some b0) l0.length c0, .slice (some b1) l1.length c1, .slice (some b2) l2.length c2, .slice (some b3) l3.length c3], .pointer (some ⟨w.heap.size, 0, none⟩), .pointer (some ⟨w.heap.size + 1, 0, none⟩), .slice (some ⟨z0, 0, none⟩) 0 0, .pointer (some ⟨w.heap.size, 0, none⟩), .slice (some b0) l0.length c0, .slice a0 l0.length e0, .slice (some ⟨z1, 0, none⟩) 0 0, .pointer (some ⟨w.heap.size, 1, none⟩), .slice (some b1) l1.length c1, .slice a1 l1.length e1, .slice (some ⟨z2, 0, none⟩) 0 0, .pointer (some ⟨w.heap.size, 2, none⟩), .slice (some b2) l2.length c2, .slice a2 l2.length e2, .slice (some ⟨z3, 0, none⟩) 0 0, .pointer (some ⟨w.heap.size, 3, none⟩), .slice (some b3) l3.length c3, .slice a3 l3.length e3, .agg #[.slice a0 l0.length e0, .slice a1 l1.length e1, .slice a2 l2.length e2, .slice a3 l3.length e3]], defers := [] } ((((W.setCell ⟨w.heap.size + 1, 0, none⟩ (.slice a0 l0.length e0)).setCell ⟨w.heap.size + 1, 1, none⟩ (.slice a1 l1.length e1)).setCell ⟨w.heap.size + 1, 2, none⟩ (.slice a2 l2.length e2)).setCell ⟨w.heap.size + 1, 3, none⟩ (.slice a3 l3.length e3)))
    (W : World) (hS : ownS w (.slice (some b0) l0.length c0) (.slice (some b1) l1.length c1) (.slice (some b2) l2.length c2) (.slice (some b3) l3.length c3) W) (z0 z3 : Nat) :
    wpAnyH Try.prog .any ownOps Q (ownS w (.slice (some b0) l0.length c0) (.slice (some b1) l1.length c1) (.slice (some b2) l2.length c2) (.slice (some b3) l3.length c3)) 8 #[true, true, true, false, false, true, true, false, false, true, true, false, true, true, true, false, false, false] { tmps := #[.agg #[.slice (some b0) l0.length c0, .slice (some b1) l1.length c1, .slice (some b2) l2.length c2, .slice (some b3) l3.length c3], .pointer (some ⟨w.heap.size, 0, none⟩), .pointer (some ⟨w.heap.size + 1, 0, none⟩), .slice (some ⟨z0, 0, none⟩) 0 0, .pointer (some ⟨w.heap.size, 0, none⟩), .slice (some b0) l0.length c0, undef, undef, .pointer (some ⟨w.heap.size, 1, none⟩), .slice (some b1) l1.length c1, undef, undef, .pointer (some ⟨w.heap.size, 2, none⟩), .slice (some b2) l2.length c2, undef, .slice (some ⟨z3, 0, none⟩) 0 0, .pointer (some ⟨w.heap.size, 3, none⟩), .slice (some b3) l3.length c3, undef, undef], defers := [] } W := by
  refine wpAnyH_ready (rs := [3, 4, 8]) (by kernel_rfl) (by simp) ?_
  refine AllReadyH.cons (o := ownOp3) rfl (fun K hK => ?_) ?_
  · refine step_freshP (by rfl) (Operand.tmp 3) (Operand.tmp 5) (by rfl) z0 b0 l0.length c0 l0 (by rfl) (by rfl) rfl (o0.below hS.1 (Nat.le_refl _)) n0 ?_
    intro a0 e0 W' hr hb
    have hS' := ownS_keep hS hb
    refine hK.out _ _ hS' (fun _ => ?_)
    exact ownp_nd1_3 n0 n1 n2 n3 o0 o1 o2 o3 hQ W' hS' z0 z3  a0 e0 W'.heap.size (hr.mono (ownS_ge hS) (Nat.le_refl _)) (Nat.le_refl _) (Nat.le_trans (ownS_ge hS) hb.size)
  refine AllReadyH.cons (o := ownOp4) rfl (fun K hK => ?_) ?_
  · refine step_lit (by rfl) (by rfl) ?_
    intro z1 W' hb
    have hS' := ownS_keep hS hb
    refine hK.out _ _ hS' (fun _ => ?_)
    exact ownp_nd0_013 n0 n1 n2 n3 o0 o1 o2 o3 hQ W' hS' z0 z1 z3 
  refine AllReadyH.cons (o := ownOp8) rfl (fun K hK => ?_) ?_
  · refine step_lit (by rfl) (by rfl) ?_
    intro z2 W' hb
    have hS' := ownS_keep hS hb
    refine hK.out _ _ hS' (fun _ => ?_)
    exact ownp_nd0_023 n0 n1 n2 n3 o0 o1 o2 o3 hQ W' hS' z0 z2 z3 
  exact AllReadyH.nil

set_option maxRecDepth 20000 in
set_option maxHeartbeats 4000000 in
theorem ownp_nd0_12 {b0 b1 b2 b3 : Addr} {c0 c1 c2 c3 : Nat} {l0 l1 l2 l3 : List (Int × Int)} {w : World} {Q : Exit → Act → World → Prop} (n0 : l0.length ≤ 1048576) (n1 : l1.length ≤ 1048576) (n2 : l2.length ≤ 1048576) (n3 : l3.length ≤ 1048576) (o0 : PRow w (some b0) l0) (o1 : PRow w (some b1) l1) (o2 : PRow w (some b2) l2) (o3 : PRow w (some b3) l3)
    (hQ : ∀ (W : World) (hS : ownS w (.slice (some b0) l0.length c0) (.slice (some b1) l1.length c1) (.slice (some b2) l2.length c2) (.slice (some b3) l3.length c3) W) (z0 z1 z2 z3 : Nat) (a0 : Option Addr) (e0 m1 : Nat) (t0 : RoomIn W (w.heap.size + 2) m1 a0 l0.length e0 l0) (g1 : m1 ≤ W.heap.size) (k1 : (w.heap.size + 2) ≤ m1) (a1 : Option Addr) (e1 m2 : Nat) (t1 : RoomIn W m1 m2 a1 l1.length e1 l1) (g2 : m2 ≤ W.heap.size) (k2 : m1 ≤ m2) (a2 : Option Addr) (e2 m3 : Nat) (t2 : RoomIn W m2 m3 a2 l2.length e2 l2) (g3 : m3 ≤ W.heap.size) (k3 : m2 ≤ m3) (a3 : Option Addr) (e3 m4 : Nat) (t3 : RoomIn W m3 m4 a3 l3.length e3 l3) (g4 : m4 ≤ W.heap.size) (k4 : m3 ≤ m4), Q .normal { tmps := #[.agg #[.slice (some b0) l0.length c0, .slice (some b1) l1.length c1, .slice (some b2) l2.length c2, .slice (some b3) l3.length c3], .pointer (some ⟨w.heap.size, 0, none⟩), .pointer (some ⟨w.heap.size + 1, 0, none⟩), .slice (some ⟨z0, 0, none⟩) 0 0, .pointer (some ⟨w.heap.size, 0, none⟩), .slice (some b0) l0.length c0, .slice a0 l0.length e0, .slice (some ⟨z1, 0, none⟩) 0 0, .pointer (some ⟨w.heap.size, 1, none⟩), .slice (some b1) l1.length c1, .slice a1 l1.length e1, .slice (some ⟨z2, 0, none⟩) 0 0, .pointer (some ⟨w.heap.size, 2, none⟩), .slice (some b2) l2.length c2, .slice a2 l2.length e2, .slice (some ⟨z3, 0, none⟩) 0 0, .pointer (some ⟨w.heap.size, 3, none⟩), .slice (some b3) l3.length c3, .slice a3 l3.length e3, .agg #[.slice a0 l0.length e0, .slice a1 l1.length e1, .slice a2 l2.length e2, .slice a3 l3.length e3]], defers := [] } ((((W.setCell ⟨w.heap.size + 1, 0, none⟩ (.slice a0 l0.length e0)).setCell ⟨w.heap.size + 1, 1, none⟩ (.slice a1 l1.length e1)).setCell ⟨w.heap.size + 1, 2, none⟩ (.slice a2 l2.length e2)).setCell ⟨w.heap.size + 1, 3, none⟩ (.slice a3 l3.length e3)))
    (W : World) (hS : ownS w (.slice (some b0) l0.length c0) (.slice (some b1) l1.length c1) (.slice (some b2) l2.length c2) (.slice (some b3) l3.length c3) W) (z1 z2 : Nat) :
    wpAnyH Try.prog .any ownOps Q (ownS w (.slice (some b0) l0.length c0) (.slice (some b1) l1.length c1) (.slice (some b2) l2.length c2) (.slice (some b3) l3.length c3)) 8 #[false, true, true, false, true, true, true, false, true, true, true, false, false, true, true, false, false, false] { tmps := #[.agg #[.slice (some b0) l0.length c0, .slice (some b1) l1.length c1, .slice (some b2) l2.length c2, .slice (some b3) l3.length c3], .pointer (some ⟨w.heap.size, 0, none⟩), .pointer (some ⟨w.heap.size + 1, 0, none⟩), undef, .pointer (some ⟨w.heap.size, 0, none⟩), .slice (some b0) l0.length c0, undef, .slice (some ⟨z1, 0, none⟩) 0 0, .pointer (some ⟨w.heap.size, 1, none⟩), .slice (some b1) l1.length c1, undef, .slice (some ⟨z2, 0, none⟩) 0 0, .pointer (some ⟨w.heap.size, 2, none⟩), .slice (some b2) l2.length c2, undef, undef, .pointer (some ⟨w.heap.size, 3, none⟩), .slice (some b3) l3.length c3, undef, undef], defers := [] } W := by
  refine wpAnyH_ready (rs := [0, 12]) (by kernel_rfl) (by simp) ?_
  refine AllReadyH.cons (o := ownOp0) rfl (fun K hK => ?_) ?_
  · refine step_lit (by rfl) (by rfl) ?_
    intro z0 W' hb
    have hS' := ownS_keep hS hb
    refine hK.out _ _ hS' (fun _ => ?_)
    exact ownp_nd0_012 n0 n1 n2 n3 o0 o1 o2 o3 hQ W' hS' z0 z1 z2 
  refine AllReadyH.cons (o := ownOp12) rfl (fun K hK => ?_) ?_
  · refine step_lit (by rfl) (by rfl) ?_
    intro z3 W' hb
    have hS' := ownS_keep hS hb
    refine hK.out _ _ hS' (fun _ => ?_)
    exact ownp_nd0_123 n0 n1 n2 n3 o0 o1 o2 o3 hQ W' hS' z1 z2 z3 
  exact AllReadyH.nil

set_option maxRecDepth 20000 in
set_option maxHeartbeats 4000000 in
theorem ownp_nd0_13 {b0 b1 b2 b3 : Addr} {c0 c1 c2 c3 : Nat} {l0 l1 l2 l3 : List (Int × Int)} {w : World} {Q : Exit → Act → World → Prop} (n0 : l0.length ≤ 1048576) (n1 : l1.length ≤ 1048576) (n2 : l2.length ≤ 1048576) (n3 : l3.length ≤ 1048576) (o0 : PRow w (some b0) l0) (o1 : PRow w (some b1) l1) (o2 : PRow w (some b2) l2) (o3 : PRow w (some b3) l3)
    (hQ : ∀ (W : World) (hS : ownS w (.slice (some b0) l0.length c0) (.slice (some b1) l1.length c1) (.slice (some b2) l2.length c2) (.slice (some b3) l3.length c3) W) (z0 z1 z2 z3 : Nat) (a0 : Option Addr) (e0 m1 : Nat) (t0 : RoomIn W (w.heap.size + 2) m1 a0 l0.length e0 l0) (g1 : m1 ≤ W.heap.size) (k1 : (w.heap.size + 2) ≤ m1) (a1 : Option Addr) (e1 m2 : Nat) (t1 : RoomIn W m1 m2 a1 l1.length e1 l1) (g2 : m2 ≤ W.heap.size) (k2 : m1 ≤ m2) (a2 : Option Addr) (e2 m3 : Nat) (t2 : RoomIn W m2 m3 a2 l2.length e2 l2) (g3 : m3 ≤ W.heap.size) (k3 : m2 ≤ m3) (a3 : Option Addr) (e3 m4 : Nat) (t3 : RoomIn W m3 m4 a3 l3.length e3 l3) (g4 : m4 ≤ W.heap.size) (k4 : m3 ≤ m4), Q .normal { tmps := #[.agg #[.slice (some b0) l0.length c0, .slice (some b1) l1.length c1, .slice (some b2) l2.length c2, .slice (some b3) l3.length c3], .pointer (some ⟨w.heap.size, 0, none⟩), .pointer (some ⟨w.heap.size + 1, 0, none⟩), .slice (some ⟨z0, 0, none⟩) 0 0, .pointer (some ⟨w.heap.size, 0, none⟩), .slice (some b0) l0.length c0, .slice a0 l0.length e0, .slice (some ⟨z1, 0, none⟩) 0 0, .pointer (some ⟨w.heap.size, 1, none⟩), .slice (some b1) l1.length c1, .slice a1 l1.length e1, .slice (some ⟨z2, 0, none⟩) 0 0, .pointer (some ⟨w.heap.size, 2, none⟩), .slice (some b2) l2.length c2, .slice a2 l2.length e2, .slice (some ⟨z3, 0, none⟩) 0 0, .pointer (some ⟨w.heap.size, 3, none⟩), .slice (some b3) l3.length c3, .slice a3 l3.length e3, .agg #[.slice a0 l0.length e0, .slice a1 l1.length e1, .slice a2 l2.length e2, .slice a3 l3.length e3]], defers := [] } ((((W.setCell ⟨w.heap.size + 1, 0, none⟩ (.slice a0 l0.length e0)).setCell ⟨w.heap.size + 1, 1, none⟩ (.slice a1 l1.length e1)).setCell ⟨w.heap.size + 1, 2, none⟩ (.slice a2 l2.length e2)).setCell ⟨w.heap.size + 1, 3, none⟩ (.slice a3 l3.length e3)))
    (W : World) (hS : ownS w (.slice (some b0) l0.length c0) (.slice (some b1) l1.length c1) (.slice (some b2) l2.length c2) (.slice (some b3) l3.length c3) W) (z1 z3 : Nat) :
    wpAnyH Try.prog .any ownOps Q (ownS w (.slice (some b0) l0.length c0) (.slice (some b1) l1.length c1) (.slice (some b2) l2.length c2) (.slice (some b3) l3.length c3)) 8 #[false, true, true, false, true, true, true, false, false, true, true, false, true, true, true, false, false, false] { tmps := #[.agg #[.slice (some b0) l0.length c0, .slice (some b1) l1.length c1, .slice (some b2) l2.length c2, .slice (some b3) l3.length c3], .pointer (some ⟨w.heap.size, 0, none⟩), .pointer (some ⟨w.heap.size + 1, 0, none⟩), undef, .pointer (some ⟨w.heap.size, 0, none⟩), .slice (some b0) l0.length c0, undef, .slice (some ⟨z1, 0, none⟩) 0 0, .pointer (some ⟨w.heap.size, 1, none⟩), .slice (some b1) l1.length c1, undef, undef, .pointer (some ⟨w.heap.size, 2, none⟩), .slice (some b2) l2.length c2, undef, .slice (some ⟨z3, 0, none⟩) 0 0, .pointer (some ⟨w.heap.size, 3, none⟩), .slice (some b3) l3.length c3, undef, undef], defers := [] } W := by
  refine wpAnyH_ready (rs := [0, 8]) (by kernel_rfl) (by simp) ?_
  refine AllReadyH.cons (o := ownOp0) rfl (fun K hK => ?_) ?_
  · refine step_lit (by rfl) (by rfl) ?_
    intro z0 W' hb
    have hS' := ownS_keep hS hb
    refine hK.out _ _ hS' (fun _ => ?_)
    exact ownp_nd0_013 n0 n1 n2 n3 o0 o1 o2 o3 hQ W' hS' z0 z1 z3 
  refine AllReadyH.cons (o := ownOp8) rfl (fun K hK => ?_) ?_
  · refine step_lit (by rfl) (by rfl) ?_
    intro z2 W' hb
    have hS' := ownS_keep hS hb
    refine hK.out _ _ hS' (fun _ => ?_)
    exact ownp_nd0_123 n0 n1 n2 n3 o0 o1 o2 o3 hQ W' hS' z1 z2 z3 
  exact AllReadyH.nil

set_option maxRecDepth 20000 in
set_option maxHeartbeats 4000000 in
theorem ownp_nd0_23 {b0 b1 b2 b3 : Addr} {c0 c1 c2 c3 : Nat} {l0 l1 l2 l3 : List (Int × Int)} {w : World} {Q : Exit → Act → World → Prop} (n0 : l0.length ≤ 1048576) (n1 : l1.length ≤ 1048576) (n2 : l2.length ≤ 1048576) (n3 : l3.length ≤ 1048576) (o0 : PRow w (some b0) l0) (o1 : PRow w (some b1) l1) (o2 : PRow w (some b2) l2) (o3 : PRow w (some b3) l3)
    (hQ : ∀ (W : World) (hS : ownS w (.slice (some b0) l0.length c0) (.slice (some b1) l1.length c1) (.slice (some b2) l2.length c2) (.slice (some b3) l3.length c3) W) (z0 z1 z2 z3 : Nat) (a0 : Option Addr) (e0 m1 : Nat) (t0 : RoomIn W (w.heap.size + 2) m1 a0 l0.length e0 l0) (g1 : m1 ≤ W.heap.size) (k1 : (w.heap.size + 2) ≤ m1) (a1 : Option Addr) (e1 m2 : Nat) (t1 : RoomIn W m1 m2 a1 l1.length e1 l1) (g2 : m2 ≤ W.heap.size) (k2 : m1 ≤ m2) (a2 : Option Addr) (e2 m3 : Nat) (t2 : RoomIn W m2 m3 a2 l2.length e2 l2) (g3 : m3 ≤ W.heap.size) (k3 : m2 ≤ m3) (a3 : Option Addr) (e3 m4 : Nat) (t3 : RoomIn W m3 m4 a3 l3.length e3 l3) (g4 : m4 ≤ W.heap.size) (k4 : m3 ≤ m4), Q .normal { tmps := #[.agg #[.slice (some b0) l0.length c0, .slice (some b1) l1.length c1, .slice (some b2) l2.length c2, .slice (some b3) l3.length c3], .pointer (some ⟨w.heap.size, 0, none⟩), .pointer (some ⟨w.heap.size + 1, 0, none⟩), .slice (some ⟨z0, 0, none⟩) 0 0, .pointer (some ⟨w.heap.size, 0, none⟩), .slice (some b0) l0.length c0, .slice a0 l0.length e0, .slice (some ⟨z1, 0, none⟩) 0 0, .pointer (some ⟨w.heap.size, 1, none⟩), .slice (some b1) l1.length c1, .slice a1 l1.length e1, .slice (some ⟨z2, 0, none⟩) 0 0, .pointer (some ⟨w.heap.size, 2, none⟩), .slice (some b2) l2.length c2, .slice a2 l2.length e2, .slice (some ⟨z3, 0, none⟩) 0 0, .pointer (some ⟨w.heap.size, 3, none⟩), .slice (some b3) l3.length c3, .slice a3 l3.length e3, .agg #[.slice a0 l0.length e0, .slice a1 l1.length e1, .slice a2 l2.length e2, .slice a3 l3.length e3]], defers := [] } ((((W.setCell ⟨w.heap.size + 1, 0, none⟩ (.slice a0 l0.length e0)).setCell ⟨w.heap.size + 1, 1, none⟩ (.slice a1 l1.length e1)).setCell ⟨w.heap.size + 1, 2, none⟩ (.slice a2 l2.length e2)).setCell ⟨w.heap.size + 1, 3, none⟩ (.slice a3 l3.length e3)))
    (W : World) (hS : ownS w (.slice (some b0) l0.length c0) (.slice (some b1) l1.length c1) (.slice (some b2) l2.length c2) (.slice (some b3) l3.length c3) W) (z2 z3 : Nat) :
    wpAnyH Try.prog .any ownOps Q (ownS w (.slice (some b0) l0.length c0) (.slice (some b1) l1.length c1) (.slice (some b2) l2.length c2) (.slice (some b3) l3.length c3)) 8 #[false, true, true, false, false, true, true, false, true, true, true, false, true, true, true, false, false, false] { tmps := #[.agg #[.slice (some b0) l0.length c0, .slice (some b1) l1.length c1, .slice (some b2) l2.length c2, .slice (some b3) l3.length c3], .pointer (some ⟨w.heap.size, 0, none⟩), .pointer (some ⟨w.heap.size + 1, 0, none⟩), undef, .pointer (some ⟨w.heap.size, 0, none⟩), .slice (some b0) l0.length c0, undef, undef, .pointer (some ⟨w.heap.size, 1, none⟩), .slice (some b1) l1.length c1, undef, .slice (some ⟨z2, 0, none⟩) 0 0, .pointer (some ⟨w.heap.size, 2, none⟩), .slice (some b2) l2.length c2, undef, .slice (some ⟨z3, 0, none⟩) 0 0, .pointer (some ⟨w.heap.size, 3, none⟩), .slice (some b3) l3.length c3, undef, undef], defers := [] } W := by
  refine wpAnyH_ready (rs := [0, 4]) (by kernel_rfl) (by simp) ?_
  refine AllReadyH.cons (o := ownOp0) rfl (fun K hK => ?_) ?_
  · refine step_lit (by rfl) (by rfl) ?_
    intro z0 W' hb
    have hS' := ownS_keep hS hb
    refine hK.out _ _ hS' (fun _ => ?_)
    exact ownp_nd0_023 n0 n1 n2 n3 o0 o1 o2 o3 hQ W' hS' z0 z2 z3 
  refine AllReadyH.cons (o := ownOp4) rfl (fun K hK => ?_) ?_
  · refine step_lit (by rfl) (by rfl) ?_
    intro z1 W' hb
    have hS' := ownS_keep hS hb
    refine hK.out _ _ hS' (fun _ => ?_)
    exact ownp_nd0_123 n0 n1 n2 n3 o0 o1 o2 o3 hQ W' hS' z1 z2 z3 
  exact AllReadyH.nil

set_option maxRecDepth 20000 in
set_option maxHeartbeats 4000000 in
theorem ownp_nd0_0 {b0 b1 b2 b3 : Addr} {c0 c1 c2 c3 : Nat} {l0 l1 l2 l3 : List (Int × Int)} {w : World} {Q : Exit → Act → World → Prop} (n0 : l0.length ≤ 1048576) (n1 : l1.length ≤ 1048576) (n2 : l2.length ≤ 1048576) (n3 : l3.length ≤ 1048576) (o0 : PRow w (some b0) l0) (o1 : PRow w (some b1) l1) (o2 : PRow w (some b2) l2) (o3 : PRow w (some b3) l3)
    (hQ : ∀ (W : World) (hS : ownS w (.slice (some b0) l0.length c0) (.slice (some b1) l1.length c1) (.slice (some b2) l2.length c2) (.slice (some b3) l3.length c3) W) (z0 z1 z2 z3 : Nat) (a0 : Option Addr) (e0 m1 : Nat) (t0 : RoomIn W (w.heap.size + 2) m1 a0 l0.length e0 l0) (g1 : m1 ≤ W.heap.size) (k1 : (w.heap.size + 2) ≤ m1) (a1 : Option Addr) (e1 m2 : Nat) (t1 : RoomIn W m1 m2 a1 l1.length e1 l1) (g2 : m2 ≤ W.heap.size) (k2 : m1 ≤ m2) (a2 : Option Addr) (e2 m3 : Nat) (t2 : RoomIn W m2 m3 a2 l2.length e2 l2) (g3 : m3 ≤ W.heap.size) (k3 : m2 ≤ m3) (a3 : Option Addr) (e3 m4 : Nat) (t3 : RoomIn W m3 m4 a3 l3.length e3 l3) (g4 : m4 ≤ W.heap.size) (k4 : m3 ≤ m4), Q .normal { tmps := #[.agg #[.slice (some b0) l0.length c0, .slice (some b1) l1.length c1, .slice (some b2) l2.length c2, .slice (some b3) l3.length c3], .pointer (some ⟨w.heap.size, 0, none⟩), .pointer (some ⟨w.heap.size + 1, 0, none⟩), .slice (some ⟨z0, 0, none⟩) 0 0, .pointer (some ⟨w.heap.size, 0, none⟩), .slice (some b0) l0.length c0, .slice a0 l0.length e0, .slice (some ⟨z1, 0, none⟩) 0 0, .pointer (some ⟨w.heap.size, 1, none⟩), .slice (some b1) l1.length c1, .slice a1 l1.length e1, .slice (some ⟨z2, 0, none⟩) 0 0, .pointer (some ⟨w.heap.size, 2, none⟩), .slice (some b2) l2.length c2, .slice a2 l2.length e2, .slice (some ⟨z3, 0, none⟩) 0 0, .pointer (some ⟨w.heap.size, 3, none⟩), .slice (some b3) l3.length c3, .slice a3 l3.length e3, .agg #[.slice a0 l0.length e0, .slice a1 l1.length e1, .slice a2 l2.length e2, .slice a3 l3.length e3]], defers := [] } ((((W.setCell ⟨w.heap.size + 1, 0, none⟩ (.slice a0 l0.length e0)).setCell ⟨w.heap.size + 1, 1, none⟩ (.slice a1 l1.length e1)).setCell ⟨w.heap.size + 1, 2, none⟩ (.slice a2 l2.length e2)).setCell ⟨w.heap.size + 1, 3, none⟩ (.slice a3 l3.length e3)))
    (W : World) (hS : ownS w (.slice (some b0) l0.length c0) (.slice (some b1) l1.length c1) (.slice (some b2) l2.length c2) (.slice (some b3) l3.length c3) W) (z0 : Nat) :
    wpAnyH Try.prog .any ownOps Q (ownS w (.slice (some b0) l0.length c0) (.slice (some b1) l1.length c1) (.slice (some b2) l2.length c2) (.slice (some b3) l3.length c3)) 9 #[true, true, true, false, false, true, true, false, false, true, true, false, false, true, true, false, false, false] { tmps := #[.agg #[.slice (some b0) l0.length c0, .slice (some b1) l1.length c1, .slice (some b2) l2.length c2, .slice (some b3) l3.length c3], .pointer (some ⟨w.heap.size, 0, none⟩), .pointer (some ⟨w.heap.size + 1, 0, none⟩), .slice (some ⟨z0, 0, none⟩) 0 0, .pointer (some ⟨w.heap.size, 0, none⟩), .slice (some b0) l0.length c0, undef, undef, .pointer (some ⟨w.heap.size, 1, none⟩), .slice (some b1) l1.length c1, undef, undef, .pointer (some ⟨w.heap.size, 2, none⟩), .slice (some b2) l2.length c2, undef, undef, .pointer (some ⟨w.heap.size, 3, none⟩), .slice (some b3) l3.length c3, undef, undef], defers := [] } W := by
  refine wpAnyH_ready (rs := [3, 4, 8, 12]) (by kernel_rfl) (by simp) ?_
  refine AllReadyH.cons (o := ownOp3) rfl (fun K hK => ?_) ?_
  · refine step_freshP (by rfl) (Operand.tmp 3) (Operand.tmp 5) (by rfl) z0 b0 l0.length c0 l0 (by rfl) (by rfl) rfl (o0.below hS.1 (Nat.le_refl _)) n0 ?_
    intro a0 e0 W' hr hb
    have hS' := ownS_keep hS hb
    refine hK.out _ _ hS' (fun _ => ?_)
    exact ownp_nd1_n n0 n1 n2 n3 o0 o1 o2 o3 hQ W' hS' z0  a0 e0 W'.heap.size (hr.mono (ownS_ge hS) (Nat.le_refl _)) (Nat.le_refl _) (Nat.le_trans (ownS_ge hS) hb.size)
  refine AllReadyH.cons (o := ownOp4) rfl (fun K hK => ?_) ?_
  · refine step_lit (by rfl) (by rfl) ?_
    intro z1 W' hb
    have hS' := ownS_keep hS hb
    refine hK.out _ _ hS' (fun _ => ?_)
    exact ownp_nd0_01 n0 n1 n2 n3 o0 o1 o2 o3 hQ W' hS' z0 z1 
  refine AllReadyH.cons (o := ownOp8) rfl (fun K hK => ?_) ?_
  · refine step_lit (by rfl) (by rfl) ?_
    intro z2 W' hb
    have hS' := ownS_keep hS hb
    refine hK.out _ _ hS' (fun _ => ?_)
    exact ownp_nd0_02 n0 n1 n2 n3 o0 o1 o2 o3 hQ W' hS' z0 z2 
  refine AllReadyH.cons (o := ownOp12) rfl (fun K hK => ?_) ?_
  · refine step_lit (by rfl) (by rfl) ?_
    intro z3 W' hb
    have hS' := ownS_keep hS hb
    refine hK.out _ _ hS' (fun _ => ?_)
    exact ownp_nd0_03 n0 n1 n2 n3 o0 o1 o2 o3 hQ W' hS' z0 z3 
  exact AllReadyH.nil

set_option maxRecDepth 20000 in
set_option maxHeartbeats 4000000 in
theorem ownp_nd0_1 {b0 b1 b2 b3 : Addr} {c0 c1 c2 c3 : Nat} {l0 l1 l2 l3 : List (Int × Int)} {w : World} {Q : Exit → Act → World → Prop} (n0 : l0.length ≤ 1048576) (n1 : l1.length ≤ 1048576) (n2 : l2.length ≤ 1048576) (n3 : l3.length ≤ 1048576) (o0 : PRow w (some b0) l0) (o1 : PRow w (some b1) l1) (o2 : PRow w (some b2) l2) (o3 : PRow w (some b3) l3)
    (hQ : ∀ (W : World) (hS : ownS w (.slice (some b0) l0.length c0) (.slice (some b1) l1.length c1) (.slice (some b2) l2.length c2) (.slice (some b3) l3.length c3) W) (z0 z1 z2 z3 : Nat) (a0 : Option Addr) (e0 m1 : Nat) (t0 : RoomIn W (w.heap.size + 2) m1 a0 l0.length e0 l0) (g1 : m1 ≤ W.heap.size) (k1 : (w.heap.size + 2) ≤ m1) (a1 : Option Addr) (e1 m2 : Nat) (t1 : RoomIn W m1 m2 a1 l1.length e1 l1) (g2 : m2 ≤ W.heap.size) (k2 : m1 ≤ m2) (a2 : Option Addr) (e2 m3 : Nat) (t2 : RoomIn W m2 m3 a2 l2.length e2 l2) (g3 : m3 ≤ W.heap.size) (k3 : m2 ≤ m3) (a3 : Option Addr) (e3 m4 : Nat) (t3 : RoomIn W m3 m4 a3 l3.length e3 l3) (g4 : m4 ≤ W.heap.size) (k4 : m3 ≤ m4), Q .normal { tmps := #[.agg #[.slice (some b0) l0.length c0, .slice (some b1) l1.length c1, .slice (some b2) l2.length c2, .slice (some b3) l3.length c3], .pointer (some ⟨w.heap.size, 0, none⟩), .pointer (some ⟨w.heap.size + 1, 0, none⟩), .slice (some ⟨z0, 0, none⟩) 0 0, .pointer (some ⟨w.heap.size, 0, none⟩), .slice (some b0) l0.length c0, .slice a0 l0.length e0, .slice (some ⟨z1, 0, none⟩) 0 0, .pointer (some ⟨w.heap.size, 1, none⟩), .slice (some b1) l1.length c1, .slice a1 l1.length e1, .slice (some ⟨z2, 0, none⟩) 0 0, .pointer (some ⟨w.heap.size, 2, none⟩), .slice (some b2) l2.length c2, .slice a2 l2.length e2, .slice (some ⟨z3, 0, none⟩) 0 0, .pointer (some ⟨w.heap.size, 3, none⟩), .slice (some b3) l3.length c3, .slice a3 l3.length e3, .agg #[.slice a0 l0.length e0, .slice a1 l1.length e1, .slice a2 l2.length e2, .slice a3 l3.length e3]], defers := [] } ((((W.setCell ⟨w.heap.size + 1, 0, none⟩ (.slice a0 l0.length e0)).setCell ⟨w.heap.size + 1, 1, none⟩ (.slice a1 l1.length e1)).setCell ⟨w.heap.size + 1, 2, none⟩ (.slice a2 l2.length e2)).setCell ⟨w.heap.size + 1, 3, none⟩ (.slice a3 l3.length e3)))
    (W : World) (hS : ownS w (.slice (some b0) l0.length c0) (.slice (some b1) l1.length c1) (.slice (some b2) l2.length c2) (.slice (some b3) l3.length c3) W) (z1 : Nat) :
    wpAnyH Try.prog .any ownOps Q (ownS w (.slice (some b0) l0.length c0) (.slice (some b1) l1.length c1) (.slice (some b2) l2.length c2) (.slice (some b3) l3.length c3)) 9 #[false, true, true, false, true, true, true, false, false, true, true, false, false, true, true, false, false, false] { tmps := #[.agg #[.slice (some b0) l0.length c0, .slice (some b1) l1.length c1, .slice (some b2) l2.length c2, .slice (some b3) l3.length c3], .pointer (some ⟨w.heap.size, 0, none⟩), .pointer (some ⟨w.heap.size + 1, 0, none⟩), undef, .pointer (some ⟨w.heap.size, 0, none⟩), .slice (some b0) l0.length c0, undef, .slice (some ⟨z1, 0, none⟩) 0 0, .pointer (some ⟨w.heap.size, 1, none⟩), .slice (some b1) l1.length c1, undef, undef, .pointer (some ⟨w.heap.size, 2, none⟩), .slice (some b2) l2.length c2, undef, undef, .pointer (some ⟨w.heap.size, 3, none⟩), .slice (some b3) l3.length c3, undef, undef], defers := [] } W := by
  refine wpAnyH_ready (rs := [0, 8, 12]) (by kernel_rfl) (by simp) ?_
  refine AllReadyH.cons (o := ownOp0) rfl (fun K hK => ?_) ?_
  · refine step_lit (by rfl) (by rfl) ?_
    intro z0 W' hb
    have hS' := ownS_keep hS hb
    refine hK.out _ _ hS' (fun _ => ?_)
    exact ownp_nd0_01 n0 n1 n2 n3 o0 o1 o2 o3 hQ W' hS' z0 z1 
  refine AllReadyH.cons (o := ownOp8) rfl (fun K hK => ?_) ?_
  · refine step_lit (by rfl) (by rfl) ?_
    intro z2 W' hb
    have hS' := ownS_keep hS hb
    refine hK.out _ _ hS' (fun _ => ?_)
    exact ownp_nd0_12 n0 n1 n2 n3 o0 o1 o2 o3 hQ W' hS' z1 z2 
  refine AllReadyH.cons (o := ownOp12) rfl (fun K hK => ?_) ?_
  · refine step_lit (by rfl) (by rfl) ?_
    intro z3 W' hb
    have hS' := ownS_keep hS hb
    refine hK.out _ _ hS' (fun _ => ?_)
    exact ownp_nd0_13 n0 n1 n2 n3 o0 o1 o2 o3 hQ W' hS' z1 z3 
  exact AllReadyH.nil

set_option maxRecDepth 20000 in
set_option maxHeartbeats 4000000 in
theorem ownp_nd0_2 {b0 b1 b2 b3 : Addr} {c0 c1 c2 c3 : Nat} {l0 l1 l2 l3 : List (Int × Int)} {w : World} {Q : Exit → Act → World → Prop} (n0 : l0.length ≤ 1048576) (n1 : l1.length ≤ 1048576) (n2 : l2.length ≤ 1048576) (n3 : l3.length ≤ 1048576) (o0 : PRow w (some b0) l0) (o1 : PRow w (some b1) l1) (o2 : PRow w (some b2) l2) (o3 : PRow w (some b3) l3)
    (hQ : ∀ (W : World) (hS : ownS w (.slice (some b0) l0.length c0) (.slice (some b1) l1.length c1) (.slice (some b2) l2.length c2) (.slice (some b3) l3.length c3) W) (z0 z1 z2 z3 : Nat) (a0 : Option Addr) (e0 m1 : Nat) (t0 : RoomIn W (w.heap.size + 2) m1 a0 l0.length e0 l0) (g1 : m1 ≤ W.heap.size) (k1 : (w.heap.size + 2) ≤ m1) (a1 : Option Addr) (e1 m2 : Nat) (t1 : RoomIn W m1 m2 a1 l1.length e1 l1) (g2 : m2 ≤ W.heap.size) (k2 : m1 ≤ m2) (a2 : Option Addr) (e2 m3 : Nat) (t2 : RoomIn W m2 m3 a2 l2.length e2 l2) (g3 : m3 ≤ W.heap.size) (k3 : m2 ≤ m3) (a3 : Option Addr) (e3 m4 : Nat) (t3 : RoomIn W m3 m4 a3 l3.length e3 l3) (g4 : m4 ≤ W.heap.size) (k4 : m3 ≤ m4), Q .normal { tmps := #[.agg #[.slice (some b0) l0.length c0, .slice (some b1) l1.length c1, .slice (some b2) l2.length c2, .slice (some b3) l3.length c3], .pointer (some ⟨w.heap.size, 0, none⟩), .pointer (some ⟨w.heap.size + 1, 0, none⟩), .slice (some ⟨z0, 0, none⟩) 0 0, .pointer (some ⟨w.heap.size, 0, none⟩), .slice (some b0) l0.length c0, .slice a0 l0.length e0, .slice (some ⟨z1, 0, none⟩) 0 0, .pointer (some ⟨w.heap.size, 1, none⟩), .slice (some b1) l1.length c1, .slice a1 l1.length e1, .slice (some ⟨z2, 0, none⟩) 0 0, .pointer (some ⟨w.heap.size, 2, none⟩), .slice (some b2) l2.length c2, .slice a2 l2.length e2, .slice (some ⟨z3, 0, none⟩) 0 0, .pointer (some ⟨w.heap.size, 3, none⟩), .slice (some b3) l3.length c3, .slice a3 l3.length e3, .agg #[.slice a0 l0.length e0, .slice a1 l1.length e1, .slice a2 l2.length e2, .slice a3 l3.length e3]], defers := [] } ((((W.setCell ⟨w.heap.size + 1, 0, none⟩ (.slice a0 l0.length e0)).setCell ⟨w.heap.size + 1, 1, none⟩ (.slice a1 l1.length e1)).setCell ⟨w.heap.size + 1, 2, none⟩ (.slice a2 l2.length e2)).setCell ⟨w.heap.size + 1, 3, none⟩ (.slice a3 l3.length e3)))
    (W : World) (hS : ownS w (.slice (some b0) l0.length c0) (.slice (some b1) l1.length c1) (.slice (some b2) l2.length c2) (.slice (some b3) l3.length c3) W) (z2 : Nat) :
    wpAnyH Try.prog .any ownOps Q (ownS w (.slice (some b0) l0.length c0) (.slice (some b1) l1.length c1) (.slice (some b2) l2.length c2) (.slice (some b3) l3.length c3)) 9 #[false, true, true, false, false, true, true, false, true, true, true, false, false, true, true, false, false, false] { tmps := #[.agg #[.slice (some b0) l0.length c0, .slice (some b1) l1.length c1, .slice (some b2) l2.length c2, .slice (some b3) l3.length c3], .pointer (some ⟨w.heap.size, 0, none⟩), .pointer (some ⟨w.heap.size + 1, 0, none⟩), undef, .pointer (some ⟨w.heap.size, 0, none⟩), .slice (some b0) l0.length c0, undef, undef, .pointer (some ⟨w.heap.size, 1, none⟩), .slice (some b1) l1.length c1, undef, .slice (some ⟨z2, 0, none⟩) 0 0, .pointer (some ⟨w.heap.size, 2, none⟩), .slice (some b2) l2.length c2, undef, undef, .pointer (some ⟨w.heap.size, 3, none⟩), .slice (some b3) l3.length c3, undef, undef], defers := [] } W := by
  refine wpAnyH_ready (rs := [0, 4, 12]) (by kernel_rfl) (by simp) ?_
  refine AllReadyH.cons (o := ownOp0) rfl (fun K hK => ?_) ?_
  · refine step_lit (by rfl) (by rfl) ?_
    intro z0 W' hb
    have hS' := ownS_keep hS hb
    refine hK.out _ _ hS' (fun _ => ?_)
    exact ownp_nd0_02 n0 n1 n2 n3 o0 o1 o2 o3 hQ W' hS' z0 z2 
  refine AllReadyH.cons (o := ownOp4) rfl (fun K hK => ?_) ?_
  · refine step_lit (by rfl) (by rfl) ?_
    intro z1 W' hb
    have hS' := ownS_keep hS hb
    refine hK.out _ _ hS' (fun _ => ?_)
    exact ownp_nd0_12 n0 n1 n2 n3 o0 o1 o2 o3 hQ W' hS' z1 z2 
  refine AllReadyH.cons (o := ownOp12) rfl (fun K hK => ?_) ?_
  · refine step_lit (by rfl) (by rfl) ?_
    intro z3 W' hb
    have hS' := ownS_keep hS hb
    refine hK.out _ _ hS' (fun _ => ?_)
    exact ownp_nd0_23 n0 n1 n2 n3 o0 o1 o2 o3 hQ W' hS' z2 z3 
  exact AllReadyH.nil

set_option maxRecDepth 20000 in
set_option maxHeartbeats 4000000 in
theorem ownp_nd0_3 {b0 b1 b2 b3 : Addr} {c0 c1 c2 c3 : Nat} {l0 l1 l2 l3 : List (Int × Int)} {w : World} {Q : Exit → Act → World → Prop} (n0 : l0.length ≤ 1048576) (n1 : l1.length ≤ 1048576) (n2 : l2.length ≤ 1048576) (n3 : l3.length ≤ 1048576) (o0 : PRow w (some b0) l0) (o1 : PRow w (some b1) l1) (o2 : PRow w (some b2) l2) (o3 : PRow w (some b3) l3)
    (hQ : ∀ (W : World) (hS : ownS w (.slice (some b0) l0.length c0) (.slice (some b1) l1.length c1) (.slice (some b2) l2.length c2) (.slice (some b3) l3.length c3) W) (z0 z1 z2 z3 : Nat) (a0 : Option Addr) (e0 m1 : Nat) (t0 : RoomIn W (w.heap.size + 2) m1 a0 l0.length e0 l0) (g1 : m1 ≤ W.heap.size) (k1 : (w.heap.size + 2) ≤ m1) (a1 : Option Addr) (e1 m2 : Nat) (t1 : RoomIn W m1 m2 a1 l1.length e1 l1) (g2 : m2 ≤ W.heap.size) (k2 : m1 ≤ m2) (a2 : Option Addr) (e2 m3 : Nat) (t2 : RoomIn W m2 m3 a2 l2.length e2 l2) (g3 : m3 ≤ W.heap.size) (k3 : m2 ≤ m3) (a3 : Option Addr) (e3 m4 : Nat) (t3 : RoomIn W m3 m4 a3 l3.length e3 l3) (g4 : m4 ≤ W.heap.size) (k4 : m3 ≤ m4), Q .normal { tmps := #[.agg #[.slice (some b0) l0.length c0, .slice (some b1) l1.length c1, .slice (some b2) l2.length c2, .slice (some b3) l3.length c3], .pointer (some ⟨w.heap.size, 0, none⟩), .pointer (some ⟨w.heap.size + 1, 0, none⟩), .slice (some ⟨z0, 0, none⟩) 0 0, .pointer (some ⟨w.heap.size, 0, none⟩), .slice (some b0) l0.length c0, .slice a0 l0.length e0, .slice (some ⟨z1, 0, none⟩) 0 0, .pointer (some ⟨w.heap.size, 1, none⟩), .slice (some b1) l1.length c1, .slice a1 l1.length e1, .slice (some ⟨z2, 0, none⟩) 0 0, .pointer (some ⟨w.heap.size, 2, none⟩), .slice (some b2) l2.length c2, .slice a2 l2.length e2, .slice (some ⟨z3, 0, none⟩) 0 0, .pointer (some ⟨w.heap.size, 3, none⟩), .slice (some b3) l3.length c3, .slice a3 l3.length e3, .agg #[.slice a0 l0.length e0, .slice a1 l1.length e1, .slice a2 l2.length e2, .slice a3 l3.length e3]], defers := [] } ((((W.setCell ⟨w.heap.size + 1, 0, none⟩ (.slice a0 l0.length e0)).setCell ⟨w.heap.size + 1, 1, none⟩ (.slice a1 l1.length e1)).setCell ⟨w.heap.size + 1, 2, none⟩ (.slice a2 l2.length e2)).setCell ⟨w.heap.size + 1, 3, none⟩ (.slice a3 l3.length e3)))
    (W : World) (hS : ownS w (.slice (some b0) l0.length c0) (.slice (some b1) l1.length c1) (.slice (some b2) l2.length c2) (.slice (some b3) l3.length c3) W) (z3 : Nat) :
    wpAnyH Try.prog .any ownOps Q (ownS w (.slice (some b0) l0.length c0) (.slice (some b1) l1.length c1) (.slice (some b2) l2.length c2) (.slice (some b3) l3.length c3)) 9 #[false, true, true, false, false, true, true, false, false, true, true, false, true, true, true, false, false, false] { tmps := #[.agg #[.slice (some b0) l0.length c0, .slice (some b1) l1.length c1, .slice (some b2) l2.length c2, .slice (some b3) l3.length c3], .pointer (some ⟨w.heap.size, 0, none⟩), .pointer (some ⟨w.heap.size + 1, 0, none⟩), undef, .pointer (some ⟨w.heap.size, 0, none⟩), .slice (some b0) l0.length c0, undef, undef, .pointer (some ⟨w.heap.size, 1, none⟩), .slice (some b1) l1.length c1, undef, undef, .pointer (some ⟨w.heap.size, 2, none⟩), .slice (some b2) l2.length c2, undef, .slice (some ⟨z3, 0, none⟩) 0 0, .pointer (some ⟨w.heap.size, 3, none⟩), .slice (some b3) l3.length c3, undef, undef], defers := [] } W := by
  refine wpAnyH_ready (rs := [0, 4, 8]) (by kernel_rfl) (by simp) ?_
  refine AllReadyH.cons (o := ownOp0) rfl (fun K hK => ?_) ?_
  · refine step_lit (by rfl) (by rfl) ?_
    intro z0 W' hb
    have hS' := ownS_keep hS hb
    refine hK.out _ _ hS' (fun _ => ?_)
    exact ownp_nd0_03 n0 n1 n2 n3 o0 o1 o2 o3 hQ W' hS' z0 z3 
  refine AllReadyH.cons (o := ownOp4) rfl (fun K hK => ?_) ?_
  · refine step_lit (by rfl) (by rfl) ?_
    intro z1 W' hb
    have hS' := ownS_keep hS hb
    refine hK.out _ _ hS' (fun _ => ?_)
    exact ownp_nd0_13 n0 n1 n2 n3 o0 o1 o2 o3 hQ W' hS' z1 z3 
  refine AllReadyH.cons (o := ownOp8) rfl (fun K hK => ?_) ?_
  · refine step_lit (by rfl) (by rfl) ?_
    intro z2 W' hb
    have hS' := ownS_keep hS hb
    refine hK.out _ _ hS' (fun _ => ?_)
    exact ownp_nd0_23 n0 n1 n2 n3 o0 o1 o2 o3 hQ W' hS' z2 z3 
  exact AllReadyH.nil

set_option maxRecDepth 20000 in
set_option maxHeartbeats 4000000 in
theorem ownp_nd0_n {b0 b1 b2 b3 : Addr} {c0 c1 c2 c3 : Nat} {l0 l1 l2 l3 : List (Int × Int)} {w : World} {Q : Exit → Act → World → Prop} (n0 : l0.length ≤ 1048576) (n1 : l1.length ≤ 1048576) (n2 : l2.length ≤ 1048576) (n3 : l3.length ≤ 1048576) (o0 : PRow w (some b0) l0) (o1 : PRow w (some b1) l1) (o2 : PRow w (some b2) l2) (o3 : PRow w (some b3) l3)
    (hQ : ∀ (W : World) (hS : ownS w (.slice (some b0) l0.length c0) (.slice (some b1) l1.length c1) (.slice (some b2) l2.length c2) (.slice (some b3) l3.length c3) W) (z0 z1 z2 z3 : Nat) (a0 : Option Addr) (e0 m1 : Nat) (t0 : RoomIn W (w.heap.size + 2) m1 a0 l0.length e0 l0) (g1 : m1 ≤ W.heap.size) (k1 : (w.heap.size + 2) ≤ m1) (a1 : Option Addr) (e1 m2 : Nat) (t1 : RoomIn W m1 m2 a1 l1.length e1 l1) (g2 : m2 ≤ W.heap.size) (k2 : m1 ≤ m2) (a2 : Option Addr) (e2 m3 : Nat) (t2 : RoomIn W m2 m3 a2 l2.length e2 l2) (g3 : m3 ≤ W.heap.size) (k3 : m2 ≤ m3) (a3 : Option Addr) (e3 m4 : Nat) (t3 : RoomIn W m3 m4 a3 l3.length e3 l3) (g4 : m4 ≤ W.heap.size) (k4 : m3 ≤ m4), Q .normal { tmps := #[.agg #[.slice (some b0) l0.length c0, .slice (some b1) l1.length c1, .slice (some b2) l2.length c2, .slice (some b3) l3.length c3], .pointer (some ⟨w.heap.size, 0, none⟩), .pointer (some ⟨w.heap.size + 1, 0, none⟩), .slice (some ⟨z0, 0, none⟩) 0 0, .pointer (some ⟨w.heap.size, 0, none⟩), .slice (some b0) l0.length c0, .slice a0 l0.length e0, .slice (some ⟨z1, 0, none⟩) 0 0, .pointer (some ⟨w.heap.size, 1, none⟩), .slice (some b1) l1.length c1, .slice a1 l1.length e1, .slice (some ⟨z2, 0, none⟩) 0 0, .pointer (some ⟨w.heap.size, 2, none⟩), .slice (some b2) l2.length c2, .slice a2 l2.length e2, .slice (some ⟨z3, 0, none⟩) 0 0, .pointer (some ⟨w.heap.size, 3, none⟩), .slice (some b3) l3.length c3, .slice a3 l3.length e3, .agg #[.slice a0 l0.length e0, .slice a1 l1.length e1, .slice a2 l2.length e2, .slice a3 l3.length e3]], defers := [] } ((((W.setCell ⟨w.heap.size + 1, 0, none⟩ (.slice a0 l0.length e0)).setCell ⟨w.heap.size + 1, 1, none⟩ (.slice a1 l1.length e1)).setCell ⟨w.heap.size + 1, 2, none⟩ (.slice a2 l2.length e2)).setCell ⟨w.heap.size + 1, 3, none⟩ (.slice a3 l3.length e3)))
    (W : World) (hS : ownS w (.slice (some b0) l0.length c0) (.slice (some b1) l1.length c1) (.slice (some b2) l2.length c2) (.slice (some b3) l3.length c3) W) :
    wpAnyH Try.prog .any ownOps Q (ownS w (.slice (some b0) l0.length c0) (.slice (some b1) l1.length c1) (.slice (some b2) l2.length c2) (.slice (some b3) l3.length c3)) 10 #[false, true, true, false, false, true, true, false, false, true, true, false, false, true, true, false, false, false] { tmps := #[.agg #[.slice (some b0) l0.length c0, .slice (some b1) l1.length c1, .slice (some b2) l2.length c2, .slice (some b3) l3.length c3], .pointer (some ⟨w.heap.size, 0, none⟩), .pointer (some ⟨w.heap.size + 1, 0, none⟩), undef, .pointer (some ⟨w.heap.size, 0, none⟩), .slice (some b0) l0.length c0, undef, undef, .pointer (some ⟨w.heap.size, 1, none⟩), .slice (some b1) l1.length c1, undef, undef, .pointer (some ⟨w.heap.size, 2, none⟩), .slice (some b2) l2.length c2, undef, undef, .pointer (some ⟨w.heap.size, 3, none⟩), .slice (some b3) l3.length c3, undef, undef], defers := [] } W := by
  refine wpAnyH_ready (rs := [0, 4, 8, 12]) (by kernel_rfl) (by simp) ?_
  refine AllReadyH.cons (o := ownOp0) rfl (fun K hK => ?_) ?_
  · refine step_lit (by rfl) (by rfl) ?_
    intro z0 W' hb
    have hS' := ownS_keep hS hb
    refine hK.out _ _ hS' (fun _ => ?_)
    exact ownp_nd0_0 n0 n1 n2 n3 o0 o1 o2 o3 hQ W' hS' z0 
  refine AllReadyH.cons (o := ownOp4) rfl (fun K hK => ?_) ?_
  · refine step_lit (by rfl) (by rfl) ?_
    intro z1 W' hb
    have hS' := ownS_keep hS hb
    refine hK.out _ _ hS' (fun _ => ?_)
    exact ownp_nd0_1 n0 n1 n2 n3 o0 o1 o2 o3 hQ W' hS' z1 
  refine AllReadyH.cons (o := ownOp8) rfl (fun K hK => ?_) ?_
  · refine step_lit (by rfl) (by rfl) ?_
    intro z2 W' hb
    have hS' := ownS_keep hS hb
    refine hK.out _ _ hS' (fun _ => ?_)
    exact ownp_nd0_2 n0 n1 n2 n3 o0 o1 o2 o3 hQ W' hS' z2 
  refine AllReadyH.cons (o := ownOp12) rfl (fun K hK => ?_) ?_
  · refine step_lit (by rfl) (by rfl) ?_
    intro z3 W' hb
    have hS' := ownS_keep hS hb
    refine hK.out _ _ hS' (fun _ => ?_)
    exact ownp_nd0_3 n0 n1 n2 n3 o0 o1 o2 o3 hQ W' hS' z3 
  exact AllReadyH.nil

set_option maxHeartbeats 4000000 in
theorem l1ownp_any (b0 b1 b2 b3 : Addr) (c0 c1 c2 c3 : Nat) (l0 l1 l2 l3 : List (Int × Int)) (w : World) (n0 : l0.length ≤ 1048576) (n1 : l1.length ≤ 1048576) (n2 : l2.length ≤ 1048576) (n3 : l3.length ≤ 1048576) (o0 : PRow w (some b0) l0) (o1 : PRow w (some b1) l1) (o2 : PRow w (some b2) l2) (o3 : PRow w (some b3) l3) :
    Calls Try.prog 150 #[.agg #[.slice (some b0) l0.length c0, .slice (some b1) l1.length c1, .slice (some b2) l2.length c2, .slice (some b3) l3.length c3]] w fun e w' => ∃ a0 a1 a2 a3 e0 e1 e2 e3 m1 m2 m3 m4,
      e = .returned (.agg #[.slice a0 l0.length e0, .slice a1 l1.length e1, .slice a2 l2.length e2, .slice a3 l3.length e3]) ∧
      RoomIn w' (w.heap.size + 2) m1 a0 l0.length e0 l0 ∧ RoomIn w' m1 m2 a1 l1.length e1 l1 ∧ RoomIn w' m2 m3 a2 l2.length e2 l2 ∧ RoomIn w' m3 m4 a3 l3.length e3 l3 ∧ w.heap.size + 2 ≤ m1 ∧ m1 ≤ m2 ∧ m2 ≤ m3 ∧ m3 ≤ m4 ∧ m4 ≤ w'.heap.size ∧ Below w.heap.size w w' := by
  have B0 := (Box.new w (.slice (some b0) l0.length c0) (.slice (some b1) l1.length c1) (.slice (some b2) l2.length c2) (.slice (some b3) l3.length c3) 28).below ((Below.refl _ _).alloc (Nat.le_refl _) (.cells #[.slice none 0 0, .slice none 0 0, .slice none 0 0, .slice none 0 0] 28)) (by simp)
  have R0 := Box.new (w.alloc (.cells #[.slice (some b0) l0.length c0, .slice (some b1) l1.length c1, .slice (some b2) l2.length c2, .slice (some b3) l3.length c3] 28)) (.slice none 0 0) (.slice none 0 0) (.slice none 0 0) (.slice none 0 0) 28
  have L0 : Below w.heap.size w ((w.alloc (.cells #[.slice (some b0) l0.length c0, .slice (some b1) l1.length c1, .slice (some b2) l2.length c2, .slice (some b3) l3.length c3] 28)).alloc (.cells #[.slice none 0 0, .slice none 0 0, .slice none 0 0, .slice none 0 0] 28)) := ((Below.refl _ _).alloc (Nat.le_refl _) _).alloc (by simp) _
  rw [World.size_alloc] at R0
  go_enter Try.func150, Try.ntmps150
  go_wp2
  generalize (w.alloc (.cells #[.slice (some b0) l0.length c0, .slice (some b1) l1.length c1, .slice (some b2) l2.length c2, .slice (some b3) l3.length c3] 28)).alloc (.cells #[.slice none 0 0, .slice none 0 0, .slice none 0 0, .slice none 0 0] 28) = W0 at *
  have O0 : Own W0.drew (w.heap.size + 1) 2 [] 0 := ⟨R0.lt, fun j hj => by
    have : j = 0 ∨ j = 1 ∨ j = 2 ∨ j = 3 := by omega
    rcases this with rfl | rfl | rfl | rfl
    · exact ⟨⟨_, R0.c0⟩, R0.f0⟩
    · exact ⟨⟨_, R0.c1⟩, R0.f1⟩
    · exact ⟨⟨_, R0.c2⟩, R0.f2⟩
    · exact ⟨⟨_, R0.c3⟩, R0.f3⟩, fun i hi => by omega⟩
  have hS0 : ownS w (.slice (some b0) l0.length c0) (.slice (some b1) l1.length c1) (.slice (some b2) l2.length c2) (.slice (some b3) l3.length c3) W0.drew := ⟨L0.drew, O0, B0.c0, B0.c1, B0.c2, B0.c3⟩
  clear R0 B0 O0
  refine wp_region_held_drew (S := ownS w (.slice (some b0) l0.length c0) (.slice (some b1) l1.length c1) (.slice (some b2) l2.length c2) (.slice (some b3) l3.length c3)) (by kernel_rfl) hS0 (fun _ => ?_)
  show wpAnyH Try.prog .any ownOps _ (ownS w (.slice (some b0) l0.length c0) (.slice (some b1) l1.length c1) (.slice (some b2) l2.length c2) (.slice (some b3) l3.length c3)) 18 #[false, false, false, false, false, false, false, false, false, false, false, false, false, false, false, false, false, false] { tmps := #[.agg #[.slice (some b0) l0.length c0, .slice (some b1) l1.length c1, .slice (some b2) l2.length c2, .slice (some b3) l3.length c3], .pointer (some ⟨w.heap.size, 0, none⟩), .pointer (some ⟨w.heap.size + 1, 0, none⟩), undef, undef, undef, undef, undef, undef, undef, undef, undef, undef, undef, undef, undef, undef, undef, undef, undef], defers := [] } W0.drew
  refine wpAnyH_take (i := 1) (oi := { dst := some 4, op := Op.fieldAddr 28 (Operand.tmp 1) 0, type := 0, pos := "l01_asn.go:137", after := #[], guard := none }) (v := .pointer (some ⟨w.heap.size, 0, none⟩)) rfl (by kernel_rfl) (by kernel_rfl) (by kernel_rfl) (fun _ _ _ h => h) (Or.inl ⟨by rfl, ?_⟩) hS0 ?_
  · intro W hSw; unfold ownS at hSw; obtain ⟨-, -, s0, s1, s2, s3⟩ := hSw; go_simp
  show wpAnyH Try.prog .any ownOps _ (ownS w (.slice (some b0) l0.length c0) (.slice (some b1) l1.length c1) (.slice (some b2) l2.length c2) (.slice (some b3) l3.length c3)) 17 #[false, true, false, false, false, false, false, false, false, false, false, false, false, false, false, false, false, false] { tmps := #[.agg #[.slice (some b0) l0.length c0, .slice (some b1) l1.length c1, .slice (some b2) l2.length c2, .slice (some b3) l3.length c3], .pointer (some ⟨w.heap.size, 0, none⟩), .pointer (some ⟨w.heap.size + 1, 0, none⟩), undef, .pointer (some ⟨w.heap.size, 0, none⟩), undef, undef, undef, undef, undef, undef, undef, undef, undef, undef, undef, undef, undef, undef, undef], defers := [] } W0.drew
  refine wpAnyH_take (i := 2) (oi := { dst := some 5, op := Op.load 26 (Operand.tmp 4), type := 26, pos := "l01_asn.go:137", after := #[{ on := 1, ground := Ground.data }], guard := none }) (v := .slice (some b0) l0.length c0) rfl (by kernel_rfl) (by kernel_rfl) (by kernel_rfl) (fun _ _ _ h => h) (Or.inl ⟨by rfl, ?_⟩) hS0 ?_
  · intro W hSw; unfold ownS at hSw; obtain ⟨-, -, s0, s1, s2, s3⟩ := hSw; go_simp
  show wpAnyH Try.prog .any ownOps _ (ownS w (.slice (some b0) l0.length c0) (.slice (some b1) l1.length c1) (.slice (some b2) l2.length c2) (.slice (some b3) l3.length c3)) 16 #[false, true, true, false, false, false, false, false, false, false, false, false, false, false, false, false, false, false] { tmps := #[.agg #[.slice (some b0) l0.length c0, .slice (some b1) l1.length c1, .slice (some b2) l2.length c2, .slice (some b3) l3.length c3], .pointer (some ⟨w.heap.size, 0, none⟩), .pointer (some ⟨w.heap.size + 1, 0, none⟩), undef, .pointer (some ⟨w.heap.size, 0, none⟩), .slice (some b0) l0.length c0, undef, undef, undef, undef, undef, undef, undef, undef, undef, undef, undef, undef, undef, undef], defers := [] } W0.drew
  refine wpAnyH_take (i := 5) (oi := { dst := some 8, op := Op.fieldAddr 28 (Operand.tmp 1) 1, type := 0, pos := "l01_asn.go:137", after := #[], guard := none }) (v := .pointer (some ⟨w.heap.size, 1, none⟩)) rfl (by kernel_rfl) (by kernel_rfl) (by kernel_rfl) (fun _ _ _ h => h) (Or.inl ⟨by rfl, ?_⟩) hS0 ?_
  · intro W hSw; unfold ownS at hSw; obtain ⟨-, -, s0, s1, s2, s3⟩ := hSw; go_simp
  show wpAnyH Try.prog .any ownOps _ (ownS w (.slice (some b0) l0.length c0) (.slice (some b1) l1.length c1) (.slice (some b2) l2.length c2) (.slice (some b3) l3.length c3)) 15 #[false, true, true, false, false, true, false, false, false, false, false, false, false, false, false, false, false, false] { tmps := #[.agg #[.slice (some b0) l0.length c0, .slice (some b1) l1.length c1, .slice (some b2) l2.length c2, .slice (some b3) l3.length c3], .pointer (some ⟨w.heap.size, 0, none⟩), .pointer (some ⟨w.heap.size + 1, 0, none⟩), undef, .pointer (some ⟨w.heap.size, 0, none⟩), .slice (some b0) l0.length c0, undef, undef, .pointer (some ⟨w.heap.size, 1, none⟩), undef, undef, undef, undef, undef, undef, undef, undef, undef, undef, undef], defers := [] } W0.drew
  refine wpAnyH_take (i := 6) (oi := { dst := some 9, op := Op.load 26 (Operand.tmp 8), type := 26, pos := "l01_asn.go:137", after := #[{ on := 5, ground := Ground.data }], guard := none }) (v := .slice (some b1) l1.length c1) rfl (by kernel_rfl) (by kernel_rfl) (by kernel_rfl) (fun _ _ _ h => h) (Or.inl ⟨by rfl, ?_⟩) hS0 ?_
  · intro W hSw; unfold ownS at hSw; obtain ⟨-, -, s0, s1, s2, s3⟩ := hSw; go_simp
  show wpAnyH Try.prog .any ownOps _ (ownS w (.slice (some b0) l0.length c0) (.slice (some b1) l1.length c1) (.slice (some b2) l2.length c2) (.slice (some b3) l3.length c3)) 14 #[false, true, true, false, false, true, true, false, false, false, false, false, false, false, false, false, false, false] { tmps := #[.agg #[.slice (some b0) l0.length c0, .slice (some b1) l1.length c1, .slice (some b2) l2.length c2, .slice (some b3) l3.length c3], .pointer (some ⟨w.heap.size, 0, none⟩), .pointer (some ⟨w.heap.size + 1, 0, none⟩), undef, .pointer (some ⟨w.heap.size, 0, none⟩), .slice (some b0) l0.length c0, undef, undef, .pointer (some ⟨w.heap.size, 1, none⟩), .slice (some b1) l1.length c1, undef, undef, undef, undef, undef, undef, undef, undef, undef, undef], defers := [] } W0.drew
  refine wpAnyH_take (i := 9) (oi := { dst := some 12, op := Op.fieldAddr 28 (Operand.tmp 1) 2, type := 0, pos := "l01_asn.go:137", after := #[], guard := none }) (v := .pointer (some ⟨w.heap.size, 2, none⟩)) rfl (by kernel_rfl) (by kernel_rfl) (by kernel_rfl) (fun _ _ _ h => h) (Or.inl ⟨by rfl, ?_⟩) hS0 ?_
  · intro W hSw; unfold ownS at hSw; obtain ⟨-, -, s0, s1, s2, s3⟩ := hSw; go_simp
  show wpAnyH Try.prog .any ownOps _ (ownS w (.slice (some b0) l0.length c0) (.slice (some b1) l1.length c1) (.slice (some b2) l2.length c2) (.slice (some b3) l3.length c3)) 13 #[false, true, true, false, false, true, true, false, false, true, false, false, false, false, false, false, false, false] { tmps := #[.agg #[.slice (some b0) l0.length c0, .slice (some b1) l1.length c1, .slice (some b2) l2.length c2, .slice (some b3) l3.length c3], .pointer (some ⟨w.heap.size, 0, none⟩), .pointer (some ⟨w.heap.size + 1, 0, none⟩), undef, .pointer (some ⟨w.heap.size, 0, none⟩), .slice (some b0) l0.length c0, undef, undef, .pointer (some ⟨w.heap.size, 1, none⟩), .slice (some b1) l1.length c1, undef, undef, .pointer (some ⟨w.heap.size, 2, none⟩), undef, undef, undef, undef, undef, undef, undef], defers := [] } W0.drew
  refine wpAnyH_take (i := 10) (oi := { dst := some 13, op := Op.load 26 (Operand.tmp 12), type := 26, pos := "l01_asn.go:137", after := #[{ on := 9, ground := Ground.data }], guard := none }) (v := .slice (some b2) l2.length c2) rfl (by kernel_rfl) (by kernel_rfl) (by kernel_rfl) (fun _ _ _ h => h) (Or.inl ⟨by rfl, ?_⟩) hS0 ?_
  · intro W hSw; unfold ownS at hSw; obtain ⟨-, -, s0, s1, s2, s3⟩ := hSw; go_simp
  show wpAnyH Try.prog .any ownOps _ (ownS w (.slice (some b0) l0.length c0) (.slice (some b1) l1.length c1) (.slice (some b2) l2.length c2) (.slice (some b3) l3.length c3)) 12 #[false, true, true, false, false, true, true, false, false, true, true, false, false, false, false, false, false, false] { tmps := #[.agg #[.slice (some b0) l0.length c0, .slice (some b1) l1.length c1, .slice (some b2) l2.length c2, .slice (some b3) l3.length c3], .pointer (some ⟨w.heap.size, 0, none⟩), .pointer (some ⟨w.heap.size + 1, 0, none⟩), undef, .pointer (some ⟨w.heap.size, 0, none⟩), .slice (some b0) l0.length c0, undef, undef, .pointer (some ⟨w.heap.size, 1, none⟩), .slice (some b1) l1.length c1, undef, undef, .pointer (some ⟨w.heap.size, 2, none⟩), .slice (some b2) l2.length c2, undef, undef, undef, undef, undef, undef], defers := [] } W0.drew
  refine wpAnyH_take (i := 13) (oi := { dst := some 16, op := Op.fieldAddr 28 (Operand.tmp 1) 3, type := 0, pos := "l01_asn.go:137", after := #[], guard := none }) (v := .pointer (some ⟨w.heap.size, 3, none⟩)) rfl (by kernel_rfl) (by kernel_rfl) (by kernel_rfl) (fun _ _ _ h => h) (Or.inl ⟨by rfl, ?_⟩) hS0 ?_
  · intro W hSw; unfold ownS at hSw; obtain ⟨-, -, s0, s1, s2, s3⟩ := hSw; go_simp
  show wpAnyH Try.prog .any ownOps _ (ownS w (.slice (some b0) l0.length c0) (.slice (some b1) l1.length c1) (.slice (some b2) l2.length c2) (.slice (some b3) l3.length c3)) 11 #[false, true, true, false, false, true, true, false, false, true, true, false, false, true, false, false, false, false] { tmps := #[.agg #[.slice (some b0) l0.length c0, .slice (some b1) l1.length c1, .slice (some b2) l2.length c2, .slice (some b3) l3.length c3], .pointer (some ⟨w.heap.size, 0, none⟩), .pointer (some ⟨w.heap.size + 1, 0, none⟩), undef, .pointer (some ⟨w.heap.size, 0, none⟩), .slice (some b0) l0.length c0, undef, undef, .pointer (some ⟨w.heap.size, 1, none⟩), .slice (some b1) l1.length c1, undef, undef, .pointer (some ⟨w.heap.size, 2, none⟩), .slice (some b2) l2.length c2, undef, undef, .pointer (some ⟨w.heap.size, 3, none⟩), undef, undef, undef], defers := [] } W0.drew
  refine wpAnyH_take (i := 14) (oi := { dst := some 17, op := Op.load 26 (Operand.tmp 16), type := 26, pos := "l01_asn.go:137", after := #[{ on := 13, ground := Ground.data }], guard := none }) (v := .slice (some b3) l3.length c3) rfl (by kernel_rfl) (by kernel_rfl) (by kernel_rfl) (fun _ _ _ h => h) (Or.inl ⟨by rfl, ?_⟩) hS0 ?_
  · intro W hSw; unfold ownS at hSw; obtain ⟨-, -, s0, s1, s2, s3⟩ := hSw; go_simp
  show wpAnyH Try.prog .any ownOps _ (ownS w (.slice (some b0) l0.length c0) (.slice (some b1) l1.length c1) (.slice (some b2) l2.length c2) (.slice (some b3) l3.length c3)) 10 #[false, true, true, false, false, true, true, false, false, true, true, false, false, true, true, false, false, false] { tmps := #[.agg #[.slice (some b0) l0.length c0, .slice (some b1) l1.length c1, .slice (some b2) l2.length c2, .slice (some b3) l3.length c3], .pointer (some ⟨w.heap.size, 0, none⟩), .pointer (some ⟨w.heap.size + 1, 0, none⟩), undef, .pointer (some ⟨w.heap.size, 0, none⟩), .slice (some b0) l0.length c0, undef, undef, .pointer (some ⟨w.heap.size, 1, none⟩), .slice (some b1) l1.length c1, undef, undef, .pointer (some ⟨w.heap.size, 2, none⟩), .slice (some b2) l2.length c2, undef, undef, .pointer (some ⟨w.heap.size, 3, none⟩), .slice (some b3) l3.length c3, undef, undef], defers := [] } W0.drew
  refine ownp_nd0_n n0 n1 n2 n3 o0 o1 o2 o3 ?_ _ hS0
  intro W hS z0 z1 z2 z3 a0 e0 m1 t0 g1 k1 a1 e1 m2 t1 g2 k2 a2 e2 m3 t2 g3 k3 a3 e3 m4 t3 g4 k4
  obtain ⟨F, FO⟩ := Own.fill hS.2.1 (.slice a0 l0.length e0) (.slice a1 l1.length e1) (.slice a2 l2.length e2) (.slice a3 l3.length e3)
  have hz := FO.size
  have hB := hS.1
  have q0 := t0.out FO (by omega); have q1 := t1.out FO (by omega); have q2 := t2.out FO (by omega); have q3 := t3.out FO (by omega)
  clear hS
  go_wp2
  have i0 := F.c0; have i1 := F.c1; have i2 := F.c2; have i3 := F.c3
  refine bodyPost_ret (v := .agg #[.slice a0 l0.length e0, .slice a1 l1.length e1, .slice a2 l2.length e2, .slice a3 l3.length e3]) ?_ rfl ⟨a0, a1, a2, a3, e0, e1, e2, e3, m1, m2, m3, m4, rfl, ?_, ?_, ?_, ?_, k1, k2, k3, k4, ?_, ?_⟩
  · simp [results, Try.results150, go_sem, i0, i1, i2, i3]
  · exact q0
  · exact q1
  · exact q2
  · exact q3
  · omega
  · exact hB.trans (FO.below (by omega) hB.size)

end Go.Proofs.Ytphchdjbhbmnbaa
