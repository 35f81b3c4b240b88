/-
  The contract of spec.l1subst.
-/
import Derived.Test.YtfplloabkceaoaaSwap
import Derived.Test.YtfplloabkceaoaaMark
import Derived.Deep.RegionHeld3
import Derived.Outline
namespace Go.Proofs.Ytfplloabkceaoaa
open Go.RowKit

set_option maxHeartbeats 2000000 in
theorem l1subst_any (b0 b1 b2 b3 : Nat) (c0 c1 c2 c3 : Nat) (l0 l1 l2 l3 : List (Int × Int)) (t by' : Int) (w : World)
    (n0 : l0.length ≤ 1048576) (n1 : l1.length ≤ 1048576) (n2 : l2.length ≤ 1048576) (n3 : l3.length ≤ 1048576)
    (o0 : Own w b0 l0.length l0 l0.length) (o1 : Own w b1 l1.length l1 l1.length) (o2 : Own w b2 l2.length l2 l2.length) (o3 : Own w b3 l3.length l3 l3.length) :
    Calls Try.prog 131 #[.agg #[.slice (some ⟨b0, 0, none⟩) l0.length c0, .slice (some ⟨b1, 0, none⟩) l1.length c1, .slice (some ⟨b2, 0, none⟩) l2.length c2, .slice (some ⟨b3, 0, none⟩) l3.length c3], .int .i64 t, .int .i64 by'] w fun e w' => ∃ p0 p1 p2 p3 q0 q1 q2 q3,
      e = .returned (.agg #[.slice p0 l0.length q0, .slice p1 l1.length q1, .slice p2 l2.length q2, .slice p3 l3.length q3]) ∧
      RowIn w' w.heap.size w'.heap.size p0 l0.length (swapL t by' l0) ∧ RowIn w' w.heap.size w'.heap.size p1 l1.length (swapL t by' l1) ∧ RowIn w' w.heap.size w'.heap.size p2 l2.length (swapL t by' l2) ∧ RowIn w' w.heap.size w'.heap.size p3 l3.length (swapL t by' l3) ∧ Below w.heap.size w w' := by
  have B0 := (Box.new w (.slice (some ⟨b0, 0, none⟩) l0.length c0) (.slice (some ⟨b1, 0, none⟩) l1.length c1) (.slice (some ⟨b2, 0, none⟩) l2.length c2) (.slice (some ⟨b3, 0, none⟩) l3.length c3) 28).alloc (.cells #[.slice none 0 0, .slice none 0 0, .slice none 0 0, .slice none 0 0] 28)
  have R0 := Box.new (w.alloc (.cells #[.slice (some ⟨b0, 0, none⟩) l0.length c0, .slice (some ⟨b1, 0, none⟩) l1.length c1, .slice (some ⟨b2, 0, none⟩) l2.length c2, .slice (some ⟨b3, 0, none⟩) l3.length c3] 28)) (.slice none 0 0) (.slice none 0 0) (.slice none 0 0) (.slice none 0 0) 28
  have L0 : Below w.heap.size w ((w.alloc (.cells #[.slice (some ⟨b0, 0, none⟩) l0.length c0, .slice (some ⟨b1, 0, none⟩) l1.length c1, .slice (some ⟨b2, 0, none⟩) l2.length c2, .slice (some ⟨b3, 0, none⟩) l3.length c3] 28)).alloc (.cells #[.slice none 0 0, .slice none 0 0, .slice none 0 0, .slice none 0 0] 28)) := ((Below.refl _ _).alloc (Nat.le_refl _) _).alloc (by simp) _
  rw [World.size_alloc] at R0
  go_enter Try.func131, Try.ntmps131
  go_wp2
  have S0 : w.heap.size + 1 < ((w.alloc (.cells #[.slice (some ⟨b0, 0, none⟩) l0.length c0, .slice (some ⟨b1, 0, none⟩) l1.length c1, .slice (some ⟨b2, 0, none⟩) l2.length c2, .slice (some ⟨b3, 0, none⟩) l3.length c3] 28)).alloc (.cells #[.slice none 0 0, .slice none 0 0, .slice none 0 0, .slice none 0 0] 28)).heap.size := by simp
  generalize (w.alloc (.cells #[.slice (some ⟨b0, 0, none⟩) l0.length c0, .slice (some ⟨b1, 0, none⟩) l1.length c1, .slice (some ⟨b2, 0, none⟩) l2.length c2, .slice (some ⟨b3, 0, none⟩) l3.length c3] 28)).alloc (.cells #[.slice none 0 0, .slice none 0 0, .slice none 0 0, .slice none 0 0] 28) = W0 at *
  have x0 := B0.c0; have x1 := B0.c1; have x2 := B0.c2; have x3 := B0.c3
  go_region_held3 (fun w' => w'.cell? ⟨w.heap.size, 0, none⟩ = some (.slice (some ⟨b0, 0, none⟩) l0.length c0) ∧ w'.cell? ⟨w.heap.size, 1, none⟩ = some (.slice (some ⟨b1, 0, none⟩) l1.length c1) ∧ w'.cell? ⟨w.heap.size, 2, none⟩ = some (.slice (some ⟨b2, 0, none⟩) l2.length c2) ∧ w'.cell? ⟨w.heap.size, 3, none⟩ = some (.slice (some ⟨b3, 0, none⟩) l3.length c3)) (go_keep)
    (first
      | (go_at_call_of 209 (Value.slice (some ⟨b0, 0, none⟩) l0.length c0); refine (l1swap_any _ _ _ _ _ _ n0 ?_).mono ?_; exact o0.below L0.drew o0.1; rintro e u1 ⟨p0, q0, rfl, t0, h1⟩; have B1 := B0.drew.below h1 B0.lt; have y0 := B1.c0; have y1 := B1.c1; have y2 := B1.c2; have y3 := B1.c3)
      | (go_at_call_of 209 (Value.slice (some ⟨b1, 0, none⟩) l1.length c1); refine (l1swap_any _ _ _ _ _ _ n1 ?_).mono ?_; exact (o1.below L0.drew o1.1).below h1 (o1.below L0.drew o1.1).1; rintro e u2 ⟨p1, q1, rfl, t1, h2⟩; have B2 := B1.below h2 B1.lt; have z0 := B2.c0; have z1 := B2.c1; have z2 := B2.c2; have z3 := B2.c3)
      | (go_at_call_of 209 (Value.slice (some ⟨b2, 0, none⟩) l2.length c2); refine (l1swap_any _ _ _ _ _ _ n2 ?_).mono ?_; exact ((o2.below L0.drew o2.1).below h1 (o2.below L0.drew o2.1).1).below h2 ((o2.below L0.drew o2.1).below h1 (o2.below L0.drew o2.1).1).1; rintro e u3 ⟨p2, q2, rfl, t2, h3⟩; have B3 := B2.below h3 B2.lt; have m0 := B3.c0; have m1 := B3.c1; have m2 := B3.c2; have m3 := B3.c3)
      | (go_at_call_of 209 (Value.slice (some ⟨b3, 0, none⟩) l3.length c3); refine (l1swap_any _ _ _ _ _ _ n3 ?_).mono ?_; exact (((o3.below L0.drew o3.1).below h1 (o3.below L0.drew o3.1).1).below h2 ((o3.below L0.drew o3.1).below h1 (o3.below L0.drew o3.1).1).1).below h3 (((o3.below L0.drew o3.1).below h1 (o3.below L0.drew o3.1).1).below h2 ((o3.below L0.drew o3.1).below h1 (o3.below L0.drew o3.1).1).1).1; rintro e u4 ⟨p3, q3, rfl, t3, h4⟩; have B4 := B3.below h4 B3.lt; have v0 := B4.c0; have v1 := B4.c1; have v2 := B4.c2; have v3 := B4.c3; have R4 := (((R0.drew.below h1 R0.lt).below h2 (R0.drew.below h1 R0.lt).lt).below h3 ((R0.drew.below h1 R0.lt).below h2 (R0.drew.below h1 R0.lt).lt).lt).below h4 (((R0.drew.below h1 R0.lt).below h2 (R0.drew.below h1 R0.lt).lt).below h3 ((R0.drew.below h1 R0.lt).below h2 (R0.drew.below h1 R0.lt).lt).lt).lt; have j0 := R4.c0; have j1 := R4.c1; have j2 := R4.c2; have j3 := R4.c3; have g0 := R4.f0; have g1 := R4.f1; have g2 := R4.f2; have g3 := R4.f3))
  have M0 := L0.drew
  have M1 := M0.trans (h1.mono M0.size); have M2 := M1.trans (h2.mono M1.size); have M3 := M2.trans (h3.mono M2.size); have M4 := M3.trans (h4.mono M3.size)
  have z1' := h1.size; have z2' := h2.size; have z3' := h3.size; have z4' := h4.size
  rw [World.size_drew] at z1' t0
  replace t0 := ((t0.below h2 (Nat.le_refl _)).below h3 z2').below h4 (by omega)
  replace t1 := (t1.below h3 (Nat.le_refl _)).below h4 z3'
  replace t2 := t2.below h4 (Nat.le_refl _)
  obtain ⟨F, FO⟩ := R4.fill (.slice p0 l0.length q0) (.slice p1 l1.length q1) (.slice p2 l2.length q2) (.slice p3 l3.length q3)
  clear B0 B1 B2 B3 B4 R0 L0 M0 M1 M2 M3 h1 h2 h3 h4
  clear x0 x1 x2 x3 y0 y1 y2 y3 z0 z1 z2 z3 m0 m1 m2 m3 v0 v1 v2 v3
  go_wp2
  have i0 := F.c0; have i1 := F.c1; have i2 := F.c2; have i3 := F.c3
  refine bodyPost_ret (v := .agg #[.slice p0 l0.length q0, .slice p1 l1.length q1, .slice p2 l2.length q2, .slice p3 l3.length q3]) ?_ rfl ⟨p0, p1, p2, p3, q0, q1, q2, q3, rfl, ?_, ?_, ?_, ?_, ?_⟩
  · simp [results, Try.results131, go_sem, i0, i1, i2, i3]
  · exact (t0.out FO (by omega)).mono (by omega) (by have := FO.size; omega)
  · exact (t1.out FO (by omega)).mono (by omega) (by have := FO.size; omega)
  · exact (t2.out FO (by omega)).mono (by omega) (by have := FO.size; omega)
  · exact (t3.out FO (by omega)).mono (by omega) (by have := FO.size; omega)
  · exact M4.trans (FO.below (by omega) M4.size)

end Go.Proofs.Ytfplloabkceaoaa
