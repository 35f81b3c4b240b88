/-
  The walk of the law FnExactClasses.
-/
import Derived.Test.YtiolgbckichneaaSz
import Derived.Test.YtiolgbckichneaaTo
import Derived.Test.YtiolgbckichneaaEq
import Derived.Test.YtiolgbckichneaaCs
namespace Go.Proofs.Ytiolgbckichneaa.classes
open Go.RowKit

set_option maxHeartbeats 4000000 in
theorem walk (a0 a1 a2 a3 : Option Addr) (c0 c1 c2 c3 : Nat) (l0 l1 l2 l3 : List (Int × Int)) (w : World)
    (m0 : l0.length ≤ maxLen) (m1 : l1.length ≤ maxLen) (m2 : l2.length ≤ maxLen) (m3 : l3.length ≤ maxLen)
    (r0 : PRow w a0 l0) (r1 : PRow w a1 l1) (r2 : PRow w a2 l2) (r3 : PRow w a3 l3) :
    Calls Try.prog 6 #[.agg #[.slice a0 l0.length c0, .slice a1 l1.length c1, .slice a2 l2.length c2, .slice a3 l3.length c3]] w fun e w' => e = .returned (.bool true) ∧ Below w.heap.size w w' := by
  have A0 := Box.new w (.slice a0 l0.length c0) (.slice a1 l1.length c1) (.slice a2 l2.length c2) (.slice a3 l3.length c3) 24
  have L0 : Below w.heap.size w (w.alloc (.cells #[.slice a0 l0.length c0, .slice a1 l1.length c1, .slice a2 l2.length c2, .slice a3 l3.length c3] 24)) := (Below.refl _ _).alloc (Nat.le_refl _) _
  go_enter Try.func6, Try.ntmps6
  go_wp2_with fail
  refine (szAsn_any _ _ _ _ _ _ _ _ _ _ _ _ _ _ m0 m1 m2 m3 (by omega) (by omega)).mono ?_
  rintro e w1 ⟨rfl, hb⟩
  have A1 := A0.below hb A0.lt; have L1 := L0.trans (hb.mono L0.size)
  clear hb A0 L0
  have x0 := A1.c0; have x1 := A1.c1; have x2 := A1.c2; have x3 := A1.c3
  by_cases hT : 1048576 < l0.length + l1.length + l2.length + l3.length
  · rw [show szI ((l0.length : Int) + l1.length + l2.length + l3.length) 1048576 = -1 by unfold szI; rw [if_pos (by omega)]]
    go_wp2
    go_ret
    exact ⟨rfl, L1⟩
  have n0 : l0.length ≤ 1048576 := by omega
  have n1 : l1.length ≤ 1048576 := by omega
  have n2 : l2.length ≤ 1048576 := by omega
  have n3 : l3.length ≤ 1048576 := by omega
  obtain ⟨left, hl, hl0⟩ : ∃ left : Int, szI ((l0.length : Int) + l1.length + l2.length + l3.length) 1048576 = left ∧ ¬ left < 0 := ⟨_, rfl, by unfold szI; rw [if_neg (by omega)]; omega⟩
  rw [hl]
  clear hl hT
  go_wp2_with fail
  refine (toAsn_any _ _ _ _ _ _ _ _ _ _ _ _ _ n0 n1 n2 n3 (by exact r0.below L1 (Nat.le_refl _)) (by exact r1.below L1 (Nat.le_refl _)) (by exact r2.below L1 (Nat.le_refl _)) (by exact r3.below L1 (Nat.le_refl _))).mono ?_
  rintro e w2 ⟨b0, b1, b2, b3, rfl, -, -, -, -, o0, o1, o2, o3, hb⟩
  have A2 := A1.below hb A1.lt; have L2 := L1.trans (hb.mono L1.size)
  clear hb A1 L1 x0 x1 x2 x3
  go_wp2_with fail
  refine (sClasses_any _ _ _ _ _ _ _ _ _ _ _ _ _ n0 n1 n2 n3 (by exact o0.row) (by exact o1.row) (by exact o2.row) (by exact o3.row)).mono ?_
  rintro e w3 ⟨aw, cw, rfl, W3, hb⟩
  have A3 := A2.below hb A2.lt; have L3 := L2.trans (hb.mono L2.size)
  have Q2 : w.heap.size ≤ w2.heap.size := L2.size
  have Q3 := A2.lt
  generalize w2.heap.size = N2 at *
  clear hb A2 L2 o0 o1 o2 o3
  have x0 := A3.c0; have x1 := A3.c1; have x2 := A3.c2; have x3 := A3.c3
  have V3 : (classesA l0 l1 l2 l3).length ≤ 1048576 := classesA_le l0 l1 l2 l3
  generalize hV : classesA l0 l1 l2 l3 = l at *
  have HV : Hid (classesA l0 l1 l2 l3 = l) := hV
  clear hV
  generalize hn : l.length = n at *
  have HN : Hid (l.length = n) := hn
  clear hn
  go_wp2_with fail
  refine (toAsn_any _ _ _ _ _ _ _ _ _ _ _ _ _ n0 n1 n2 n3 (by exact r0.below L3 (Nat.le_refl _)) (by exact r1.below L3 (Nat.le_refl _)) (by exact r2.below L3 (Nat.le_refl _)) (by exact r3.below L3 (Nat.le_refl _))).mono ?_
  rintro e w4 ⟨d0, d1, d2, d3, rfl, g0, g1, g2, g3, o0, o1, o2, o3, hb⟩
  have A4 := A3.below hb A3.lt; have L4 := L3.trans (hb.mono L3.size); have W4 := W3.below hb (Nat.le_refl _)
  have Q4 := A3.lt
  clear hb A3 L3 W3 x0 x1 x2 x3
  go_wp2_with fail
  have X4 := Box.new w4 (.slice (some ⟨d0, 0, none⟩) l0.length l0.length) (.slice (some ⟨d1, 0, none⟩) l1.length l1.length) (.slice (some ⟨d2, 0, none⟩) l2.length l2.length) (.slice (some ⟨d3, 0, none⟩) l3.length l3.length) 28
  refine (iClasses_any _ _ _ _ _ _ _ _ _ _ _ _ _ n0 n1 n2 n3 (by exact (o0.alloc _).row) (by exact (o1.alloc _).row) (by exact (o2.alloc _).row) (by exact (o3.alloc _).row)).mono ?_
  rintro e w5 ⟨ag, cg, rfl, G5, hb⟩
  rw [HV.out, HN.out] at G5
  rw [HV.out, HN.out]
  have S5 := hb.size
  have X5 := X4.below hb X4.lt
  have A5 := (A4.alloc _).below hb (A4.alloc _).lt; have L5 := (L4.alloc L4.size _).trans (hb.mono (L4.alloc L4.size _).size)
  have W5 := (W4.below ((Below.refl _ _).alloc (Nat.le_refl _) _) (by have := g0; have := o0.1; omega)).below hb (by have := g0; have := o0.1; simp; omega)
  have E3 := o3.1
  replace o0 := (o0.alloc _).below hb (o0.alloc _).1; replace o1 := (o1.alloc _).below hb (o1.alloc _).1; replace o2 := (o2.alloc _).below hb (o2.alloc _).1; replace o3 := (o3.alloc _).below hb (o3.alloc _).1
  rw [World.size_alloc] at S5 G5
  clear hb A4 L4 X4 W4
  generalize w4.heap.size = N4 at *
  generalize w3.heap.size = N3 at *
  go_wp2_with fail
  refine (eqIntS_rows _ _ _ _ _ _ _ _ _ _ _ V3 (by exact G5) (by exact W5)).mono ?_
  rintro e w6 ⟨rfl, hb⟩
  have X6 := X5.below hb X5.lt; have A6 := A5.below hb A5.lt; have L6 := L5.trans (hb.mono L5.size)
  have G6 := G5.below hb (Nat.le_refl _); have W6 := W5.below hb (by omega)
  replace o0 := o0.below hb o0.1; replace o1 := o1.below hb o1.1; replace o2 := o2.below hb o2.1; replace o3 := o3.below hb o3.1
  have S6 := hb.size
  generalize w5.heap.size = N5 at *
  clear hb X5 A5 L5 G5 W5
  have x0 := A6.c0; have x1 := A6.c1; have x2 := A6.c2; have x3 := A6.c3
  have y0 := X6.c0; have y1 := X6.c1; have y2 := X6.c2; have y3 := X6.c3
  go_wp2_with fail
  go_region_with (first
    | (go_at_call 18; refine (toAsn_any _ _ _ _ _ _ _ _ _ _ _ _ _ n0 n1 n2 n3 ?_ ?_ ?_ ?_).mono ?_; exact r0.below L6.drew (Nat.le_refl _); exact r1.below L6.drew (Nat.le_refl _); exact r2.below L6.drew (Nat.le_refl _); exact r3.below L6.drew (Nat.le_refl _); rintro e w7 ⟨f0, f1, f2, f3, rfl, -, -, -, -, p0, p1, p2, p3, hb7⟩; have X7 := X6.drew.below hb7 X6.lt; have z0 := X7.c0; have z1 := X7.c1; have z2 := X7.c2; have z3 := X7.c3; clear X7)
    | (go_at_call 20; refine (eqAsn_same _ _ _ _ _ _ _ _ _ _ _ _ _ _ _ _ _ _ _ _ _ n0 n1 n2 n3 ?_ ?_ ?_ ?_ ?_ ?_ ?_ ?_).mono ?_; exact (o0.drew.below hb7 o0.1).row; exact (o1.drew.below hb7 o1.1).row; exact (o2.drew.below hb7 o2.1).row; exact (o3.drew.below hb7 o3.1).row; exact p0.row; exact p1.row; exact p2.row; exact p3.row; rintro e w8 ⟨rfl, hb8⟩))
  all_goals
    have hb : Below w6.heap.size w6 w8 := ((Below.refl _ _).drew.trans hb7).trans (hb8.mono (by have := hb7.size; simpa using this))
    have X8 := X6.below hb X6.lt; have A8 := A6.below hb A6.lt; have L8 := L6.trans (hb.mono L6.size)
    have G8 := G6.below hb S6; have W8 := W6.below hb (by omega)
    replace o0 := o0.below hb o0.1; replace o1 := o1.below hb o1.1; replace o2 := o2.below hb o2.1; replace o3 := o3.below hb o3.1
    have S8 : N5 ≤ w8.heap.size := Nat.le_trans S6 hb.size
    clear hb hb7 hb8 p0 p1 p2 p3 z0 z1 z2 z3 x0 x1 x2 x3 y0 y1 y2 y3 X6 A6 L6 G6 W6 S6
    have y0 := X8.c0; have y1 := X8.c1; have y2 := X8.c2; have y3 := X8.c3
    go_wp2_with fail
    clear y0 y1 y2 y3
    refine (markAsn_any d0 d1 d2 d3 (d3 + 1) _ _ _ _ _ _ _ _ _ _ _ _ l0 l1 l2 l3 _ (by omega) (by omega) (by omega) (by omega) (by omega) (by omega) (by omega) (by omega) (by have := o3.1; omega) (by exact RowIn.ofOwn o0 rfl (Nat.le_refl _) g1) (by exact RowIn.ofOwn o1 rfl (Nat.le_refl _) g2) (by exact RowIn.ofOwn o2 rfl (Nat.le_refl _) g3) (by exact RowIn.ofOwn o3 rfl (Nat.le_refl _) (by omega))).mono ?_
    rintro e w9 ⟨rfl, -, -, -, -, ho⟩
    have A9 := A8.out ho (by omega)
    have L9 := L8.trans (ho.below (by omega) L8.size)
    have G9 := G8.out ho (by omega); have W9 := W8.out ho (by omega)
    have S9 : N5 ≤ w9.heap.size := Nat.le_trans S8 ho.size
    clear ho X8 A8 L8 G8 W8 o0 o1 o2 o3 S8
    obtain ⟨K, hK, hK0⟩ : ∃ K : Int, (1 + 2 * (l0.length : Int) + 2 * l1.length + 2 * l2.length + 2 * l3.length) = K ∧ ¬ K < 0 := ⟨_, rfl, by omega⟩
    rw [hK]
    clear hK
    go_wp2_with fail
    refine (eqIntS_rows _ _ _ _ _ _ _ _ _ _ _ V3 (by exact G9) (by exact W9)).mono ?_
    rintro e w10 ⟨rfl, hb⟩
    have A10 := A9.below hb A9.lt; have L10 := L9.trans (hb.mono L9.size)
    have G10 := G9.below hb S9; have W10 := W9.below hb (by omega)
    have S10 : N5 ≤ w10.heap.size := Nat.le_trans S9 hb.size
    clear hb A9 L9 G9 W9 S9
    go_wp2_with fail
    refine (markIntS_any _ _ _ _ _ _ _ _ (by omega) (by omega) (by omega) (by exact G10)).mono ?_
    rintro e w11 ⟨rfl, G11, ho⟩
    have A11 := A10.out ho (by omega)
    have L11 := L10.trans (ho.below (by have := L10.size; omega) L10.size)
    have W11 := W10.out ho (by omega)
    have S11 : N5 ≤ w11.heap.size := Nat.le_trans S10 ho.size
    clear ho A10 L10 G10 W10 S10
    have M0 : ¬ ((1 : Int) + 1 * (n : Int) < 0) := by omega
    go_wp2_with fail
    refine (heldIntS_any _ _ _ _ _ _ _ (by omega) (by omega) (by omega) (by exact G11)).mono ?_
    rintro e wx ⟨rfl, rfl⟩
    have x0 := A11.c0; have x1 := A11.c1; have x2 := A11.c2; have x3 := A11.c3
    go_wp2_with fail
    refine (toAsn_any _ _ _ _ _ _ _ _ _ _ _ _ _ n0 n1 n2 n3 (by exact r0.below L11 (Nat.le_refl _)) (by exact r1.below L11 (Nat.le_refl _)) (by exact r2.below L11 (Nat.le_refl _)) (by exact r3.below L11 (Nat.le_refl _))).mono ?_
    rintro e w12 ⟨k0, k1, k2, k3, rfl, -, -, -, -, o0, o1, o2, o3, hb⟩
    have L12 := L11.trans (hb.mono L11.size)
    have G12 := G11.below hb S11; have W12 := W11.below hb (by omega)
    have S12 := hb.size
    clear hb A11 L11 G11 W11 x0 x1 x2 x3
    go_wp2_with fail
    refine (iClasses_any _ _ _ _ _ _ _ _ _ _ _ _ _ n0 n1 n2 n3 (by exact o0.row) (by exact o1.row) (by exact o2.row) (by exact o3.row)).mono ?_
    rintro e w13 ⟨ah, ch, rfl, H13, hb⟩
    rw [HV.out, HN.out] at H13
    rw [HV.out, HN.out]
    have L13 := L12.trans (hb.mono L12.size)
    have G13 := G12.below hb (by omega); have W13 := W12.below hb (by omega)
    have S13 : N5 ≤ w13.heap.size := by have := hb.size; omega
    clear hb L12 G12 W12 o0 o1 o2 o3 S12
    go_wp2_with fail
    refine (eqIntS_rows _ _ _ _ _ _ _ _ _ _ _ V3 (by exact H13) (by exact W13)).mono ?_
    rintro e w14 ⟨rfl, hb⟩
    have L14 := L13.trans (hb.mono L13.size)
    have G14 := G13.below hb S13
    clear hb L13 G13 W13 H13
    go_wp2_with fail
    refine (heldIntS_any _ _ _ _ _ _ _ (by omega) (by omega) (by omega) (by exact G14)).mono ?_
    rintro e wx ⟨rfl, rfl⟩
    go_wp2
    go_ret
    exact ⟨rfl, L14⟩

end Go.Proofs.Ytiolgbckichneaa.classes
