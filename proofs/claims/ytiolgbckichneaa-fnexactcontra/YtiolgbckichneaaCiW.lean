/-
  The walk of the law FnExactContra.
-/
import Derived.Test.YtiolgbckichneaaSz
import Derived.Test.YtiolgbckichneaaTo
import Derived.Test.YtiolgbckichneaaEq
import Derived.Test.YtiolgbckichneaaCi
namespace Go.Proofs.Ytiolgbckichneaa.contra
open Go.RowKit

set_option maxHeartbeats 1000000 in
theorem walk (a0 a1 a2 a3 : Option Addr) (c0 c1 c2 c3 : Nat) (l0 l1 l2 l3 : List (Int × Int)) (w : World)
    (m0 : l0.length ≤ maxLen) (m1 : l1.length ≤ maxLen) (m2 : l2.length ≤ maxLen) (m3 : l3.length ≤ maxLen)
    (r0 : PRow w a0 l0) (r1 : PRow w a1 l1) (r2 : PRow w a2 l2) (r3 : PRow w a3 l3) :
    Calls Try.prog 11 #[.agg #[.slice a0 l0.length c0, .slice a1 l1.length c1, .slice a2 l2.length c2, .slice a3 l3.length c3]] w fun e w' => e = .returned (.bool true) ∧ Below w.heap.size w w' := by
  have A0 := Box.new w (.slice a0 l0.length c0) (.slice a1 l1.length c1) (.slice a2 l2.length c2) (.slice a3 l3.length c3) 24
  have L0 : Below w.heap.size w (w.alloc (.cells #[.slice a0 l0.length c0, .slice a1 l1.length c1, .slice a2 l2.length c2, .slice a3 l3.length c3] 24)) := (Below.refl _ _).alloc (Nat.le_refl _) _
  go_enter Try.func11, Try.ntmps11
  go_wp2_with fail
  refine (szAsn_any _ _ _ _ _ _ _ _ _ _ _ _ _ _ m0 m1 m2 m3 (by omega) (by omega)).mono ?_
  rintro e w1 ⟨rfl, hb⟩
  have A1 := A0.below hb A0.lt; have L1 := L0.trans (hb.mono L0.size)
  clear hb A0 L0
  have x0 := A1.c0; have x1 := A1.c1; have x2 := A1.c2; have x3 := A1.c3
  by_cases hT : 1048576 < l0.length + l1.length + l2.length + l3.length
  · rw [show szI ((l0.length : Int) + l1.length + l2.length + l3.length) 1048576 = -1 by unfold szI; rw [if_pos (by omega)]]
    go_wp2
    go_ret
    exact ⟨rfl, L1⟩
  have n0 : l0.length ≤ 1048576 := by omega
  have n1 : l1.length ≤ 1048576 := by omega
  have n2 : l2.length ≤ 1048576 := by omega
  have n3 : l3.length ≤ 1048576 := by omega
  obtain ⟨left, hl, hl0⟩ : ∃ left : Int, szI ((l0.length : Int) + l1.length + l2.length + l3.length) 1048576 = left ∧ ¬ left < 0 := ⟨_, rfl, by unfold szI; rw [if_neg (by omega)]; omega⟩
  rw [hl]
  clear hl hT
  go_wp2_with fail
  refine (toAsn_any _ _ _ _ _ _ _ _ _ _ _ _ _ n0 n1 n2 n3 (by exact r0.below L1 (Nat.le_refl _)) (by exact r1.below L1 (Nat.le_refl _)) (by exact r2.below L1 (Nat.le_refl _)) (by exact r3.below L1 (Nat.le_refl _))).mono ?_
  rintro e w2 ⟨b0, b1, b2, b3, rfl, -, -, -, -, o0, o1, o2, o3, hb⟩
  have A2 := A1.below hb A1.lt; have L2 := L1.trans (hb.mono L1.size)
  clear hb A1 L1 x0 x1 x2 x3
  go_wp2_with fail
  refine (sContra_any _ _ _ _ _ _ _ _ _ _ _ _  _ n0 n1 n2 n3 (by exact o0.row) (by exact o1.row) (by exact o2.row) (by exact o3.row)).mono ?_
  rintro e w3 ⟨rfl, hb⟩
  have A3 := A2.below hb A2.lt; have L3 := L2.trans (hb.mono L2.size)
  clear hb A2 L2 o0 o1 o2 o3
  have x0 := A3.c0; have x1 := A3.c1; have x2 := A3.c2; have x3 := A3.c3
  go_wp2_with fail
  refine (toAsn_any _ _ _ _ _ _ _ _ _ _ _ _ _ n0 n1 n2 n3 (by exact r0.below L3 (Nat.le_refl _)) (by exact r1.below L3 (Nat.le_refl _)) (by exact r2.below L3 (Nat.le_refl _)) (by exact r3.below L3 (Nat.le_refl _))).mono ?_
  rintro e w4 ⟨d0, d1, d2, d3, rfl, -, -, -, -, o0, o1, o2, o3, hb⟩
  have A4 := A3.below hb A3.lt; have L4 := L3.trans (hb.mono L3.size)
  clear hb A3 L3 x0 x1 x2 x3
  go_wp2_with fail
  have X4 := Box.new w4 (.slice (some ⟨d0, 0, none⟩) l0.length l0.length) (.slice (some ⟨d1, 0, none⟩) l1.length l1.length) (.slice (some ⟨d2, 0, none⟩) l2.length l2.length) (.slice (some ⟨d3, 0, none⟩) l3.length l3.length) 28
  refine (iContra_any _ _ _ _ _ _ _ _ _ _ _ _  _ n0 n1 n2 n3 (by exact (o0.alloc _).row) (by exact (o1.alloc _).row) (by exact (o2.alloc _).row) (by exact (o3.alloc _).row)).mono ?_
  rintro e w5 ⟨rfl, hb⟩
  have X5 := X4.below hb X4.lt
  have A5 := (A4.alloc _).below hb (A4.alloc _).lt; have L5 := (L4.alloc L4.size _).trans (hb.mono (L4.alloc L4.size _).size)
  replace o0 := (o0.alloc _).below hb (o0.alloc _).1; replace o1 := (o1.alloc _).below hb (o1.alloc _).1; replace o2 := (o2.alloc _).below hb (o2.alloc _).1; replace o3 := (o3.alloc _).below hb (o3.alloc _).1
  clear hb A4 L4 X4
  generalize contraA l0 l1 l2 l3 = g
  generalize w4.heap.size = N4 at X5
  have x0 := A5.c0; have x1 := A5.c1; have x2 := A5.c2; have x3 := A5.c3
  have y0 := X5.c0; have y1 := X5.c1; have y2 := X5.c2; have y3 := X5.c3
  go_wp2_with fail
  go_region_with (first
    | (go_at_call 18; refine (toAsn_any _ _ _ _ _ _ _ _ _ _ _ _ _ n0 n1 n2 n3 ?_ ?_ ?_ ?_).mono ?_; exact r0.below L5.drew (Nat.le_refl _); exact r1.below L5.drew (Nat.le_refl _); exact r2.below L5.drew (Nat.le_refl _); exact r3.below L5.drew (Nat.le_refl _); rintro e w6 ⟨f0, f1, f2, f3, rfl, -, -, -, -, p0, p1, p2, p3, hb6⟩; have X6 := X5.drew.below hb6 X5.lt; have z0 := X6.c0; have z1 := X6.c1; have z2 := X6.c2; have z3 := X6.c3; clear X6)
    | (go_at_call 20; refine (eqAsn_same _ _ _ _ _ _ _ _ _ _ _ _ _ _ _ _ _ _ _ _ _ n0 n1 n2 n3 ?_ ?_ ?_ ?_ ?_ ?_ ?_ ?_).mono ?_; exact (o0.drew.below hb6 o0.1).row; exact (o1.drew.below hb6 o1.1).row; exact (o2.drew.below hb6 o2.1).row; exact (o3.drew.below hb6 o3.1).row; exact p0.row; exact p1.row; exact p2.row; exact p3.row; rintro e w7 ⟨rfl, hb7⟩))
  all_goals
    have L7 : Below w.heap.size w w7 := (L5.drew.trans (hb6.mono L5.size)).trans (hb7.mono (L5.drew.trans (hb6.mono L5.size)).size)
    go_wp2
    go_ret
    exact ⟨rfl, L7⟩

end Go.Proofs.Ytiolgbckichneaa.contra
