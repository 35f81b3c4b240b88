/-
  The walk of the law FnExactReaches.
-/
import Derived.Test.YtagcbnngacealaaMk
import Derived.Test.YtagcbnngacealaaSg
namespace Go.Proofs.Ytagcbnngacealaa.reaches
open Go.RowKit

set_option maxHeartbeats 1000000 in
theorem walk (a0 a1 : Option Addr) (c0 c1 : Nat) (l0 l1 : List Int) (x y : Int) (w : World) (wx : (Lit.int .i64 x).wf = true) (m0 : l0.length ≤ maxLen) (m1 : l1.length ≤ maxLen) (r0 : IRow w a0 l0) (r1 : IRow w a1 l1) :
    Calls Try.prog 14 #[.agg #[.slice a0 l0.length c0, .slice a1 l1.length c1], .int .i64 x, .int .i64 y] w fun e w' => e = .returned (.bool true) ∧ Below w.heap.size w w' := by
  have A0 := Box.new w (.slice a0 l0.length c0) (.slice a1 l1.length c1) 41
  have L0 : Below w.heap.size w (w.alloc (.cells #[.slice a0 l0.length c0, .slice a1 l1.length c1] 41)) := (Below.refl _ _).alloc (Nat.le_refl _) _
  go_enter Try.func14, Try.ntmps14
  go_wp2_with fail
  refine (szState_any _ _ _ _ _ _ _ _ m0 m1 (by omega) (by omega)).mono ?_
  rintro e w1 ⟨rfl, hb⟩
  have A1 := A0.keep hb; have L1 := L0.trans (hb.mono L0.size)
  clear hb A0 L0
  have x0 := A1.c0; have x1 := A1.c1
  by_cases hT : 1048576 < l0.length + l1.length
  · rw [show szI ((l0.length : Int) + l1.length) 1048576 = -1 by unfold szI; rw [if_pos (by omega)]]
    go_wp2
    go_ret
    exact ⟨rfl, L1⟩
  have n0 : l0.length ≤ 1048576 := by omega
  have n1 : l1.length ≤ 1048576 := by omega
  obtain ⟨left, hl, hl0⟩ : ∃ left : Int, szI ((l0.length : Int) + l1.length) 1048576 = left ∧ ¬ left < 0 := ⟨_, rfl, by unfold szI; rw [if_neg (by omega)]; omega⟩
  rw [hl]
  clear hl hT
  go_wp2_with fail
  refine (toState_any _ _ _ _ _ _ _ n0 n1 (by exact r0.below L1 (Nat.le_refl _)) (by exact r1.below L1 (Nat.le_refl _))).mono ?_
  rintro e w2 ⟨b0, b1, rfl, -, -, o0, o1, hb⟩
  have A2 := A1.keep hb; have L2 := L1.trans (hb.mono L1.size)
  clear hb A1 L1 x0 x1
  go_wp2_with fail
  refine (sReaches_any _ _ _ _ _ _ _ _ _ n0 n1 (by exact o0) (by exact o1)).mono ?_
  rintro e w3 ⟨rfl, hb⟩
  have A3 := A2.keep hb; have L3 := L2.trans (hb.mono L2.size)
  clear hb A2 L2 o0 o1
  have x0 := A3.c0; have x1 := A3.c1
  go_wp2_with fail
  refine (toState_any _ _ _ _ _ _ _ n0 n1 (by exact r0.below L3 (Nat.le_refl _)) (by exact r1.below L3 (Nat.le_refl _))).mono ?_
  rintro e w4 ⟨d0, d1, rfl, -, -, o0, o1, hb⟩
  have A4 := A3.keep hb; have L4 := L3.trans (hb.mono L3.size)
  clear hb A3 L3 x0 x1
  go_wp2_with fail
  have X4 := Box.new w4 (.slice (some ⟨d0, 0, none⟩) l0.length l0.length) (.slice (some ⟨d1, 0, none⟩) l1.length l1.length) 44
  refine (iReaches_any _ _ _ _ _ _ _ _ _ wx n0 n1 (by exact o0.alloc _) (by exact o1.alloc _)).mono ?_
  rintro e w5 ⟨rfl, hb⟩
  have X5 := X4.keep hb
  have A5 := (A4.alloc _).keep hb; have L5 := (L4.alloc L4.size _).trans (hb.mono (L4.alloc L4.size _).size)
  replace o0 := (o0.alloc _).keep hb; replace o1 := (o1.alloc _).keep hb
  clear hb A4 L4 X4
  generalize (segO l0 l1 x y).isSome = g0
  generalize w4.heap.size = N4 at X5
  have x0 := A5.c0; have x1 := A5.c1
  have y0 := X5.c0; have y1 := X5.c1
  go_wp2_with fail
  go_region_with (first
    | (go_at_call 31; refine (toState_any _ _ _ _ _ _ _ n0 n1 ?_ ?_).mono ?_; exact r0.below L5.drew (Nat.le_refl _); exact r1.below L5.drew (Nat.le_refl _); rintro e w6 ⟨f0, f1, rfl, -, -, p0, p1, hb6⟩; have X6 := X5.drew.below hb6 X5.lt; have z0 := X6.c0; have z1 := X6.c1; clear X6)
    | (go_at_call 33; refine (eqState_rows 0 w6.heap.size 0 w6.heap.size 0 w6.heap.size 0 w6.heap.size _ _ _ _ _ _ _ _ _ _ l0 l1 _ n0 n1 ?_ ?_ ?_ ?_ (Nat.le_refl _) (Nat.le_refl _) (Nat.le_refl _) (Nat.le_refl _)).mono ?_; exact IntIn.ofOwn (o0.drew.below hb6 o0.1) rfl (Nat.zero_le _) (o0.drew.below hb6 o0.1).1; exact IntIn.ofOwn (o1.drew.below hb6 o1.1) rfl (Nat.zero_le _) (o1.drew.below hb6 o1.1).1; exact IntIn.ofOwn p0 rfl (Nat.zero_le _) p0.1; exact IntIn.ofOwn p1 rfl (Nat.zero_le _) p1.1; rintro e w7 ⟨rfl, hb7⟩))
  all_goals
    have L7 : Below w.heap.size w w7 := (L5.drew.trans (hb6.mono L5.size)).trans (hb7.mono (L5.drew.trans (hb6.mono L5.size)).size)
    go_wp2
    go_ret
    exact ⟨rfl, L7⟩

end Go.Proofs.Ytagcbnngacealaa.reaches
