/-
  The walk of the law FnExactLoops.
-/
import Derived.Test.YtnaeomppceblpaaCSz
import Derived.Test.YtnaeomppceblpaaCTs
import Derived.Test.YtnaeomppceblpaaCEq
import Derived.Test.YtnaeomppceblpaaCTop
import Derived.Test.YtnaeomppceblpaaCLp
import Derived.Outline
namespace Go.Proofs.Ytnaeomppceblpaa.loops6
open Go.RowKit

set_option maxHeartbeats 1000000 in
theorem walk (a : Option Addr) (cap : Nat) (l : List Cm) (w : World) (hr : CRow w 0 w.heap.size a l) :
    Calls Try.prog 17 #[.slice a l.length cap] w fun e w' => e = .returned (.bool true) ∧ Below w.heap.size w w' := by
  go_enter Try.func17, Try.ntmps17
  go_wp2_with fail
  refine (szCmdS_any l _ _ _ _ _ _ hr (Nat.le_refl _) (by omega) (by omega)).mono ?_
  rintro e w1 ⟨rfl, L1⟩
  by_cases hT : (1048576 : Int) < cnts l
  · rw [szI_neg hT]
    go_wp2
    go_ret
    exact ⟨rfl, L1⟩
  have hs : cnts l ≤ 1048576 := by omega
  obtain ⟨left, hl, hl0⟩ : ∃ left : Int, szI (cnts l) 1048576 = left ∧ ¬ left < 0 := ⟨_, rfl, by rw [szI_pos (by omega)]; omega⟩
  rw [hl]
  clear hl hT
  go_wp2_with fail
  refine (toCmdS_any l _ _ _ _ _ (by exact hr.below L1 (Nat.le_refl _)) (by exact L1.size) hs).mono ?_
  rintro e w2 ⟨b, rfl, g0, g1, O, hb⟩
  have L2 := L1.trans (hb.mono L1.size)
  have R2 := O.row g1 hs
  clear hb L1 O
  go_wp2_with fail
  refine (sLoops_any l _ _ _ _ _ R2 (Nat.le_refl _) hs).mono ?_
  rintro e w3 ⟨rfl, hb⟩
  have L3 := L2.trans (hb.mono L2.size)
  clear hb L2 R2
  go_wp2_with fail
  refine (toCmdS_any l _ _ _ _ _ (by exact hr.below L3 (Nat.le_refl _)) (by exact L3.size) hs).mono ?_
  rintro e w4 ⟨d, rfl, f0, f1, O, hb⟩
  have L4 := L3.trans (hb.mono L3.size)
  have R4 := O.row f1 hs
  clear hb L3 O
  go_wp2_with fail
  refine (iLoops_any l _ _ _ _ _ R4 (Nat.le_refl _) (by omega)).mono ?_
  rintro e w5 ⟨rfl, hb⟩
  have L5 := L4.trans (hb.mono L4.size)
  have R5 := R4.below hb (Nat.le_refl _)
  have s5 := hb.size
  clear hb L4 R4
  generalize loopsV l = g
  go_wp2_with fail
  refine (toCmdS_any l _ _ _ _ _ (by exact hr.below L5 (Nat.le_refl _)) (by exact L5.size) hs).mono ?_
  rintro e w6 ⟨c, rfl, h0, h1, O, hb⟩
  have L6 := L5.trans (hb.mono L5.size)
  have R6 := O.row h1 hs
  have R5' := R5.below hb s5
  have s6 := hb.size
  clear hb L5 O R5
  go_wp2_with fail
  refine (eqCmdS_any l _ _ _ _ _ _ _ _ _ R5' R6 (by exact Nat.le_trans s5 s6) (Nat.le_refl _) hs).mono ?_
  rintro e w7 ⟨rfl, hb⟩
  have L7 := L6.trans (hb.mono L6.size)
  go_wp2
  go_ret
  exact ⟨rfl, L7⟩

end Go.Proofs.Ytnaeomppceblpaa.loops6
