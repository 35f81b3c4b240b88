/-
  The walk of the law FnExactApart.
-/
import Derived.Test.YtagcbnngacealaaMk
import Derived.Test.YtagcbnngacealaaAp
namespace Go.Proofs.Ytagcbnngacealaa.apart
open Go.RowKit

set_option maxHeartbeats 1000000 in
theorem walk (a0 : Option Addr) (c0 : Nat) (l0 : List Int) (a1 : Option Addr) (c1 : Nat) (l1 : List Int) (w : World) (m0 : l0.length ≤ maxLen) (r0 : IRow w a0 l0) (m1 : l1.length ≤ maxLen) (r1 : IRow w a1 l1) :
    Calls Try.prog 10 #[.slice a0 l0.length c0, .slice a1 l1.length c1] w fun e w' => e = .returned (.bool true) ∧ Below w.heap.size w w' := by
  unfold maxLen at m0 m1
  by_cases h0 : 1048576 < l0.length
  · have h0' : (1048576 : Int) < (l0.length : Int) := by omega
    go_enter Try.func10, Try.ntmps10
    go_wp2
    go_ret
    exact ⟨rfl, Below.refl _ _⟩
  by_cases h1 : 1048576 < l1.length
  · have h1' : (1048576 : Int) < (l1.length : Int) := by omega
    have h0' : ¬ (1048576 : Int) < (l0.length : Int) := by omega
    go_enter Try.func10, Try.ntmps10
    go_wp2
    go_ret
    exact ⟨rfl, Below.refl _ _⟩
  have n0 : l0.length ≤ 1048576 := by omega
  have n1 : l1.length ≤ 1048576 := by omega
  have h0' : ¬ (1048576 : Int) < (l0.length : Int) := by omega
  have h1' : ¬ (1048576 : Int) < (l1.length : Int) := by omega
  have L0 : Below w.heap.size w w := Below.refl _ _
  go_enter Try.func10, Try.ntmps10
  go_wp2_with fail
  refine (toIntS_any _ _ _ _ n0 (by exact r0.below L0 (Nat.le_refl _))).mono ?_
  rintro e w1 ⟨b0, rfl, -, o0, hb⟩
  have L1 := L0.trans (hb.mono L0.size)
  clear hb L0
  go_wp2_with fail
  refine (toIntS_any _ _ _ _ n1 (by exact r1.below L1 (Nat.le_refl _))).mono ?_
  rintro e w2 ⟨b1, rfl, -, o1, hb⟩
  have L2 := L1.trans (hb.mono L1.size); replace o0 := o0.keep hb
  clear hb L1
  go_wp2_with fail
  refine (sApart_any _ _ _ _ _ _ _ n0 n1 (by exact o0) (by exact o1)).mono ?_
  rintro e w3 ⟨rfl, rfl⟩
  clear o0 o1
  go_wp2_with fail
  refine (toIntS_any _ _ _ _ n0 (by exact r0.below L2 (Nat.le_refl _))).mono ?_
  rintro e w4 ⟨d0, rfl, -, o0, hb⟩
  have L4 := L2.trans (hb.mono L2.size)
  clear hb L2
  go_wp2_with fail
  refine (toIntS_any _ _ _ _ n1 (by exact r1.below L4 (Nat.le_refl _))).mono ?_
  rintro e w5 ⟨d1, rfl, -, o1, hb⟩
  have L5 := L4.trans (hb.mono L4.size); replace o0 := o0.keep hb
  clear hb L4
  go_wp2_with fail
  refine (iApart_any _ _ _ _ _ _ _ n0 n1 (by exact o0) (by exact o1)).mono ?_
  rintro e w6 ⟨rfl, hb⟩
  have L6 := L5.trans (hb.mono L5.size); replace o0 := o0.keep hb; replace o1 := o1.keep hb
  clear hb L5
  generalize apV l0 l1 = g
  go_wp2_with fail
  refine (toIntS_any _ _ _ _ n0 (by exact r0.below L6 (Nat.le_refl _))).mono ?_
  rintro e w7 ⟨f0, rfl, -, p0, hb⟩
  have L7 := L6.trans (hb.mono L6.size); replace o0 := o0.keep hb; replace o1 := o1.keep hb
  clear hb L6
  go_wp2_with fail
  refine (eqIntS_rows 0 w7.heap.size 0 w7.heap.size _ _ _ _ _ l0 _ n0 (by exact IntIn.ofOwn o0 rfl (Nat.zero_le _) o0.1) (by exact IntIn.ofOwn p0 rfl (Nat.zero_le _) p0.1)).mono ?_
  rintro e w8 ⟨rfl, hb⟩
  have L8 := L7.trans (hb.mono L7.size); replace o1 := o1.keep hb
  clear hb L7 o0 p0
  go_wp2_with fail
  refine (toIntS_any _ _ _ _ n1 (by exact r1.below L8 (Nat.le_refl _))).mono ?_
  rintro e w9 ⟨f1, rfl, -, p1, hb⟩
  have L9 := L8.trans (hb.mono L8.size); replace o1 := o1.keep hb
  clear hb L8
  go_wp2_with fail
  refine (eqIntS_rows 0 w9.heap.size 0 w9.heap.size _ _ _ _ _ l1 _ n1 (by exact IntIn.ofOwn o1 rfl (Nat.zero_le _) o1.1) (by exact IntIn.ofOwn p1 rfl (Nat.zero_le _) p1.1)).mono ?_
  rintro e w10 ⟨rfl, hb⟩
  have L10 := L9.trans (hb.mono L9.size)
  clear hb L9 o1 p1
  go_wp2
  go_ret
  exact ⟨rfl, L10⟩

end Go.Proofs.Ytagcbnngacealaa.apart
