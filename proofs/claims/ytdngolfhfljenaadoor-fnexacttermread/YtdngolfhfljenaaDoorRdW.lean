/-
  The walk of the law FnExactTermRead.
-/
import Derived.Test.YtdngolfhfljenaaDoorRd
namespace Go.Proofs.YtdngolfhfljenaaDoor.termRead
open Go.RowKit

set_option maxRecDepth 100000 in
set_option maxHeartbeats 1000000 in
theorem walk (a : Option Addr) (cap : Nat) (l : List Int) (w : World) (hm : l.length ≤ maxLen) (hr : YRow w a l) :
    Calls Tryd.prog 6 #[.slice a l.length cap] w fun e w' => e = .returned (.bool true) ∧ Below w.heap.size w w' := by
  unfold maxLen at hm
  by_cases hT : 1048576 < (l.length : Int)
  · go_enter Tryd.func6, Tryd.ntmps6
    go_wp2
    go_ret
    exact ⟨rfl, Below.refl _ _⟩
  have hn : l.length ≤ 1048576 := by omega
  obtain ⟨q, hq⟩ : ∃ q, rd (qB l) = q := ⟨_, rfl⟩
  have HQ : Hid (rd (qB l) = q) := hq
  clear hq
  go_enter Tryd.func6, Tryd.ntmps6
  go_wp2_with fail
  refine (toByteS_any _ _ _ _ hn hr).mono ?_
  rintro e w1 ⟨b1, rfl, -, o1, L1⟩
  go_wp2_with fail
  refine (sTermRead_any _ _ _ _ _ o1 rfl).mono ?_
  rintro e w2 ⟨rfl, hb⟩
  rw [HQ.out]
  have L2 := L1.trans (hb.mono L1.size)
  clear hb L1 o1
  go_wp2_with fail
  refine (toByteS_any _ _ _ _ hn (by exact hr.below L2)).mono ?_
  rintro e w3 ⟨b2, rfl, -, o2, hb⟩
  have L3 := L2.trans (hb.mono L2.size)
  clear hb L2
  go_wp2_with fail
  refine (iTermRead_any _ _ _ _ _ o2 rfl).mono ?_
  rintro e w4 ⟨rfl, hb⟩
  rw [HQ.out]
  have L4 := L3.trans (hb.mono L3.size)
  have o4 := o2.below hb o2.1
  clear hb L3 o2
  go_wp2_with fail
  refine (toByteS_any _ _ _ _ hn (by exact hr.below L4)).mono ?_
  rintro e w5 ⟨b3, rfl, -, o3, hb⟩
  have L5 := L4.trans (hb.mono L4.size)
  have o5 := o4.below hb o4.1
  clear hb L4 o4
  go_wp2_with fail
  refine (eqByteS_rows 0 (b2 + 1) 0 (b3 + 1) _ _ _ _ _ l _ hn (by exact ⟨rfl, .inr ⟨b2, rfl, Nat.zero_le _, Nat.lt_succ_self _, o5⟩⟩) (by exact ⟨rfl, .inr ⟨b3, rfl, Nat.zero_le _, Nat.lt_succ_self _, o3⟩⟩)).mono ?_
  rintro e w6 ⟨rfl, hb⟩
  have L6 := L5.trans (hb.mono L5.size)
  clear hb L5 o5 o3
  go_wp2
  go_ret
  exact ⟨rfl, L6⟩

end Go.Proofs.YtdngolfhfljenaaDoor.termRead
