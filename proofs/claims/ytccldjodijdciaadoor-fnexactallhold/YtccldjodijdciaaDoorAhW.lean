/-
  The walk of the law FnExactAllHold.
-/
import Derived.Test.YtccldjodijdciaaDoorAh
import Derived.Test.YtccldjodijdciaaDoorByt
namespace Go.Proofs.YtccldjodijdciaaDoor.allHold
open Go.RowKit

set_option maxRecDepth 100000 in
set_option maxHeartbeats 1000000 in
theorem walk (a : Option Addr) (cap : Nat) (l : List Int) (w : World) (hm : l.length ≤ maxLen) (hr : YRow w a l) (hby : ∀ x ∈ l, 0 ≤ x ∧ x < 256) (hL : verdict.Lw w) :
    Calls Tryd.prog 5 #[.slice a l.length cap] w fun e w' => e = .returned (.bool true) ∧ Below w.heap.size w w' := by
  unfold maxLen at hm
  by_cases hT : 1048576 < (l.length : Int)
  · go_enter Tryd.func5, Tryd.ntmps5
    go_wp2
    go_ret
    exact ⟨rfl, Below.refl _ _⟩
  have hn : l.length ≤ 1048576 := by omega
  go_enter Tryd.func5, Tryd.ntmps5
  go_wp2_with fail
  refine (toByteS_any _ _ _ _ hn hr).mono ?_
  rintro e w1 ⟨b1, rfl, -, o1, L1⟩
  go_wp2_with fail
  refine (sAllHold_any b1 l w1 hn o1).mono ?_
  rintro e w2 ⟨rfl, hb⟩
  have L2 := L1.trans (hb.mono L1.size)
  clear hb L1 o1
  go_wp2_with fail
  refine (toByteS_any _ _ _ _ hn (by exact hr.below L2)).mono ?_
  rintro e w3 ⟨b2, rfl, -, o2, hb⟩
  have L3 := L2.trans (hb.mono L2.size)
  clear hb L2
  have hic := iAllHold_any b2 l w3 hn o2 hby (hL.below L3)
  generalize holdB l = q at *
  go_wp2_with fail
  refine hic.mono ?_
  rintro e w4 ⟨rfl, hb⟩
  have L4 := L3.trans (hb.mono L3.size)
  have o4 := o2.below hb o2.1
  clear hb L3 o2 hic
  go_wp2_with fail
  refine (toByteS_any _ _ _ _ hn (by exact hr.below L4)).mono ?_
  rintro e w5 ⟨b3, rfl, -, o3, hb⟩
  have L5 := L4.trans (hb.mono L4.size)
  have o5 := o4.below hb o4.1
  clear hb L4 o4
  go_wp2_with fail
  refine (eqByteS_rows 0 (b2 + 1) 0 (b3 + 1) _ _ _ _ _ l _ hn (by exact ⟨rfl, .inr ⟨b2, rfl, Nat.zero_le _, Nat.lt_succ_self _, o5⟩⟩) (by exact ⟨rfl, .inr ⟨b3, rfl, Nat.zero_le _, Nat.lt_succ_self _, o3⟩⟩)).mono ?_
  rintro e w6 ⟨rfl, hb⟩
  have L6 := L5.trans (hb.mono L5.size)
  clear hb L5 o5 o3
  go_wp2
  go_ret
  exact ⟨rfl, L6⟩

end Go.Proofs.YtccldjodijdciaaDoor.allHold
