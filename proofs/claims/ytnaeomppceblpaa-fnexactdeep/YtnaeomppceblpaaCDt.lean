/-
  The contracts of Deep.
-/
import Derived.Test.YtnaeomppceblpaaCDi
import Derived.Outline
namespace Go.Proofs.Ytnaeomppceblpaa
open Go.RowKit

def deepV (l : List Cm) : Int := if progV l = true then (deeps l : Int) else -1

set_option maxHeartbeats 1000000 in
theorem sDeep_any (l : List Cm) (w : World) (lo hi : Nat) (a : Option Addr) (cap : Nat) (hr : CRow w lo hi a l) (hh : hi ≤ w.heap.size) (hs : cnts l ≤ 1048576) :
    Calls Try.prog 66 #[.slice a l.length cap] w fun e w' => e = .returned (.int .i64 (deepV l)) ∧ Below w.heap.size w w' := by
  have HV : Hid (deepV l = if progV l = true then (deeps l : Int) else -1) := rfl
  go_enter Try.func66, Try.ntmps66
  go_wp2_with fail
  refine (sProgOk_any l _ _ _ _ _ hr hh (by omega)).mono ?_
  rintro e w1 ⟨rfl, L⟩
  cases hok : progV l
  · go_wp2
    go_ret
    exact ⟨ret_int (by rw [HV.out, hok]; rfl), L⟩
  go_wp2_with fail
  refine (l6deep_any l _ _ _ _ _ (by exact hr.below L hh) hs).mono ?_
  rintro e w2 ⟨rfl, rfl⟩
  have L2 := L
  go_wp2
  go_ret
  exact ⟨ret_int (by rw [HV.out, hok]; rfl), L2⟩

set_option maxHeartbeats 1000000 in
theorem iDeep_any (l : List Cm) (w : World) (lo hi : Nat) (a : Option Addr) (cap : Nat) (hr : CRow w lo hi a l) (hh : hi ≤ w.heap.size) (hs : cnts l ≤ 1048576) :
    Calls Try.prog 67 #[.slice a l.length cap] w fun e w' => e = .returned (.int .i64 (deepV l)) ∧ Below w.heap.size w w' := by
  have HV : Hid (deepV l = if progV l = true then (deeps l : Int) else -1) := rfl
  go_enter Try.func67, Try.ntmps67
  go_wp2_with fail
  refine (iProgOk_any l _ _ _ _ _ hr hh (by omega)).mono ?_
  rintro e w1 ⟨rfl, L⟩
  cases hok : progV l
  · go_wp2
    go_ret
    exact ⟨ret_int (by rw [HV.out, hok]; rfl), L⟩
  go_wp2_with fail
  refine (deepOf_any l _ _ _ _ _ (by exact hr.below L hh) (by exact Nat.le_trans hh L.size) hs).mono ?_
  rintro e w2 ⟨rfl, hb⟩
  have L2 := L.trans (hb.mono L.size)
  go_wp2
  go_ret
  exact ⟨ret_int (by rw [HV.out, hok]; rfl), L2⟩

end Go.Proofs.Ytnaeomppceblpaa
