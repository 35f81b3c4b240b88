/-
  The contracts of ProgOk and Size, in package spec and in package impl.
-/
import Derived.Test.YtccldjodijdciaaCSi
import Derived.Test.YtccldjodijdciaaCOk
import Derived.Test.YtccldjodijdciaaCCn
import Derived.Outline
namespace Go.Proofs.Ytccldjodijdciaa
open Go.RowKit Go.Deep

theorem Below.drewN {B : Nat} (w : World) (n : Nat) : Below B w (w.drewN n) := ⟨rfl, rfl, rfl, Nat.le_refl _, fun _ _ => rfl⟩
theorem OsAt.row {w : World} {b hi : Nat} {l : List Cm} (h : OsAt w (b + 1) hi b 0 l) (hb : b < hi) (hs : cnts l ≤ 1048576) : CRow w b hi (some ⟨b, 0, none⟩) l :=
  ⟨by have h1 := len_le_cnts l; have z : (1048576 : Nat) ≤ maxLen := by decide
      omega, .inr ⟨b, 0, rfl, Nat.le_refl _, hb, (OsAt.reads _ _ _ _ _ hs h).keep (Eqv.refl _ _ _) (by omega) (Nat.le_refl _) _ _ _ fun _ => rfl⟩⟩

/-- A program that is as it has to be. -/
def progV (l : List Cm) : Bool := okS 0 l && decide (sizes l ≤ 20)
theorem cntV_prog (l : List Cm) : cntV 0 l = if progV l = true then (sizes l : Int) else -1 := by
  unfold cntV progV
  simp only [Bool.and_eq_true, decide_eq_true_eq]
theorem progV_of {l : List Cm} : (progV l = true) ↔ 0 ≤ cntV 0 l := by
  rw [cntV_prog]; split <;> simp_all

set_option maxHeartbeats 1000000 in
theorem sProgOk_any (l : List Cm) (w : World) (lo hi : Nat) (a : Option Addr) (cap : Nat) (hr : CRow w lo hi a l) (hh : hi ≤ w.heap.size) (hs : cnts l ≤ 1048576) :
    Calls Try.prog 51 #[.slice a l.length cap] w fun e w' => e = .returned (.bool (progV l)) ∧ Below w.heap.size w w' := by
  have HV : Hid (progV l = (okS 0 l && decide (sizes l ≤ 20))) := rfl
  go_enter Try.func51, Try.ntmps51
  go_wp2_with fail
  refine (l6all_any l _ _ _ _ _ 0 hr hh hs (by omega)).mono ?_
  rintro e w1 ⟨rfl, L⟩
  cases hok : okS 0 l
  · go_wp2
    go_ret
    exact ⟨ret_bool (by rw [HV.out, hok]; rfl), L⟩
  go_wp2_with fail
  refine (l6size_any l _ _ _ _ _ (by exact hr.below L hh) hs).mono ?_
  rintro e w2 ⟨rfl, n, rfl⟩
  have L2 := L.trans (Below.drewN w1 n)
  go_wp2
  go_ret
  exact ⟨ret_bool (by rw [HV.out, hok, Bool.eq_iff_iff]; simp; omega), L2⟩

set_option maxHeartbeats 1000000 in
theorem sSize_any (l : List Cm) (w : World) (lo hi : Nat) (a : Option Addr) (cap : Nat) (hr : CRow w lo hi a l) (hh : hi ≤ w.heap.size) (hs : cnts l ≤ 1048576) :
    Calls Try.prog 55 #[.slice a l.length cap] w fun e w' => e = .returned (.int .i64 (cntV 0 l)) ∧ Below w.heap.size w w' := by
  have HV : Hid (cntV 0 l = if progV l = true then (sizes l : Int) else -1) := cntV_prog l
  go_enter Try.func55, Try.ntmps55
  go_wp2_with fail
  refine (sProgOk_any l _ _ _ _ _ hr hh hs).mono ?_
  rintro e w1 ⟨rfl, L⟩
  cases hok : progV l
  · go_wp2
    go_ret
    exact ⟨ret_int (by rw [HV.out, hok]; rfl), L⟩
  go_wp2_with fail
  refine (l6size_any l _ _ _ _ _ (by exact hr.below L hh) hs).mono ?_
  rintro e w2 ⟨rfl, n, rfl⟩
  have L2 := L.trans (Below.drewN w1 n)
  go_wp2
  go_ret
  exact ⟨ret_int (by rw [HV.out, hok]; rfl), L2⟩

set_option maxHeartbeats 1000000 in
theorem iSize_any (l : List Cm) (w : World) (lo hi : Nat) (a : Option Addr) (cap : Nat) (hr : CRow w lo hi a l) (hh : hi ≤ w.heap.size) (hs : cnts l ≤ 1048577) :
    Calls Try.prog 56 #[.slice a l.length cap] w fun e w' => e = .returned (.int .i64 (cntV 0 l)) ∧ Below w.heap.size w w' := by
  go_enter Try.func56, Try.ntmps56
  go_wp2_with fail
  refine (counted_any l _ _ _ _ _ 0 hr hh hs (by omega)).mono ?_
  rintro e w1 ⟨rfl, L⟩
  obtain ⟨z, hz⟩ : ∃ z, cntV 0 l = z := ⟨_, rfl⟩
  have HZ : Hid (cntV 0 l = z) := hz
  rw [hz]
  clear hz
  go_wp2
  go_ret
  exact ⟨ret_int HZ.out.symm, L⟩

set_option maxHeartbeats 1000000 in
theorem iProgOk_any (l : List Cm) (w : World) (lo hi : Nat) (a : Option Addr) (cap : Nat) (hr : CRow w lo hi a l) (hh : hi ≤ w.heap.size) (hs : cnts l ≤ 1048577) :
    Calls Try.prog 53 #[.slice a l.length cap] w fun e w' => e = .returned (.bool (progV l)) ∧ Below w.heap.size w w' := by
  have HV : Hid ((progV l = true) ↔ 0 ≤ cntV 0 l) := progV_of
  go_enter Try.func53, Try.ntmps53
  go_wp2_with fail
  refine (iSize_any l _ _ _ _ _ hr hh hs).mono ?_
  rintro e w1 ⟨rfl, L⟩
  generalize cntV 0 l = z at *
  go_wp2
  go_ret
  exact ⟨ret_bool (by rw [Bool.eq_iff_iff, HV.out]; simp), L⟩

end Go.Proofs.Ytccldjodijdciaa
