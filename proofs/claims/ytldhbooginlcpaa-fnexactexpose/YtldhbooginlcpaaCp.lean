/-
  Couples: two small whole numbers as the parts of a complex number. The contracts of impl.coupleOf, lesser, greater and replaced.
-/
import Derived.Test.YtldhbooginlcpaaInts
import Derived.Test.YtldhbooginlcpaaOkI
import Derived.WalkLawsBesides
namespace Go.Proofs.Ytldhbooginlcpaa
open Go.RowKit
/-- The bits of a small whole number. -/
def fl (x : Int) : Nat := floatOfInt .f64 x
theorem fl_back {x : Int} (h0 : 0 ≤ x) (h1 : x < 16) : floatToIntVal .f64 (fl x) .i64 = some x := by
  have : ∀ k : Nat, k < 16 → floatToIntVal .f64 (fl (k : Int)) .i64 = some (k : Int) := by decide +kernel
  obtain ⟨k, rfl⟩ := Int.eq_ofNat_of_zero_le h0
  exact this k (by omega)
theorem fl_order {x y : Int} (h0 : 0 ≤ x) (h1 : x < 16) (h2 : 0 ≤ y) (h3 : y < 16) : (FloatKind.f64.format.order (fl x) (fl y) == some .eq) = decide (x = y) := by
  have : ∀ k : Nat, k < 16 → ∀ j : Nat, j < 16 → (FloatKind.f64.format.order (fl (k : Int)) (fl (j : Int)) == some .eq) = decide ((k : Int) = (j : Int)) := by decide +kernel
  obtain ⟨k, rfl⟩ := Int.eq_ofNat_of_zero_le h0
  obtain ⟨j, rfl⟩ := Int.eq_ofNat_of_zero_le h2
  exact this k (by omega) j (by omega)
/-- Two numbers as a couple: the lesser is the real part. -/
def cplV (x y : Int) : Value := .complex .f64 (fl (min x y)) (fl (max x y))
set_option maxHeartbeats 400000 in
theorem coupleOf_any (x y : Int) (w : World) : Calls Try.prog 138 #[.int .i64 x, .int .i64 y] w fun e w' => e = .returned (cplV x y) ∧ w' = w := by
  go_enter Try.func138, Try.ntmps138
  go_wp2
  all_goals
    go_ret
    refine ⟨?_, rfl⟩
    unfold cplV fl
  · rw [show min x y = y by omega, show max x y = x by omega]; rfl
  · rw [show min x y = x by omega, show max x y = y by omega]; rfl
  · rw [show min x y = x by omega, show max x y = x by omega]; rfl
set_option maxHeartbeats 400000 in
theorem lesser_any (x : Int) (g : Nat) (w : World) (h0 : 0 ≤ x) (h1 : x < 16) : Calls Try.prog 190 #[.complex .f64 (fl x) g] w fun e w' => e = .returned (.int .i64 x) ∧ w' = w := by
  have hc := fun (w : World) => run_convert_float_int (P := Try.prog) w 139 3 .f64 .i64 (fl x) x (by rw [Try.underlying139]; rfl) Try.underlying3 (fl_back h0 h1)
  generalize fl x = f at *
  clear h0 h1
  go_enter Try.func190, Try.ntmps190
  go_wp2
  go_ret
  exact ⟨rfl, rfl⟩
set_option maxHeartbeats 400000 in
theorem greater_any (x : Int) (g : Nat) (w : World) (h0 : 0 ≤ x) (h1 : x < 16) : Calls Try.prog 191 #[.complex .f64 g (fl x)] w fun e w' => e = .returned (.int .i64 x) ∧ w' = w := by
  have hc := fun (w : World) => run_convert_float_int (P := Try.prog) w 139 3 .f64 .i64 (fl x) x (by rw [Try.underlying139]; rfl) Try.underlying3 (fl_back h0 h1)
  generalize fl x = f at *
  clear h0 h1
  go_enter Try.func191, Try.ntmps191
  go_wp2
  go_ret
  exact ⟨rfl, rfl⟩
def rep (x t b : Int) : Int := if x = t then b else x
set_option maxHeartbeats 400000 in
theorem replaced_any (x t b : Int) (w : World) : Calls Try.prog 118 #[.int .i64 x, .int .i64 t, .int .i64 b] w fun e w' => e = .returned (.int .i64 (rep x t b)) ∧ w' = w := by
  go_enter Try.func118, Try.ntmps118
  by_cases h : x = t
  · go_wp2
    go_ret
    exact ⟨ret_int (by rw [rep, if_pos h]), rfl⟩
  · go_wp2
    go_ret
    exact ⟨ret_int (by rw [rep, if_neg h]), rfl⟩
end Go.Proofs.Ytldhbooginlcpaa
