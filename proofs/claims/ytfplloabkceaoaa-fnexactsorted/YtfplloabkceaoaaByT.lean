/-
  The contracts of impl.byTerms and what it calls.
-/
import Derived.Test.YtfplloabkceaoaaChecked
import Derived.Test.YtfplloabkceaoaaInF
import Derived.Deep.RegionHeld3
import Derived.Outline
namespace Go.Proofs.Ytfplloabkceaoaa
open Go.RowKit

def cmpI (x y : Int) : Int := if x < y then -1 else if y < x then 1 else 0
def cmpP (x y : Int × Int) : Int := if cmpI x.1 y.1 = 0 then cmpI x.2 y.2 else cmpI x.1 y.1
theorem cmpI_lt {x y : Int} (h : x < y) : cmpI x y = -1 := by unfold cmpI; rw [if_pos h]
theorem cmpI_gt {x y : Int} (h : y < x) : cmpI x y = 1 := by unfold cmpI; rw [if_neg (by omega), if_pos h]
theorem cmpI_eq {x y : Int} (h : x = y) : cmpI x y = 0 := by unfold cmpI; rw [if_neg (by omega), if_neg (by omega)]
theorem cmpP_less (x y : Int × Int) : (cmpP x y < 0) ↔ lessP x y = true := by
  unfold cmpP lessP
  rw [decide_eq_true_eq]
  rcases Int.lt_trichotomy x.1 y.1 with h | h | h
  · rw [cmpI_lt h, if_neg (by decide)]; omega
  · rw [cmpI_eq h, if_pos rfl]
    rcases Int.lt_trichotomy x.2 y.2 with k | k | k
    · rw [cmpI_lt k]; omega
    · rw [cmpI_eq k]; omega
    · rw [cmpI_gt k]; omega
  · rw [cmpI_gt h, if_neg (by decide)]; omega

theorem isNaN_any (x : Int) (w : World) : Calls Try.prog 246 #[.int .i64 x] w fun e w' => e = .returned (.bool false) ∧ w' = w := by
  go_enter Try.func246, Try.ntmps246
  go_wp2
  go_ret
  exact ⟨ret_bool (by simp), rfl⟩

set_option maxHeartbeats 1000000 in
theorem compare_any (x y : Int) (w : World) : Calls Try.prog 214 #[.int .i64 x, .int .i64 y] w fun e w' => e = .returned (.int .i64 (cmpI x y)) ∧ w' = w := by
  by_cases h1 : x < y
  · have HE : Hid (cmpI x y = -1) := by show _ = _; unfold cmpI; rw [if_pos h1]
    go_enter Try.func214, Try.ntmps214
    go_wp2_with (go_at_call 246; refine (isNaN_any _ _).mono ?_; rintro e w' ⟨rfl, rfl⟩)
    go_ret
    exact ⟨ret_int HE.out.symm, rfl⟩
  · by_cases h2 : y < x
    · have HE : Hid (cmpI x y = 1) := by show _ = _; unfold cmpI; rw [if_neg h1, if_pos h2]
      go_enter Try.func214, Try.ntmps214
      go_wp2_with (go_at_call 246; refine (isNaN_any _ _).mono ?_; rintro e w' ⟨rfl, rfl⟩)
      go_ret
      exact ⟨ret_int HE.out.symm, rfl⟩
    · have HE : Hid (cmpI x y = 0) := by show _ = _; unfold cmpI; rw [if_neg h1, if_neg h2]
      go_enter Try.func214, Try.ntmps214
      go_wp2_with (go_at_call 246; refine (isNaN_any _ _).mono ?_; rintro e w' ⟨rfl, rfl⟩)
      go_ret
      exact ⟨ret_int HE.out.symm, rfl⟩

def orV (x y : Int) : Int := if x = 0 then y else x

set_option maxHeartbeats 1000000 in
theorem or2_any (b c : Nat) (x y : Int) (w : World) (h0 : w.cell? ⟨b, 0, none⟩ = some (.int .i64 x)) (h1 : w.cell? ⟨b, 1, none⟩ = some (.int .i64 y)) :
    Calls Try.prog 213 #[.slice (some ⟨b, 0, none⟩) 2 c] w fun e w' => e = .returned (.int .i64 (orV x y)) ∧ w' = w := by
  go_enter Try.func213, Try.ntmps213
  go_wp2
  go_loop [8] (fun i => ∃ k : Nat, k ≤ 2 ∧ i = .int .i64 k ∧ Hid (0 < k → x = 0) ∧ Hid (1 < k → y = 0)) (fun i => 2 - (intOf i).toNat)
  case atStart => exact ⟨0, by omega, rfl, fun h => by omega, fun h => by omega⟩
  case round =>
    obtain ⟨k, hk, rfl, hx, hy⟩ := hrel
    by_cases k0 : k = 0
    · subst k0
      by_cases e : x = 0
      · subst e
        go_wp2
        go_round
        case rel => exact ⟨1, by omega, by rfl, fun _ => (by first | rfl | trivial), fun h => by omega⟩
        case measure => simp [intOf]
      · go_wp2
        go_ret
        exact ⟨ret_int (by unfold orV; rw [if_neg e]), rfl⟩
    by_cases k1 : k = 1
    · subst k1
      obtain rfl := hx.out (by omega)
      by_cases e : y = 0
      · subst e
        go_wp2
        go_round
        case rel => exact ⟨2, by omega, by rfl, fun _ => (by first | rfl | trivial), fun _ => (by first | rfl | trivial)⟩
        case measure => simp [intOf]
      · go_wp2
        go_ret
        exact ⟨ret_int (by unfold orV; rw [if_pos rfl]), rfl⟩
    · obtain rfl : k = 2 := by omega
      obtain rfl := hx.out (by omega)
      obtain rfl := hy.out (by omega)
      go_wp2
      go_ret
      exact ⟨ret_int (by unfold orV; simp), rfl⟩

set_option maxRecDepth 100000 in
set_option maxHeartbeats 2000000 in
theorem byTerms_any (x y : Int × Int) (w : World) : Calls Try.prog 148 #[.agg #[.int .i64 x.1, .int .i64 x.2], .agg #[.int .i64 y.1, .int .i64 y.2]] w fun e w' => e = .returned (.int .i64 (cmpP x y)) ∧ Below w.heap.size w w' := by
  obtain ⟨a, b⟩ := x
  obtain ⟨c, d⟩ := y
  have HE : Hid (cmpP (a, b) (c, d) = orV (cmpI a c) (cmpI b d)) := rfl
  have L0 : Below w.heap.size w ((w.alloc (.cells #[.int .i64 a, .int .i64 b] 69)).alloc (.cells #[.int .i64 c, .int .i64 d] 69)) := ((Below.refl w.heap.size w).alloc (Nat.le_refl _) _).alloc (by simp) _
  have x0 : ((w.alloc (.cells #[.int .i64 a, .int .i64 b] 69)).alloc (.cells #[.int .i64 c, .int .i64 d] 69)).cell? ⟨w.heap.size, 0, none⟩ = some (.int .i64 a) := by simp
  have x1 : ((w.alloc (.cells #[.int .i64 a, .int .i64 b] 69)).alloc (.cells #[.int .i64 c, .int .i64 d] 69)).cell? ⟨w.heap.size, 1, none⟩ = some (.int .i64 b) := by simp
  have y0 : ((w.alloc (.cells #[.int .i64 a, .int .i64 b] 69)).alloc (.cells #[.int .i64 c, .int .i64 d] 69)).cell? ⟨w.heap.size + 1, 0, none⟩ = some (.int .i64 c) := by simp
  have y1 : ((w.alloc (.cells #[.int .i64 a, .int .i64 b] 69)).alloc (.cells #[.int .i64 c, .int .i64 d] 69)).cell? ⟨w.heap.size + 1, 1, none⟩ = some (.int .i64 d) := by simp
  have S0 : w.heap.size + 1 < ((w.alloc (.cells #[.int .i64 a, .int .i64 b] 69)).alloc (.cells #[.int .i64 c, .int .i64 d] 69)).heap.size := by simp
  generalize hp : cmpI a c = p at *
  generalize hq : cmpI b d = q at *
  have hp' : ∀ w, Calls Try.prog 214 #[.int .i64 a, .int .i64 c] w fun e w' => e = .returned (.int .i64 p) ∧ w' = w := fun w => by rw [← hp]; exact compare_any a c w
  have hq' : ∀ w, Calls Try.prog 214 #[.int .i64 b, .int .i64 d] w fun e w' => e = .returned (.int .i64 q) ∧ w' = w := fun w => by rw [← hq]; exact compare_any b d w
  clear hp hq
  go_enter Try.func148, Try.ntmps148
  go_wp2
  generalize (w.alloc (.cells #[.int .i64 a, .int .i64 b] 69)).alloc (.cells #[.int .i64 c, .int .i64 d] 69) = W0 at *
  have L1 : Below w.heap.size w (W0.drew.alloc (.cells #[.int .i64 p, .int .i64 q] 3)) := L0.drew.alloc (by have := L0.size; simpa using this) _
  go_region_held3 (fun W => W.cell? ⟨w.heap.size, 0, none⟩ = some (.int .i64 a) ∧ W.cell? ⟨w.heap.size, 1, none⟩ = some (.int .i64 b) ∧ W.cell? ⟨w.heap.size + 1, 0, none⟩ = some (.int .i64 c) ∧ W.cell? ⟨w.heap.size + 1, 1, none⟩ = some (.int .i64 d)) (go_keep)
    (first
    | (go_at_call_of 214 (Value.int IntKind.i64 a); refine (hp' _).mono ?_; rintro e w' ⟨rfl, rfl⟩)
    | (go_at_call_of 214 (Value.int IntKind.i64 b); refine (hq' _).mono ?_; rintro e w' ⟨rfl, rfl⟩)
    | (go_at_call 213; refine (or2_any _ _ p q _ (by simp) (by simp)).mono ?_; rintro e w' ⟨rfl, rfl⟩))
  all_goals
    go_wp2
    go_ret
    exact ⟨ret_int HE.out.symm, L1⟩

end Go.Proofs.Ytfplloabkceaoaa
