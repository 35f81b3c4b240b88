/-
  The contracts of laws.szPairS and laws.szAsn.
-/
import Derived.Test.YtfplloabkceaoaaChecked
import Derived.Test.YtfplloabkceaoaaBase
namespace Go.Proofs.Ytfplloabkceaoaa
open Go.RowKit

def szI (n left : Int) : Int := if left - n < 0 then -1 else left - n

set_option maxHeartbeats 400000 in
theorem szPairS_any (a : Option Addr) (n cap : Nat) (left : Int) (w : World) (hn : n ≤ maxLen) (h0 : 0 ≤ left) (h1 : left ≤ 1048576) :
    Calls Try.prog 128 #[.slice a n cap, .int .i64 left] w fun e w' => e = .returned (.int .i64 (szI n left)) ∧ w' = w := by
  unfold maxLen at hn
  by_cases h : left - n < 0
  · go_enter Try.func128, Try.ntmps128
    go_wp2
    go_ret
    exact ⟨ret_int (by unfold szI; rw [if_pos h]), rfl⟩
  · go_enter Try.func128, Try.ntmps128
    go_wp2
    go_ret
    exact ⟨ret_int (by unfold szI; rw [if_neg (by omega)]), rfl⟩

set_option maxHeartbeats 400000 in
theorem szAsn_any (a0 a1 a2 a3 : Option Addr) (n0 n1 n2 n3 c0 c1 c2 c3 : Nat) (left : Int) (w : World) (m0 : n0 ≤ maxLen) (m1 : n1 ≤ maxLen) (m2 : n2 ≤ maxLen) (m3 : n3 ≤ maxLen) (h0 : 0 ≤ left) (h1 : left ≤ 1048576) :
    Calls Try.prog 39 #[.agg #[.slice a0 n0 c0, .slice a1 n1 c1, .slice a2 n2 c2, .slice a3 n3 c3], .int .i64 left] w fun e w' => e = .returned (.int .i64 (szI (n0 + n1 + n2 + n3) left)) ∧ Below w.heap.size w w' := by
  unfold maxLen at m0 m1 m2 m3
  by_cases k0 : left - n0 < 0
  · go_enter Try.func39, Try.ntmps39
    go_wp2
    go_ret
    exact ⟨ret_int (by unfold szI; rw [if_pos (by omega)]), (Below.refl _ _).alloc (Nat.le_refl _) _⟩
  · by_cases k1 : left - n0 - n1 < 0
    · go_enter Try.func39, Try.ntmps39
      go_wp2
      go_ret
      exact ⟨ret_int (by unfold szI; rw [if_pos (by omega)]), (Below.refl _ _).alloc (Nat.le_refl _) _⟩
    · by_cases k2 : left - n0 - n1 - n2 < 0
      · go_enter Try.func39, Try.ntmps39
        go_wp2
        go_ret
        exact ⟨ret_int (by unfold szI; rw [if_pos (by omega)]), (Below.refl _ _).alloc (Nat.le_refl _) _⟩
      · by_cases k3 : left - n0 - n1 - n2 - n3 < 0
        · go_enter Try.func39, Try.ntmps39
          go_wp2
          go_ret
          exact ⟨ret_int (by unfold szI; rw [if_pos (by omega)]), (Below.refl _ _).alloc (Nat.le_refl _) _⟩
        · go_enter Try.func39, Try.ntmps39
          go_wp2
          go_ret
          exact ⟨ret_int (by unfold szI; rw [if_neg (by omega)]; omega), (Below.refl _ _).alloc (Nat.le_refl _) _⟩

end Go.Proofs.Ytfplloabkceaoaa
