/-
  The contracts of Guard, in package spec and in package impl.
-/
import Derived.Test.YtnaeomppceblpaaCCo
import Derived.Test.YtnaeomppceblpaaCPl
import Derived.Test.YtnaeomppceblpaaSSOk
import Derived.Test.YtnaeomppceblpaaSMk
import Derived.Outline
import Derived.Deep.RegionWith
import Derived.RegionTactic
namespace Go.Proofs.Ytnaeomppceblpaa
open Go.RowKit

/-- Is what a command asks for so? -/
def condN (t : List Int) (kx ky : Nat) (q : Bool) : Bool := (t.getD kx 0 == t.getD ky 0) == q
def condV (t : List Int) (c : Cm) : Bool := condN t c.x.toNat c.y.toNat c.q
def guardV (t h : List Int) (c : Cm) : Bool := S.sOk t h && (cmdV c && (decide (5 ≤ c.k) && condV t c))

set_option linter.unusedVariables false in
set_option maxHeartbeats 2000000 in
theorem l6cond_mk (b0 b1 s0 s1 : Nat) (t h : List Int) (kk : Int) (kx ky : Nat) (q : Bool) (l0 l1 l2 l3 : List (Int × Int)) (A B : List Cm) (a0 a1 a2 a3 aA aB : Option Addr) (c0 c1 c2 c3 cA cB : Nat) (w : World) (h16 : t.length = 16) (hx : kx < 16) (hy : ky < 16) (o0 : S.OwnI w b0 t.length t t.length) :
    Calls Try.prog 120 #[.agg #[.slice (some ⟨b0, 0, none⟩) t.length s0, .slice (some ⟨b1, 0, none⟩) h.length s1], .agg #[.int .i64 kk, .int .i64 kx, .int .i64 ky, .bool q, .slice a0 l0.length c0, .slice a1 l1.length c1, .slice a2 l2.length c2, .slice a3 l3.length c3, .slice aA A.length cA, .slice aB B.length cB]] w fun e w' => e = .returned (.bool (condN t kx ky q)) ∧ Below w.heap.size w w' := by
  have HV : Hid (condN t kx ky q = ((t.getD kx 0 == t.getD ky 0) == q)) := rfl
  have L : Below w.heap.size w ((w.alloc (.cells #[.slice (some ⟨b0, 0, none⟩) t.length s0, .slice (some ⟨b1, 0, none⟩) h.length s1] 43)).alloc (.cells #[.int .i64 kk, .int .i64 kx, .int .i64 ky, .bool q, .slice a0 l0.length c0, .slice a1 l1.length c1, .slice a2 l2.length c2, .slice a3 l3.length c3, .slice aA A.length cA, .slice aB B.length cB] 59)) := ((Below.refl _ _).alloc (Nat.le_refl _) _).alloc (by simp) _
  have O := o0.below L o0.1
  have y1 : ((w.alloc (.cells #[.slice (some ⟨b0, 0, none⟩) t.length s0, .slice (some ⟨b1, 0, none⟩) h.length s1] 43)).alloc (.cells #[.int .i64 kk, .int .i64 kx, .int .i64 ky, .bool q, .slice a0 l0.length c0, .slice a1 l1.length c1, .slice a2 l2.length c2, .slice a3 l3.length c3, .slice aA A.length cA, .slice aB B.length cB] 59)).cell? ⟨b0, kx, none⟩ = some (.int .i64 (t.getD kx 0)) := (O.2.2 kx (by omega))
  have y2 : ((w.alloc (.cells #[.slice (some ⟨b0, 0, none⟩) t.length s0, .slice (some ⟨b1, 0, none⟩) h.length s1] 43)).alloc (.cells #[.int .i64 kk, .int .i64 kx, .int .i64 ky, .bool q, .slice a0 l0.length c0, .slice a1 l1.length c1, .slice a2 l2.length c2, .slice a3 l3.length c3, .slice aA A.length cA, .slice aB B.length cB] 59)).cell? ⟨b0, ky, none⟩ = some (.int .i64 (t.getD ky 0)) := (O.2.2 ky (by omega))
  have hx' : (kx : Int) < 16 := by omega
  have hy' : (ky : Int) < 16 := by omega
  clear O o0
  rw [h16]
  rw [h16] at L y1 y2
  generalize t.getD kx 0 = u1 at *
  generalize t.getD ky 0 = u2 at *
  clear h16
  go_enter Try.func120, Try.ntmps120
  go_wp2_with fail
  go_region
  all_goals
    go_wp2
    go_ret
    exact ⟨ret_bool (by rw [HV.out]), L.drew⟩

theorem addrOf_any (b0 b1 s0 s1 : Nat) (t h : List Int) (k : Nat) (w : World) (h16 : t.length = 16) (hk : k < 16) (o0 : S.OwnI w b0 t.length t t.length) :
    Calls Try.prog 151 #[.agg #[.slice (some ⟨b0, 0, none⟩) t.length s0, .slice (some ⟨b1, 0, none⟩) h.length s1], .int .i64 k] w fun e w' => e = .returned (.int .i64 (t.getD k 0)) ∧ Below w.heap.size w w' := by
  have L : Below w.heap.size w (w.alloc (.cells #[.slice (some ⟨b0, 0, none⟩) t.length s0, .slice (some ⟨b1, 0, none⟩) h.length s1] 43)) := (Below.refl _ _).alloc (Nat.le_refl _) _
  have O := o0.below L o0.1
  have y1 : (w.alloc (.cells #[.slice (some ⟨b0, 0, none⟩) t.length s0, .slice (some ⟨b1, 0, none⟩) h.length s1] 43)).cell? ⟨b0, k, none⟩ = some (.int .i64 (t.getD k 0)) := (O.2.2 k (by omega))
  have hk' : (k : Int) < 16 := by omega
  clear O o0
  rw [h16]
  rw [h16] at L y1
  generalize t.getD k 0 = u1 at *
  clear h16
  go_enter Try.func151, Try.ntmps151
  go_wp2
  go_ret
  exact ⟨rfl, L⟩

end Go.Proofs.Ytnaeomppceblpaa
