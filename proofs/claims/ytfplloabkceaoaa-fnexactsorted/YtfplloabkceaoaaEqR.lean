/-
  The contract of laws.eqAsn over rows whose lengths are named.
-/
import Derived.Test.YtfplloabkceaoaaEq
namespace Go.Proofs.Ytfplloabkceaoaa
open Go.RowKit

theorem eqAsn_rows (a0 a1 a2 a3 d0 d1 d2 d3 : Option Addr) (n0 n1 n2 n3 c0 c1 c2 c3 e0 e1 e2 e3 : Nat) (l0 l1 l2 l3 : List (Int × Int)) (w : World)
    (m0 : n0 ≤ 1048576) (m1 : n1 ≤ 1048576) (m2 : n2 ≤ 1048576) (m3 : n3 ≤ 1048576)
    (r0 : PRow w a0 l0) (r1 : PRow w a1 l1) (r2 : PRow w a2 l2) (r3 : PRow w a3 l3) (s0 : PRow w d0 l0) (s1 : PRow w d1 l1) (s2 : PRow w d2 l2) (s3 : PRow w d3 l3)
    (h0 : l0.length = n0) (h1 : l1.length = n1) (h2 : l2.length = n2) (h3 : l3.length = n3) :
    Calls Try.prog 43 #[.agg #[.slice a0 n0 c0, .slice a1 n1 c1, .slice a2 n2 c2, .slice a3 n3 c3], .agg #[.slice d0 n0 e0, .slice d1 n1 e1, .slice d2 n2 e2, .slice d3 n3 e3]] w fun e w' =>
      e = .returned (.bool true) ∧ Below w.heap.size w w' := by
  subst h0 h1 h2 h3
  exact eqAsn_same _ _ _ _ _ _ _ _ _ _ _ _ _ _ _ _ _ _ _ _ _ m0 m1 m2 m3 r0 r1 r2 r3 s0 s1 s2 s3

end Go.Proofs.Ytfplloabkceaoaa
