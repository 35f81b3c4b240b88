/-
  An assertion's rows, marked and held, from any number on, in blocks that lie apart.
-/
import Derived.Test.YtfplloabkceaoaaMark
namespace Go.Proofs.Ytfplloabkceaoaa
open Go.RowKit

set_option maxHeartbeats 1000000 in
theorem markAsn_gen (lo hi s0 t0 s1 t1 s2 t2 s3 t3 : Nat) (a0 a1 a2 a3 : Option Addr) (n0 n1 n2 n3 c0 c1 c2 c3 : Nat) (l0 l1 l2 l3 : List (Int × Int)) (k : Int) (w : World)
    (hk0 : 0 ≤ k) (hk : k ≤ 33554432) (m0 : n0 ≤ 2097152) (m1 : n1 ≤ 2097152) (m2 : n2 ≤ 2097152) (m3 : n3 ≤ 2097152) (p0 : lo ≤ s0) (p1 : lo ≤ s1) (p2 : lo ≤ s2) (p3 : lo ≤ s3) (q0 : t0 ≤ hi) (q1 : t1 ≤ hi) (q2 : t2 ≤ hi) (q3 : t3 ≤ hi) (d01 : t0 ≤ s1 ∨ t1 ≤ s0) (d02 : t0 ≤ s2 ∨ t2 ≤ s0) (d03 : t0 ≤ s3 ∨ t3 ≤ s0) (d12 : t1 ≤ s2 ∨ t2 ≤ s1) (d13 : t1 ≤ s3 ∨ t3 ≤ s1) (d23 : t2 ≤ s3 ∨ t3 ≤ s2) (hs : hi ≤ w.heap.size)
    (r0 : RowIn w s0 t0 a0 n0 l0) (r1 : RowIn w s1 t1 a1 n1 l1) (r2 : RowIn w s2 t2 a2 n2 l2) (r3 : RowIn w s3 t3 a3 n3 l3) :
    Calls Try.prog 44 #[.agg #[.slice a0 n0 c0, .slice a1 n1 c1, .slice a2 n2 c2, .slice a3 n3 c3], .int .i64 k] w fun e w' => e = .returned (.int .i64 (k + 2 * n0 + 2 * n1 + 2 * n2 + 2 * n3)) ∧
      RowIn w' s0 t0 a0 n0 (marks (k) n0) ∧ RowIn w' s1 t1 a1 n1 (marks (k + 2 * n0) n1) ∧ RowIn w' s2 t2 a2 n2 (marks (k + 2 * n0 + 2 * n1) n2) ∧ RowIn w' s3 t3 a3 n3 (marks (k + 2 * n0 + 2 * n1 + 2 * n2) n3) ∧ Out lo hi w w' := by
  have B0 := Box.new w (.slice a0 n0 c0) (.slice a1 n1 c1) (.slice a2 n2 c2) (.slice a3 n3 c3) 28
  have L : Below w.heap.size w (w.alloc (.cells #[.slice a0 n0 c0, .slice a1 n1 c1, .slice a2 n2 c2, .slice a3 n3 c3] 28)) := (Below.refl _ _).alloc (Nat.le_refl _) _
  have O0 : Out lo hi w (w.alloc (.cells #[.slice a0 n0 c0, .slice a1 n1 c1, .slice a2 n2 c2, .slice a3 n3 c3] 28)) := Out.ofBelow L
  replace r0 := r0.below L (by omega); replace r1 := r1.below L (by omega); replace r2 := r2.below L (by omega); replace r3 := r3.below L (by omega)
  clear L
  go_enter Try.func44, Try.ntmps44
  go_wp2_with fail
  refine (markPairS_any s0 t0 _ _ _ _ _ _ (by omega) (by omega) (by omega) (by exact r0)).mono ?_
  rintro e w1 ⟨rfl, u0, ho⟩
  have B1 := B0.out ho (by omega)
  have O1 := O0.trans (ho.mono (by omega) (by omega))
  replace r1 := r1.out ho (by omega)
  replace r2 := r2.out ho (by omega)
  replace r3 := r3.out ho (by omega)
  clear ho B0 O0 r0
  have x := B1.c1
  go_wp2_with fail
  clear x
  refine (markPairS_any s1 t1 _ _ _ _ _ _ (by omega) (by omega) (by omega) (by exact r1)).mono ?_
  rintro e w2 ⟨rfl, u1, ho⟩
  have B2 := B1.out ho (by omega)
  have O2 := O1.trans (ho.mono (by omega) (by omega))
  replace u0 := u0.out ho (by omega)
  replace r2 := r2.out ho (by omega)
  replace r3 := r3.out ho (by omega)
  clear ho B1 O1 r1
  have x := B2.c2
  go_wp2_with fail
  clear x
  refine (markPairS_any s2 t2 _ _ _ _ _ _ (by omega) (by omega) (by omega) (by exact r2)).mono ?_
  rintro e w3 ⟨rfl, u2, ho⟩
  have B3 := B2.out ho (by omega)
  have O3 := O2.trans (ho.mono (by omega) (by omega))
  replace u0 := u0.out ho (by omega)
  replace u1 := u1.out ho (by omega)
  replace r3 := r3.out ho (by omega)
  clear ho B2 O2 r2
  have x := B3.c3
  go_wp2_with fail
  clear x
  refine (markPairS_any s3 t3 _ _ _ _ _ _ (by omega) (by omega) (by omega) (by exact r3)).mono ?_
  rintro e w4 ⟨rfl, u3, ho⟩
  have B4 := B3.out ho (by omega)
  have O4 := O3.trans (ho.mono (by omega) (by omega))
  replace u0 := u0.out ho (by omega)
  replace u1 := u1.out ho (by omega)
  replace u2 := u2.out ho (by omega)
  clear ho B3 O3 r3
  go_wp2
  go_ret
  exact ⟨rfl, u0, u1, u2, u3, O4⟩

set_option maxHeartbeats 1000000 in
theorem heldAsn_gen (s0 t0 s1 t1 s2 t2 s3 t3 : Nat) (a0 a1 a2 a3 : Option Addr) (n0 n1 n2 n3 c0 c1 c2 c3 : Nat) (k : Int) (w : World)
    (hk0 : 0 ≤ k) (hk : k ≤ 33554432) (m0 : n0 ≤ 2097152) (m1 : n1 ≤ 2097152) (m2 : n2 ≤ 2097152) (m3 : n3 ≤ 2097152) (q0 : t0 ≤ w.heap.size) (q1 : t1 ≤ w.heap.size) (q2 : t2 ≤ w.heap.size) (q3 : t3 ≤ w.heap.size)
    (r0 : RowIn w s0 t0 a0 n0 (marks (k) n0)) (r1 : RowIn w s1 t1 a1 n1 (marks (k + 2 * n0) n1)) (r2 : RowIn w s2 t2 a2 n2 (marks (k + 2 * n0 + 2 * n1) n2)) (r3 : RowIn w s3 t3 a3 n3 (marks (k + 2 * n0 + 2 * n1 + 2 * n2) n3)) :
    Calls Try.prog 45 #[.agg #[.slice a0 n0 c0, .slice a1 n1 c1, .slice a2 n2 c2, .slice a3 n3 c3], .int .i64 k] w fun e w' => e = .returned (.int .i64 (k + 2 * n0 + 2 * n1 + 2 * n2 + 2 * n3)) ∧ Below w.heap.size w w' := by
  have L : Below w.heap.size w (w.alloc (.cells #[.slice a0 n0 c0, .slice a1 n1 c1, .slice a2 n2 c2, .slice a3 n3 c3] 28)) := (Below.refl _ _).alloc (Nat.le_refl _) _
  replace r0 := r0.below L (by omega); replace r1 := r1.below L (by omega); replace r2 := r2.below L (by omega); replace r3 := r3.below L (by omega)
  go_enter Try.func45, Try.ntmps45
  go_wp2_with fail
  refine (heldPairS_any s0 t0 _ _ _ _ _ (by omega) (by omega) (by omega) (by exact r0)).mono ?_
  rintro e w1 ⟨rfl, rfl⟩
  go_wp2_with fail
  refine (heldPairS_any s1 t1 _ _ _ _ _ (by omega) (by omega) (by omega) (by exact r1)).mono ?_
  rintro e w1 ⟨rfl, rfl⟩
  go_wp2_with fail
  refine (heldPairS_any s2 t2 _ _ _ _ _ (by omega) (by omega) (by omega) (by exact r2)).mono ?_
  rintro e w1 ⟨rfl, rfl⟩
  go_wp2_with fail
  refine (heldPairS_any s3 t3 _ _ _ _ _ (by omega) (by omega) (by omega) (by exact r3)).mono ?_
  rintro e w1 ⟨rfl, rfl⟩
  go_wp2
  go_ret
  exact ⟨rfl, L⟩

end Go.Proofs.Ytfplloabkceaoaa
