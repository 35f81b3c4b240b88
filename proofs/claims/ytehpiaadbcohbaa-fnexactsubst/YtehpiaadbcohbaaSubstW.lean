/-
  The walk of the law FnExactSubst.
-/
import Derived.Test.YtehpiaadbcohbaaSz
import Derived.Test.YtehpiaadbcohbaaTo
import Derived.Test.YtehpiaadbcohbaaEqR
import Derived.Test.YtehpiaadbcohbaaISubst
namespace Go.Proofs.Ytehpiaadbcohbaa.subst
open Go.RowKit

theorem okL_le (ok : Bool) (l : List (Int × Int)) (h : l.length ≤ 1048576) : (okL ok l).length ≤ 1048576 := by
  unfold okL
  split
  · exact h
  · exact Nat.zero_le _

set_option maxHeartbeats 8000000 in
theorem walk (a0 a1 a2 a3 : Option Addr) (c0 c1 c2 c3 : Nat) (l0 l1 l2 l3 : List (Int × Int)) (t by' : Int) (w : World)
    (m0 : l0.length ≤ maxLen) (m1 : l1.length ≤ maxLen) (m2 : l2.length ≤ maxLen) (m3 : l3.length ≤ maxLen)
    (r0 : PRow w a0 l0) (r1 : PRow w a1 l1) (r2 : PRow w a2 l2) (r3 : PRow w a3 l3) :
    Calls Try.prog 5 #[.agg #[.slice a0 l0.length c0, .slice a1 l1.length c1, .slice a2 l2.length c2, .slice a3 l3.length c3], .int .i64 t, .int .i64 by'] w fun e w' => e = .returned (.bool true) ∧ Below w.heap.size w w' := by
  have A0 := Box.new w (.slice a0 l0.length c0) (.slice a1 l1.length c1) (.slice a2 l2.length c2) (.slice a3 l3.length c3) 25
  have L0 : Below w.heap.size w (w.alloc (.cells #[.slice a0 l0.length c0, .slice a1 l1.length c1, .slice a2 l2.length c2, .slice a3 l3.length c3] 25)) := (Below.refl _ _).alloc (Nat.le_refl _) _
  go_enter Try.func5, Try.ntmps5
  go_wp2_with fail
  refine (szAsn_any _ _ _ _ _ _ _ _ _ _ _ _ _ _ m0 m1 m2 m3 (by omega) (by omega)).mono ?_
  rintro e w1 ⟨rfl, hb⟩
  have A1 := A0.below hb A0.lt; have L1 := L0.trans (hb.mono L0.size)
  clear hb A0 L0
  have x0 := A1.c0; have x1 := A1.c1; have x2 := A1.c2; have x3 := A1.c3
  by_cases hT : 1048576 < l0.length + l1.length + l2.length + l3.length
  · rw [show szI ((l0.length : Int) + l1.length + l2.length + l3.length) 1048576 = -1 by unfold szI; rw [if_pos (by omega)]]
    go_wp2
    go_ret
    exact ⟨rfl, L1⟩
  have n0 : l0.length ≤ 1048576 := by omega
  have n1 : l1.length ≤ 1048576 := by omega
  have n2 : l2.length ≤ 1048576 := by omega
  have n3 : l3.length ≤ 1048576 := by omega
  obtain ⟨left, hl, hl0⟩ : ∃ left : Int, szI ((l0.length : Int) + l1.length + l2.length + l3.length) 1048576 = left ∧ ¬ left < 0 := ⟨_, rfl, by unfold szI; rw [if_neg (by omega)]; omega⟩
  rw [hl]
  clear hl hT
  go_wp2_with fail
  refine (toAsn_any _ _ _ _ _ _ _ _ _ _ _ _ _ n0 n1 n2 n3 (by exact r0.below L1 (Nat.le_refl _)) (by exact r1.below L1 (Nat.le_refl _)) (by exact r2.below L1 (Nat.le_refl _)) (by exact r3.below L1 (Nat.le_refl _))).mono ?_
  rintro e w2 ⟨b0, b1, b2, b3, rfl, -, -, -, -, o0, o1, o2, o3, hb⟩
  have A2 := A1.below hb A1.lt; have L2 := L1.trans (hb.mono L1.size)
  clear hb A1 L1 x0 x1 x2 x3
  go_wp2_with fail
  refine (sSubst_any _ _ _ _ _ _ _ _ _ _ _ _ _ _ _  n0 n1 n2 n3 (by exact o0) (by exact o1) (by exact o2) (by exact o3)).mono ?_
  rintro e w3 ⟨p0, p1, p2, p3, q0, q1, q2, q3, rfl, W0, W1, W2, W3, hb⟩
  have A3 := A2.below hb A2.lt; have L3 := L2.trans (hb.mono L2.size)
  have Q2 : w.heap.size ≤ w2.heap.size := L2.size
  have Q3 := A2.lt
  generalize w2.heap.size = Y2 at *
  clear hb A2 L2 o0 o1 o2 o3
  have V0 := okL_le (substB l0 l1 l2 l3 t by') (swapL t by' l0) (by rw [swapL_length]; exact n0)
  have V1 := okL_le (substB l0 l1 l2 l3 t by') (swapL t by' l1) (by rw [swapL_length]; exact n1)
  have V2 := okL_le (substB l0 l1 l2 l3 t by') (swapL t by' l2) (by rw [swapL_length]; exact n2)
  have V3 := okL_le (substB l0 l1 l2 l3 t by') (swapL t by' l3) (by rw [swapL_length]; exact n3)
  generalize hO : substB l0 l1 l2 l3 t by' = ok at *
  have HO : Hid (substB l0 l1 l2 l3 t by' = ok) := hO
  clear hO
  generalize hV0 : okL (ok) (swapL t by' l0) = U0 at *
  have HV0 : Hid (okL (ok) (swapL t by' l0) = U0) := hV0
  clear hV0
  generalize hn0 : U0.length = N0 at *
  have E0 : Hid (U0.length = N0) := hn0
  clear hn0
  generalize hV1 : okL (ok) (swapL t by' l1) = U1 at *
  have HV1 : Hid (okL (ok) (swapL t by' l1) = U1) := hV1
  clear hV1
  generalize hn1 : U1.length = N1 at *
  have E1 : Hid (U1.length = N1) := hn1
  clear hn1
  generalize hV2 : okL (ok) (swapL t by' l2) = U2 at *
  have HV2 : Hid (okL (ok) (swapL t by' l2) = U2) := hV2
  clear hV2
  generalize hn2 : U2.length = N2 at *
  have E2 : Hid (U2.length = N2) := hn2
  clear hn2
  generalize hV3 : okL (ok) (swapL t by' l3) = U3 at *
  have HV3 : Hid (okL (ok) (swapL t by' l3) = U3) := hV3
  clear hV3
  generalize hn3 : U3.length = N3 at *
  have E3 : Hid (U3.length = N3) := hn3
  clear hn3
  have WB := Box.new w3 (.slice p0 N0 q0) (.slice p1 N1 q1) (.slice p2 N2 q2) (.slice p3 N3 q3) 30
  have S3 : w3.heap.size < (w3.alloc (.cells #[.slice p0 N0 q0, .slice p1 N1 q1, .slice p2 N2 q2, .slice p3 N3 q3] 30)).heap.size := by simp
  have LW := L3.alloc L3.size (.cells #[.slice p0 N0 q0, .slice p1 N1 q1, .slice p2 N2 q2, .slice p3 N3 q3] 30)
  have AW := A3.alloc (.cells #[.slice p0 N0 q0, .slice p1 N1 q1, .slice p2 N2 q2, .slice p3 N3 q3] 30)
  replace W0 := W0.below ((Below.refl _ _).alloc (Nat.le_refl _) (.cells #[.slice p0 N0 q0, .slice p1 N1 q1, .slice p2 N2 q2, .slice p3 N3 q3] 30)) (Nat.le_refl _); replace W1 := W1.below ((Below.refl _ _).alloc (Nat.le_refl _) (.cells #[.slice p0 N0 q0, .slice p1 N1 q1, .slice p2 N2 q2, .slice p3 N3 q3] 30)) (Nat.le_refl _); replace W2 := W2.below ((Below.refl _ _).alloc (Nat.le_refl _) (.cells #[.slice p0 N0 q0, .slice p1 N1 q1, .slice p2 N2 q2, .slice p3 N3 q3] 30)) (Nat.le_refl _); replace W3 := W3.below ((Below.refl _ _).alloc (Nat.le_refl _) (.cells #[.slice p0 N0 q0, .slice p1 N1 q1, .slice p2 N2 q2, .slice p3 N3 q3] 30)) (Nat.le_refl _)
  have z3 := A3.lt
  clear A3 L3
  have x0 := AW.c0; have x1 := AW.c1; have x2 := AW.c2; have x3 := AW.c3
  go_wp2_with fail
  refine (toAsn_any _ _ _ _ _ _ _ _ _ _ _ _ _ n0 n1 n2 n3 (by exact r0.below LW (Nat.le_refl _)) (by exact r1.below LW (Nat.le_refl _)) (by exact r2.below LW (Nat.le_refl _)) (by exact r3.below LW (Nat.le_refl _))).mono ?_
  rintro e w4 ⟨d0, d1, d2, d3, rfl, g0, g1, g2, g3, o0, o1, o2, o3, hb⟩
  have A4 := AW.below hb AW.lt; have L4 := LW.trans (hb.mono LW.size); have WB4 := WB.below hb WB.lt
  replace W0 := W0.below hb (by omega); replace W1 := W1.below hb (by omega); replace W2 := W2.below hb (by omega); replace W3 := W3.below hb (by omega)
  have zA := AW.lt
  clear hb AW LW WB x0 x1 x2 x3 S3
  rw [World.size_alloc] at g0 zA
  generalize w3.heap.size = Y3 at *
  have X4 := Box.new w4 (.slice (some ⟨d0, 0, none⟩) l0.length l0.length) (.slice (some ⟨d1, 0, none⟩) l1.length l1.length) (.slice (some ⟨d2, 0, none⟩) l2.length l2.length) (.slice (some ⟨d3, 0, none⟩) l3.length l3.length) 30
  have z4 := A4.lt; have zW := WB4.lt
  have E3d := o3.1
  go_wp2_with fail
  refine (iSubst_any _ _ _ _ _ _ _ _ _ _ _ _ _ _ _  n0 n1 n2 n3 (by exact o0.alloc _) (by exact o1.alloc _) (by exact o2.alloc _) (by exact o3.alloc _)).mono ?_
  rintro e w5 ⟨s0, s1, s2, s3, t0, t1, t2, t3, k1, k2, k3, rfl, K0, K1, K2, K3, G0, G1, G2, G3, hb⟩
  rw [HO.out, HV0.out, E0.out] at G0
  rw [HO.out, HV1.out, E1.out] at G1
  rw [HO.out, HV2.out, E2.out] at G2
  rw [HO.out, HV3.out, E3.out] at G3
  rw [HO.out, HV0.out, HV1.out, HV2.out, HV3.out, E0.out, E1.out, E2.out, E3.out]
  have S5 := hb.size
  have X5 := X4.below hb X4.lt; have WB5 := (WB4.alloc _).below hb (WB4.alloc _).lt
  have A5 := (A4.alloc _).below hb (A4.alloc _).lt; have L5 := (L4.alloc L4.size _).trans (hb.mono (L4.alloc L4.size _).size)
  have hA : Below w4.heap.size w4 w5 := ((Below.refl _ _).alloc (Nat.le_refl _) _).trans (hb.mono (by simp))
  replace W0 := W0.below hA (by omega); replace W1 := W1.below hA (by omega); replace W2 := W2.below hA (by omega); replace W3 := W3.below hA (by omega)
  clear hA
  replace o0 := (o0.alloc _).below hb (o0.alloc _).1; replace o1 := (o1.alloc _).below hb (o1.alloc _).1; replace o2 := (o2.alloc _).below hb (o2.alloc _).1; replace o3 := (o3.alloc _).below hb (o3.alloc _).1
  rw [World.size_alloc] at S5 K0 G0
  clear hb A4 L4 X4 WB4
  generalize w4.heap.size = Y4 at *
  have GB := Box.new w5 (.slice s0 N0 t0) (.slice s1 N1 t1) (.slice s2 N2 t2) (.slice s3 N3 t3) 30
  have LG := L5.alloc L5.size (.cells #[.slice s0 N0 t0, .slice s1 N1 t1, .slice s2 N2 t2, .slice s3 N3 t3] 30)
  have AG := A5.alloc (.cells #[.slice s0 N0 t0, .slice s1 N1 t1, .slice s2 N2 t2, .slice s3 N3 t3] 30); have XG := X5.alloc (.cells #[.slice s0 N0 t0, .slice s1 N1 t1, .slice s2 N2 t2, .slice s3 N3 t3] 30); have WG := WB5.alloc (.cells #[.slice s0 N0 t0, .slice s1 N1 t1, .slice s2 N2 t2, .slice s3 N3 t3] 30)
  replace W0 := W0.below ((Below.refl _ _).alloc (Nat.le_refl _) (.cells #[.slice s0 N0 t0, .slice s1 N1 t1, .slice s2 N2 t2, .slice s3 N3 t3] 30)) (by omega); replace W1 := W1.below ((Below.refl _ _).alloc (Nat.le_refl _) (.cells #[.slice s0 N0 t0, .slice s1 N1 t1, .slice s2 N2 t2, .slice s3 N3 t3] 30)) (by omega); replace W2 := W2.below ((Below.refl _ _).alloc (Nat.le_refl _) (.cells #[.slice s0 N0 t0, .slice s1 N1 t1, .slice s2 N2 t2, .slice s3 N3 t3] 30)) (by omega); replace W3 := W3.below ((Below.refl _ _).alloc (Nat.le_refl _) (.cells #[.slice s0 N0 t0, .slice s1 N1 t1, .slice s2 N2 t2, .slice s3 N3 t3] 30)) (by omega); replace G0 := G0.below ((Below.refl _ _).alloc (Nat.le_refl _) (.cells #[.slice s0 N0 t0, .slice s1 N1 t1, .slice s2 N2 t2, .slice s3 N3 t3] 30)) (by omega); replace G1 := G1.below ((Below.refl _ _).alloc (Nat.le_refl _) (.cells #[.slice s0 N0 t0, .slice s1 N1 t1, .slice s2 N2 t2, .slice s3 N3 t3] 30)) (by omega); replace G2 := G2.below ((Below.refl _ _).alloc (Nat.le_refl _) (.cells #[.slice s0 N0 t0, .slice s1 N1 t1, .slice s2 N2 t2, .slice s3 N3 t3] 30)) (by omega); replace G3 := G3.below ((Below.refl _ _).alloc (Nat.le_refl _) (.cells #[.slice s0 N0 t0, .slice s1 N1 t1, .slice s2 N2 t2, .slice s3 N3 t3] 30)) (by omega)
  replace o0 := o0.alloc (.cells #[.slice s0 N0 t0, .slice s1 N1 t1, .slice s2 N2 t2, .slice s3 N3 t3] 30); replace o1 := o1.alloc (.cells #[.slice s0 N0 t0, .slice s1 N1 t1, .slice s2 N2 t2, .slice s3 N3 t3] 30); replace o2 := o2.alloc (.cells #[.slice s0 N0 t0, .slice s1 N1 t1, .slice s2 N2 t2, .slice s3 N3 t3] 30); replace o3 := o3.alloc (.cells #[.slice s0 N0 t0, .slice s1 N1 t1, .slice s2 N2 t2, .slice s3 N3 t3] 30)
  have zg := WB5.lt
  have u0 := WB5.c0; have u1 := WB5.c1; have u2 := WB5.c2; have u3 := WB5.c3
  clear A5 L5 X5
  go_wp2_with fail
  clear u0 u1 u2 u3 WB5
  refine (eqAsn_rows _ _ _ _ _ _ _ _ _ _ _ _ _ _ _ _ _ _ _ _ _ _ _ _ _ V0 V1 V2 V3 (by exact G0.row) (by exact G1.row) (by exact G2.row) (by exact G3.row) (by exact W0.row) (by exact W1.row) (by exact W2.row) (by exact W3.row) E0.out E1.out E2.out E3.out).mono ?_
  rintro e w6 ⟨rfl, hb⟩
  have X6 := XG.below hb XG.lt; have A6 := AG.below hb AG.lt; have L6 := LG.trans (hb.mono LG.size); have GB6 := GB.below hb GB.lt; have WB6 := WG.below hb WG.lt
  replace W0 := W0.below hb (by rw [World.size_alloc]; omega); replace W1 := W1.below hb (by rw [World.size_alloc]; omega); replace W2 := W2.below hb (by rw [World.size_alloc]; omega); replace W3 := W3.below hb (by rw [World.size_alloc]; omega); replace G0 := G0.below hb (by rw [World.size_alloc]; omega); replace G1 := G1.below hb (by rw [World.size_alloc]; omega); replace G2 := G2.below hb (by rw [World.size_alloc]; omega); replace G3 := G3.below hb (by rw [World.size_alloc]; omega)
  replace o0 := o0.below hb o0.1; replace o1 := o1.below hb o1.1; replace o2 := o2.below hb o2.1; replace o3 := o3.below hb o3.1
  have S6 := hb.size
  rw [World.size_alloc] at S6
  generalize w5.heap.size = Y5 at *
  clear hb XG AG LG GB WG
  have x0 := A6.c0; have x1 := A6.c1; have x2 := A6.c2; have x3 := A6.c3
  have y0 := X6.c0; have y1 := X6.c1; have y2 := X6.c2; have y3 := X6.c3
  go_wp2_with fail
  go_region_with (first
    | (go_at_call 18; refine (toAsn_any _ _ _ _ _ _ _ _ _ _ _ _ _ n0 n1 n2 n3 ?_ ?_ ?_ ?_).mono ?_; exact r0.below L6.drew (Nat.le_refl _); exact r1.below L6.drew (Nat.le_refl _); exact r2.below L6.drew (Nat.le_refl _); exact r3.below L6.drew (Nat.le_refl _); rintro e w7 ⟨f0, f1, f2, f3, rfl, -, -, -, -, h0, h1, h2, h3, hb7⟩; have X7 := X6.drew.below hb7 X6.lt; have z0 := X7.c0; have z1 := X7.c1; have z2 := X7.c2; have z3 := X7.c3; clear X7)
    | (go_at_call 20; refine (eqAsn_same _ _ _ _ _ _ _ _ _ _ _ _ _ _ _ _ _ _ _ _ _ n0 n1 n2 n3 ?_ ?_ ?_ ?_ ?_ ?_ ?_ ?_).mono ?_; exact (o0.drew.below hb7 o0.1).row; exact (o1.drew.below hb7 o1.1).row; exact (o2.drew.below hb7 o2.1).row; exact (o3.drew.below hb7 o3.1).row; exact h0.row; exact h1.row; exact h2.row; exact h3.row; rintro e w8 ⟨rfl, hb8⟩))
  all_goals
    have hb : Below w6.heap.size w6 w8 := ((Below.refl _ _).drew.trans hb7).trans (hb8.mono (by have := hb7.size; simpa using this))
    have X8 := X6.below hb X6.lt; have A8 := A6.below hb A6.lt; have L8 := L6.trans (hb.mono L6.size); have GB8 := GB6.below hb GB6.lt; have WB8 := WB6.below hb WB6.lt
    replace W0 := W0.below hb (by omega); replace W1 := W1.below hb (by omega); replace W2 := W2.below hb (by omega); replace W3 := W3.below hb (by omega); replace G0 := G0.below hb (by omega); replace G1 := G1.below hb (by omega); replace G2 := G2.below hb (by omega); replace G3 := G3.below hb (by omega)
    replace o0 := o0.below hb o0.1; replace o1 := o1.below hb o1.1; replace o2 := o2.below hb o2.1; replace o3 := o3.below hb o3.1
    have S8 : Y5 + 1 ≤ w8.heap.size := Nat.le_trans S6 hb.size
    clear hb hb7 hb8 h0 h1 h2 h3 z0 z1 z2 z3 x0 x1 x2 x3 y0 y1 y2 y3 X6 A6 L6 S6 GB6 WB6
    have y0 := X8.c0; have y1 := X8.c1; have y2 := X8.c2; have y3 := X8.c3
    go_wp2_with fail
    clear y0 y1 y2 y3
    refine (markAsn_any d0 d1 d2 d3 (d3 + 1) _ _ _ _ _ _ _ _ _ _ _ _ l0 l1 l2 l3 _ (by omega) (by omega) (by omega) (by omega) (by omega) (by omega) (by omega) (by omega) (by have := o3.1; omega) (by exact RowIn.ofOwn o0 rfl (Nat.le_refl _) g1) (by exact RowIn.ofOwn o1 rfl (Nat.le_refl _) g2) (by exact RowIn.ofOwn o2 rfl (Nat.le_refl _) g3) (by exact RowIn.ofOwn o3 rfl (Nat.le_refl _) (by omega))).mono ?_
    rintro e w9 ⟨rfl, -, -, -, -, ho⟩
    have A9 := A8.out ho (by omega); have GB9 := GB8.out ho (by omega); have WB9 := WB8.out ho (by omega)
    have L9 := L8.trans (ho.below (by omega) L8.size)
    replace W0 := W0.out ho (by omega); replace W1 := W1.out ho (by omega); replace W2 := W2.out ho (by omega); replace W3 := W3.out ho (by omega); replace G0 := G0.out ho (by omega); replace G1 := G1.out ho (by omega); replace G2 := G2.out ho (by omega); replace G3 := G3.out ho (by omega)
    have S9 : Y5 + 1 ≤ w9.heap.size := Nat.le_trans S8 ho.size
    clear ho X8 A8 L8 GB8 WB8 o0 o1 o2 o3 S8
    obtain ⟨K, hK, hK0⟩ : ∃ K : Int, (1 + 2 * (l0.length : Int) + 2 * l1.length + 2 * l2.length + 2 * l3.length) = K ∧ ¬ K < 0 := ⟨_, rfl, by omega⟩
    rw [hK]
    clear hK
    have y0 := GB9.c0; have y1 := GB9.c1; have y2 := GB9.c2; have y3 := GB9.c3
    have u0 := WB9.c0; have u1 := WB9.c1; have u2 := WB9.c2; have u3 := WB9.c3
    go_wp2_with fail
    clear y0 y1 y2 y3 u0 u1 u2 u3
    refine (eqAsn_rows _ _ _ _ _ _ _ _ _ _ _ _ _ _ _ _ _ _ _ _ _ _ _ _ _ V0 V1 V2 V3 (by exact G0.row) (by exact G1.row) (by exact G2.row) (by exact G3.row) (by exact W0.row) (by exact W1.row) (by exact W2.row) (by exact W3.row) E0.out E1.out E2.out E3.out).mono ?_
    rintro e w10 ⟨rfl, hb⟩
    have A10 := A9.below hb A9.lt; have L10 := L9.trans (hb.mono L9.size); have GB10 := GB9.below hb GB9.lt; have WB10 := WB9.below hb WB9.lt
    replace W0 := W0.below hb (by omega); replace W1 := W1.below hb (by omega); replace W2 := W2.below hb (by omega); replace W3 := W3.below hb (by omega); replace G0 := G0.below hb (by omega); replace G1 := G1.below hb (by omega); replace G2 := G2.below hb (by omega); replace G3 := G3.below hb (by omega)
    have S10 : Y5 + 1 ≤ w10.heap.size := Nat.le_trans S9 hb.size
    clear hb A9 L9 S9 GB9 WB9
    have y0 := GB10.c0; have y1 := GB10.c1; have y2 := GB10.c2; have y3 := GB10.c3
    go_wp2_with fail
    clear y0 y1 y2 y3
    refine (markAsn_any (Y4 + 1) k1 k2 k3 Y5 _ _ _ _ _ _ _ _ _ _ _ _ _ _ _ _ _ (by omega) (by omega) (by omega) (by omega) (by omega) K1 K2 (by omega) (by omega) (by exact G0) (by exact G1) (by exact G2) (by exact G3)).mono ?_
    rintro e w11 ⟨rfl, M0, M1, M2, M3, ho⟩
    have A11 := A10.out ho (by omega); have GB11 := GB10.out ho (by omega); have WB11 := WB10.out ho (by omega)
    have L11 := L10.trans (ho.below (by have := L10.size; omega) L10.size)
    replace W0 := W0.out ho (by omega); replace W1 := W1.out ho (by omega); replace W2 := W2.out ho (by omega); replace W3 := W3.out ho (by omega)
    have S11 : Y5 + 1 ≤ w11.heap.size := Nat.le_trans S10 ho.size
    clear ho A10 L10 S10 GB10 WB10 G0 G1 G2 G3
    have T0 : ¬ ((1 : Int) + 2 * (N0 : Int) + 2 * N1 + 2 * N2 + 2 * N3 < 0) := by omega
    have y0 := GB11.c0; have y1 := GB11.c1; have y2 := GB11.c2; have y3 := GB11.c3
    go_wp2_with fail
    clear y0 y1 y2 y3
    refine (heldAsn_any (Y4 + 1) k1 k2 k3 Y5 _ _ _ _ _ _ _ _ _ _ _ _ _ (by omega) (by omega) (by omega) (by omega) (by omega) K1 K2 (by omega) (by omega) (by exact M0) (by exact M1) (by exact M2) (by exact M3)).mono ?_
    rintro e w12 ⟨rfl, hb⟩
    have A12 := A11.below hb A11.lt; have L12 := L11.trans (hb.mono L11.size); have GB12 := GB11.below hb GB11.lt; have WB12 := WB11.below hb WB11.lt
    replace W0 := W0.below hb (by omega); replace W1 := W1.below hb (by omega); replace W2 := W2.below hb (by omega); replace W3 := W3.below hb (by omega); replace M0 := M0.below hb (by omega); replace M1 := M1.below hb (by omega); replace M2 := M2.below hb (by omega); replace M3 := M3.below hb (by omega)
    have S12 : Y5 + 1 ≤ w12.heap.size := Nat.le_trans S11 hb.size
    clear hb A11 L11 S11 GB11 WB11
    have x0 := A12.c0; have x1 := A12.c1; have x2 := A12.c2; have x3 := A12.c3
    go_wp2_with fail
    refine (toAsn_any _ _ _ _ _ _ _ _ _ _ _ _ _ n0 n1 n2 n3 (by exact r0.below L12 (Nat.le_refl _)) (by exact r1.below L12 (Nat.le_refl _)) (by exact r2.below L12 (Nat.le_refl _)) (by exact r3.below L12 (Nat.le_refl _))).mono ?_
    rintro e w13 ⟨j0, j1, j2, j3, rfl, -, -, -, -, o0, o1, o2, o3, hb⟩
    have L13 := L12.trans (hb.mono L12.size); have GB13 := GB12.below hb GB12.lt; have WB13 := WB12.below hb WB12.lt
    replace W0 := W0.below hb (by omega); replace W1 := W1.below hb (by omega); replace W2 := W2.below hb (by omega); replace W3 := W3.below hb (by omega); replace M0 := M0.below hb (by omega); replace M1 := M1.below hb (by omega); replace M2 := M2.below hb (by omega); replace M3 := M3.below hb (by omega)
    have S13 : Y5 + 1 ≤ w13.heap.size := Nat.le_trans S12 hb.size
    clear hb A12 L12 S12 GB12 WB12 x0 x1 x2 x3
    go_wp2_with fail
    refine (iSubst_any _ _ _ _ _ _ _ _ _ _ _ _ _ _ _  n0 n1 n2 n3 (by exact o0) (by exact o1) (by exact o2) (by exact o3)).mono ?_
    rintro e w14 ⟨v0, v1, v2, v3, i0, i1, i2, i3, m1', m2', m3', rfl, c1', c2', c3', c4', Z0, Z1, Z2, Z3, hb⟩
    rw [HO.out, HV0.out, E0.out] at Z0
    rw [HO.out, HV1.out, E1.out] at Z1
    rw [HO.out, HV2.out, E2.out] at Z2
    rw [HO.out, HV3.out, E3.out] at Z3
    rw [HO.out, HV0.out, HV1.out, HV2.out, HV3.out, E0.out, E1.out, E2.out, E3.out]
    have L14 := L13.trans (hb.mono L13.size); have GB14 := GB13.below hb GB13.lt; have WB14 := WB13.below hb WB13.lt
    replace W0 := W0.below hb (by omega); replace W1 := W1.below hb (by omega); replace W2 := W2.below hb (by omega); replace W3 := W3.below hb (by omega); replace M0 := M0.below hb (by omega); replace M1 := M1.below hb (by omega); replace M2 := M2.below hb (by omega); replace M3 := M3.below hb (by omega)
    have S14 : Y5 + 1 ≤ w14.heap.size := Nat.le_trans S13 hb.size
    clear hb L13 S13 GB13 WB13 o0 o1 o2 o3
    have LH := L14.alloc L14.size (.cells #[.slice v0 N0 i0, .slice v1 N1 i1, .slice v2 N2 i2, .slice v3 N3 i3] 30)
    have GH := GB14.alloc (.cells #[.slice v0 N0 i0, .slice v1 N1 i1, .slice v2 N2 i2, .slice v3 N3 i3] 30)
    replace Z0 := Z0.below ((Below.refl _ _).alloc (Nat.le_refl _) (.cells #[.slice v0 N0 i0, .slice v1 N1 i1, .slice v2 N2 i2, .slice v3 N3 i3] 30)) (by omega); replace Z1 := Z1.below ((Below.refl _ _).alloc (Nat.le_refl _) (.cells #[.slice v0 N0 i0, .slice v1 N1 i1, .slice v2 N2 i2, .slice v3 N3 i3] 30)) (by omega); replace Z2 := Z2.below ((Below.refl _ _).alloc (Nat.le_refl _) (.cells #[.slice v0 N0 i0, .slice v1 N1 i1, .slice v2 N2 i2, .slice v3 N3 i3] 30)) (by omega); replace Z3 := Z3.below ((Below.refl _ _).alloc (Nat.le_refl _) (.cells #[.slice v0 N0 i0, .slice v1 N1 i1, .slice v2 N2 i2, .slice v3 N3 i3] 30)) (by omega); replace W0 := W0.below ((Below.refl _ _).alloc (Nat.le_refl _) (.cells #[.slice v0 N0 i0, .slice v1 N1 i1, .slice v2 N2 i2, .slice v3 N3 i3] 30)) (by omega); replace W1 := W1.below ((Below.refl _ _).alloc (Nat.le_refl _) (.cells #[.slice v0 N0 i0, .slice v1 N1 i1, .slice v2 N2 i2, .slice v3 N3 i3] 30)) (by omega); replace W2 := W2.below ((Below.refl _ _).alloc (Nat.le_refl _) (.cells #[.slice v0 N0 i0, .slice v1 N1 i1, .slice v2 N2 i2, .slice v3 N3 i3] 30)) (by omega); replace W3 := W3.below ((Below.refl _ _).alloc (Nat.le_refl _) (.cells #[.slice v0 N0 i0, .slice v1 N1 i1, .slice v2 N2 i2, .slice v3 N3 i3] 30)) (by omega); replace M0 := M0.below ((Below.refl _ _).alloc (Nat.le_refl _) (.cells #[.slice v0 N0 i0, .slice v1 N1 i1, .slice v2 N2 i2, .slice v3 N3 i3] 30)) (by omega); replace M1 := M1.below ((Below.refl _ _).alloc (Nat.le_refl _) (.cells #[.slice v0 N0 i0, .slice v1 N1 i1, .slice v2 N2 i2, .slice v3 N3 i3] 30)) (by omega); replace M2 := M2.below ((Below.refl _ _).alloc (Nat.le_refl _) (.cells #[.slice v0 N0 i0, .slice v1 N1 i1, .slice v2 N2 i2, .slice v3 N3 i3] 30)) (by omega); replace M3 := M3.below ((Below.refl _ _).alloc (Nat.le_refl _) (.cells #[.slice v0 N0 i0, .slice v1 N1 i1, .slice v2 N2 i2, .slice v3 N3 i3] 30)) (by omega)
    have u0 := WB14.c0; have u1 := WB14.c1; have u2 := WB14.c2; have u3 := WB14.c3
    have zz := WB14.lt
    go_wp2_with fail
    clear u0 u1 u2 u3
    refine (eqAsn_rows _ _ _ _ _ _ _ _ _ _ _ _ _ _ _ _ _ _ _ _ _ _ _ _ _ V0 V1 V2 V3 (by exact Z0.row) (by exact Z1.row) (by exact Z2.row) (by exact Z3.row) (by exact W0.row) (by exact W1.row) (by exact W2.row) (by exact W3.row) E0.out E1.out E2.out E3.out).mono ?_
    rintro e w15 ⟨rfl, hb⟩
    have L15 := LH.trans (hb.mono LH.size); have GB15 := GH.below hb GH.lt
    replace M0 := M0.below hb (by rw [World.size_alloc]; omega); replace M1 := M1.below hb (by rw [World.size_alloc]; omega); replace M2 := M2.below hb (by rw [World.size_alloc]; omega); replace M3 := M3.below hb (by rw [World.size_alloc]; omega)
    have S15 : Y5 ≤ w15.heap.size := Nat.le_trans (by simp; omega) hb.size
    clear hb LH L14 GB14 WB14 GH Z0 Z1 Z2 Z3 W0 W1 W2 W3
    have y0 := GB15.c0; have y1 := GB15.c1; have y2 := GB15.c2; have y3 := GB15.c3
    go_wp2_with fail
    clear y0 y1 y2 y3
    refine (heldAsn_any (Y4 + 1) k1 k2 k3 Y5 _ _ _ _ _ _ _ _ _ _ _ _ _ (by omega) (by omega) (by omega) (by omega) (by omega) K1 K2 (by omega) (by omega) (by exact M0) (by exact M1) (by exact M2) (by exact M3)).mono ?_
    rintro e w16 ⟨rfl, hb⟩
    have L16 := L15.trans (hb.mono L15.size)
    clear hb L15 GB15
    go_wp2
    go_ret
    exact ⟨rfl, L16⟩

end Go.Proofs.Ytehpiaadbcohbaa.subst
