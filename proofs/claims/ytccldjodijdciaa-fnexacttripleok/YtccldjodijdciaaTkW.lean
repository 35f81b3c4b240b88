/-
  The walk of the law FnExactTripleOk.
-/
import Derived.Test.YtccldjodijdciaaTt
import Derived.Outline
namespace Go.Proofs.Ytccldjodijdciaa.tripleOk
open Go.RowKit


theorem _root_.Go.Proofs.Ytccldjodijdciaa.TOwn.le {w : World} {z : Nat} {l0 l1 l2 l3 k0 k1 k2 k3 : List (Int × Int)} {g : List Cm} {b0 b1 b2 b3 bL m p0 p1 p2 p3 : Nat} (h : TOwn w z l0 l1 l2 l3 k0 k1 k2 k3 g b0 b1 b2 b3 bL m p0 p1 p2 p3) : m ≤ w.heap.size := by
  have := h.h0; have := h.q0.1; omega
theorem _root_.Go.Proofs.Ytccldjodijdciaa.TOwn.below {w w' : World} {z : Nat} {l0 l1 l2 l3 k0 k1 k2 k3 : List (Int × Int)} {g : List Cm} {b0 b1 b2 b3 bL m p0 p1 p2 p3 : Nat} (h : TOwn w z l0 l1 l2 l3 k0 k1 k2 k3 g b0 b1 b2 b3 bL m p0 p1 p2 p3) {B : Nat} (hb : Below B w w') (hB : w.heap.size ≤ B) : TOwn w' z l0 l1 l2 l3 k0 k1 k2 k3 g b0 b1 b2 b3 bL m p0 p1 p2 p3 := by
  have E : Eqf bL m w w' := Eqf.of_below hb (by have := h.le; omega)
  have u0 := h.o0.1; have u1 := h.o1.1; have u2 := h.o2.1; have u3 := h.o3.1; have v0 := h.q0.1; have v1 := h.q1.1; have v2 := h.q2.1; have v3 := h.q3.1
  exact { h with
    o0 := h.o0.below hb (by omega), o1 := h.o1.below hb (by omega), o2 := h.o2.below hb (by omega), o3 := h.o3.below hb (by omega)
    oL := h.oL.keep _ _ _ _ _ (E.mono (by omega) (Nat.le_refl _)) (fun j _ _ => (E.2 bL (Nat.le_refl _) h.gm).1 j) (fun j _ _ => (E.2 bL (Nat.le_refl _) h.gm).2 j)
    q0 := h.q0.below hb (by omega), q1 := h.q1.below hb (by omega), q2 := h.q2.below hb (by omega), q3 := h.q3.below hb (by omega) }

set_option maxRecDepth 20000 in
set_option maxHeartbeats 4000000 in
theorem walk (a0 a1 a2 a3 aL d0 d1 d2 d3 : Option Addr) (c0 c1 c2 c3 cL e0 e1 e2 e3 : Nat) (l0 l1 l2 l3 k0 k1 k2 k3 : List (Int × Int)) (g : List Cm) (w : World) (n0 : l0.length ≤ maxLen) (n1 : l1.length ≤ maxLen) (n2 : l2.length ≤ maxLen) (n3 : l3.length ≤ maxLen) (m0 : k0.length ≤ maxLen) (m1 : k1.length ≤ maxLen) (m2 : k2.length ≤ maxLen) (m3 : k3.length ≤ maxLen) (r0 : PRow w a0 l0) (r1 : PRow w a1 l1) (r2 : PRow w a2 l2) (r3 : PRow w a3 l3) (rg : CRow w 0 w.heap.size aL g) (s0 : PRow w d0 k0) (s1 : PRow w d1 k1) (s2 : PRow w d2 k2) (s3 : PRow w d3 k3) :
    Calls Try.prog 21 #[.agg #[.slice a0 l0.length c0, .slice a1 l1.length c1, .slice a2 l2.length c2, .slice a3 l3.length c3, .slice aL g.length cL, .slice d0 k0.length e0, .slice d1 k1.length e1, .slice d2 k2.length e2, .slice d3 k3.length e3]] w fun e w' => e = .returned (.bool true) ∧ Below w.heap.size w w' := by
  have A0 := B9.new w (.slice a0 l0.length c0) (.slice a1 l1.length c1) (.slice a2 l2.length c2) (.slice a3 l3.length c3) (.slice aL g.length cL) (.slice d0 k0.length e0) (.slice d1 k1.length e1) (.slice d2 k2.length e2) (.slice d3 k3.length e3) 84
  have L0 : Below w.heap.size w (w.alloc (.cells #[.slice a0 l0.length c0, .slice a1 l1.length c1, .slice a2 l2.length c2, .slice a3 l3.length c3, .slice aL g.length cL, .slice d0 k0.length e0, .slice d1 k1.length e1, .slice d2 k2.length e2, .slice d3 k3.length e3] 84)) := (Below.refl _ _).alloc (Nat.le_refl _) _
  go_enter Try.func21, Try.ntmps21
  go_wp2_with fail
  refine (szTriple_any _ _ _ _ _ _ _ _ _ _ _ _ _ _ _ _ _ _ _ _ _ _ _ _ _ _ _ _ _ _ _ (by exact rg.below L0 (Nat.le_refl _)) (by exact L0.size) n0 n1 n2 n3 m0 m1 m2 m3 (by omega) (by omega)).mono ?_
  rintro e w1 ⟨rfl, hb⟩
  have A1 := A0.below hb A0.lt; have L1 := L0.trans (hb.mono L0.size)
  clear hb A0 L0
  by_cases hT : (1048576 : Int) < szT l0 l1 l2 l3 k0 k1 k2 k3 g
  · rw [szI_neg hT]
    go_wp2
    go_ret
    exact ⟨rfl, L1⟩
  have hs : szT l0 l1 l2 l3 k0 k1 k2 k3 g ≤ 1048576 := by omega
  obtain ⟨left, hl, hl0⟩ : ∃ left : Int, szI (szT l0 l1 l2 l3 k0 k1 k2 k3 g) 1048576 = left ∧ ¬ left < 0 := ⟨_, rfl, by rw [szI_pos (by omega)]; omega⟩
  rw [hl]
  unfold szT at hs
  clear hl hT n0 n1 n2 n3 m0 m1 m2 m3
  have n0 : l0.length ≤ 1048576 := by omega
  have m0 : k0.length ≤ 1048576 := by omega
  have n1 : l1.length ≤ 1048576 := by omega
  have m1 : k1.length ≤ 1048576 := by omega
  have n2 : l2.length ≤ 1048576 := by omega
  have m2 : k2.length ≤ 1048576 := by omega
  have n3 : l3.length ≤ 1048576 := by omega
  have m3 : k3.length ≤ 1048576 := by omega
  have ng : cnts g ≤ 1048576 := by omega
  clear hs
  have x0 := A1.c0; have x1 := A1.c1; have x2 := A1.c2; have x3 := A1.c3; have x4 := A1.c4; have x5 := A1.c5; have x6 := A1.c6; have x7 := A1.c7; have x8 := A1.c8
  go_wp2_with fail
  clear x0 x1 x2 x3 x4 x5 x6 x7 x8
  refine (toTriple_any _ _ _ _ _ _ _ _ _ _ _ _ _ _ _ _ _ _ _ _ _ _ _ _ _ _ _ _ _ _ (by exact r0.below L1 (Nat.le_refl _)) (by exact r1.below L1 (Nat.le_refl _)) (by exact r2.below L1 (Nat.le_refl _)) (by exact r3.below L1 (Nat.le_refl _)) (by exact rg.below L1 (Nat.le_refl _)) (by exact s0.below L1 (Nat.le_refl _)) (by exact s1.below L1 (Nat.le_refl _)) (by exact s2.below L1 (Nat.le_refl _)) (by exact s3.below L1 (Nat.le_refl _)) (by exact L1.size) n0 n1 n2 n3 m0 m1 m2 m3 ng).mono ?_
  rintro e w2 ⟨b0, b1, b2, b3, bL, m, p0, p1, p2, p3, rfl, T, hb⟩
  have A2 := A1.below hb A1.lt; have L2 := L1.trans (hb.mono L1.size)
  clear hb A1 L1
  go_wp2_with fail
  refine (sTripleOk_any _ _ _ _ _ _ _ _ _ _ _ _ _ _ _ _ _ _ _ _ _ _ _ _ _ _ _ _ _ _ T.o0.row T.o1.row T.o2.row T.o3.row (T.oL.row T.gm ng) T.q0.row T.q1.row T.q2.row T.q3.row T.le n0 n1 n2 n3 m0 m1 m2 m3 ng).mono ?_
  rintro e w3 ⟨rfl, hb⟩
  have A3 := A2.below hb A2.lt; have L3 := L2.trans (hb.mono L2.size)
  clear hb A2 L2 T
  have x0 := A3.c0; have x1 := A3.c1; have x2 := A3.c2; have x3 := A3.c3; have x4 := A3.c4; have x5 := A3.c5; have x6 := A3.c6; have x7 := A3.c7; have x8 := A3.c8
  go_wp2_with fail
  clear x0 x1 x2 x3 x4 x5 x6 x7 x8
  refine (toTriple_any _ _ _ _ _ _ _ _ _ _ _ _ _ _ _ _ _ _ _ _ _ _ _ _ _ _ _ _ _ _ (by exact r0.below L3 (Nat.le_refl _)) (by exact r1.below L3 (Nat.le_refl _)) (by exact r2.below L3 (Nat.le_refl _)) (by exact r3.below L3 (Nat.le_refl _)) (by exact rg.below L3 (Nat.le_refl _)) (by exact s0.below L3 (Nat.le_refl _)) (by exact s1.below L3 (Nat.le_refl _)) (by exact s2.below L3 (Nat.le_refl _)) (by exact s3.below L3 (Nat.le_refl _)) (by exact L3.size) n0 n1 n2 n3 m0 m1 m2 m3 ng).mono ?_
  rintro e w4 ⟨b0, b1, b2, b3, bL, m, p0, p1, p2, p3, rfl, T, hb⟩
  have A4 := A3.below hb A3.lt; have L4 := L3.trans (hb.mono L3.size)
  clear hb A3 L3
  have X := B9.new w4 (.slice (some ⟨b0, 0, none⟩) l0.length l0.length) (.slice (some ⟨b1, 0, none⟩) l1.length l1.length) (.slice (some ⟨b2, 0, none⟩) l2.length l2.length) (.slice (some ⟨b3, 0, none⟩) l3.length l3.length) (.slice (some ⟨bL, 0, none⟩) g.length g.length) (.slice (some ⟨p0, 0, none⟩) k0.length k0.length) (.slice (some ⟨p1, 0, none⟩) k1.length k1.length) (.slice (some ⟨p2, 0, none⟩) k2.length k2.length) (.slice (some ⟨p3, 0, none⟩) k3.length k3.length) 88
  have hb : Below w4.heap.size w4 (w4.alloc (.cells #[.slice (some ⟨b0, 0, none⟩) l0.length l0.length, .slice (some ⟨b1, 0, none⟩) l1.length l1.length, .slice (some ⟨b2, 0, none⟩) l2.length l2.length, .slice (some ⟨b3, 0, none⟩) l3.length l3.length, .slice (some ⟨bL, 0, none⟩) g.length g.length, .slice (some ⟨p0, 0, none⟩) k0.length k0.length, .slice (some ⟨p1, 0, none⟩) k1.length k1.length, .slice (some ⟨p2, 0, none⟩) k2.length k2.length, .slice (some ⟨p3, 0, none⟩) k3.length k3.length] 88)) := (Below.refl _ _).alloc (Nat.le_refl _) _
  have A5 := A4.below hb A4.lt; have L5 := L4.trans (hb.mono L4.size)
  have T5 := T.below hb (Nat.le_refl _)
  go_wp2_with fail
  clear hb A4 L4 T
  refine (iTripleOk_any _ _ _ _ _ _ _ _ _ _ _ _ _ _ _ _ _ _ _ _ _ _ _ _ _ _ _ _ _ _ T5.o0.row T5.o1.row T5.o2.row T5.o3.row (T5.oL.row T5.gm ng) T5.q0.row T5.q1.row T5.q2.row T5.q3.row T5.le n0 n1 n2 n3 m0 m1 m2 m3 ng).mono ?_
  rintro e w6 ⟨rfl, hb⟩
  have A6 := A5.below hb A5.lt; have L6 := L5.trans (hb.mono L5.size); have X6 := X.below hb X.lt
  have T6 := T5.below hb (Nat.le_refl _)
  clear hb A5 L5 X T5
  generalize tripB l0 l1 l2 l3 k0 k1 k2 k3 g = v
  have D0 : Below w6.heap.size w6 w6.drew := (Below.refl _ _).drew
  have A7 := A6.below D0 A6.lt; have L7 := L6.trans (D0.mono L6.size); have X7 := X6.below D0 X6.lt; have T7 := T6.below D0 (Nat.le_refl _)
  have y0 := A6.c0; have y1 := A6.c1; have y2 := A6.c2; have y3 := A6.c3; have y4 := A6.c4; have y5 := A6.c5; have y6 := A6.c6; have y7 := A6.c7; have y8 := A6.c8
  have x0 := X6.c0; have x1 := X6.c1; have x2 := X6.c2; have x3 := X6.c3; have x4 := X6.c4; have x5 := X6.c5; have x6 := X6.c6; have x7 := X6.c7; have x8 := X6.c8
  go_wp2_with fail
  go_region_with (first
    | (go_at_call 82; refine (toTriple_any _ _ _ _ _ _ _ _ _ _ _ _ _ _ _ _ _ _ _ _ _ _ _ _ _ _ _ _ _ _ (by exact r0.below L7 (Nat.le_refl _)) (by exact r1.below L7 (Nat.le_refl _)) (by exact r2.below L7 (Nat.le_refl _)) (by exact r3.below L7 (Nat.le_refl _)) (by exact rg.below L7 (Nat.le_refl _)) (by exact s0.below L7 (Nat.le_refl _)) (by exact s1.below L7 (Nat.le_refl _)) (by exact s2.below L7 (Nat.le_refl _)) (by exact s3.below L7 (Nat.le_refl _)) (by exact L7.size) n0 n1 n2 n3 m0 m1 m2 m3 ng).mono ?_; rintro e w8 ⟨b0', b1', b2', b3', bL', m', p0', p1', p2', p3', rfl, T8, hb6⟩; have z0 := (X7.below hb6 X7.lt).c0; have z1 := (X7.below hb6 X7.lt).c1; have z2 := (X7.below hb6 X7.lt).c2; have z3 := (X7.below hb6 X7.lt).c3; have z4 := (X7.below hb6 X7.lt).c4; have z5 := (X7.below hb6 X7.lt).c5; have z6 := (X7.below hb6 X7.lt).c6; have z7 := (X7.below hb6 X7.lt).c7; have z8 := (X7.below hb6 X7.lt).c8)
    | (go_at_call 84; refine (eqTriple_same _ _ _ _ _ _ _ _ _ _ _ _ _ _ _ _ _ _ _ _ _ _ _ _ _ _ _ _ _ _ _ _ _ _ _ _ _ _ _ _ _ _ _ _ _ _ _ _ _ _ (T7.below hb6 (Nat.le_refl _)).o0.row (T7.below hb6 (Nat.le_refl _)).o1.row (T7.below hb6 (Nat.le_refl _)).o2.row (T7.below hb6 (Nat.le_refl _)).o3.row ((T7.below hb6 (Nat.le_refl _)).oL.row (T7.below hb6 (Nat.le_refl _)).gm ng) (T7.below hb6 (Nat.le_refl _)).q0.row (T7.below hb6 (Nat.le_refl _)).q1.row (T7.below hb6 (Nat.le_refl _)).q2.row (T7.below hb6 (Nat.le_refl _)).q3.row (T7.below hb6 (Nat.le_refl _)).le T8.o0.row T8.o1.row T8.o2.row T8.o3.row (T8.oL.row T8.gm ng) T8.q0.row T8.q1.row T8.q2.row T8.q3.row T8.le n0 n1 n2 n3 m0 m1 m2 m3 ng).mono ?_; rintro e w9 ⟨rfl, hb7⟩))
  all_goals
    have L9 : Below w.heap.size w w9 := (L7.trans (hb6.mono L7.size)).trans (hb7.mono (L7.trans (hb6.mono L7.size)).size)
    go_wp2
    go_ret
    exact ⟨rfl, L9⟩

end Go.Proofs.Ytccldjodijdciaa.tripleOk
