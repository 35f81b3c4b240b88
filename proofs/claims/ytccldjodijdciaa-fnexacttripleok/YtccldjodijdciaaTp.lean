/-
  The contracts of TripleOk, in package spec and in package impl, and of what the laws do with triples.
-/
import Derived.Test.YtccldjodijdciaaB9
import Derived.Test.YtccldjodijdciaaCEq
import Derived.Test.YtccldjodijdciaaCTop
import Derived.Test.YtccldjodijdciaaPlain
import Derived.Outline
namespace Go.Proofs.Ytccldjodijdciaa
open Go.RowKit

/-- How many there are in a triple. -/
def szT (l0 l1 l2 l3 k0 k1 k2 k3 : List (Int × Int)) (g : List Cm) : Int := ((l0.length : Int) + l1.length + l2.length + l3.length) + cnts g + ((k0.length : Int) + k1.length + k2.length + k3.length)

set_option maxRecDepth 20000 in
set_option maxHeartbeats 2000000 in
theorem szTriple_any (a0 a1 a2 a3 aL d0 d1 d2 d3 : Option Addr) (c0 c1 c2 c3 cL e0 e1 e2 e3 : Nat) (l0 l1 l2 l3 k0 k1 k2 k3 : List (Int × Int)) (g : List Cm) (left : Int) (w : World) (lo hi : Nat) (rg : CRow w lo hi aL g) (hh : hi ≤ w.heap.size) (n0 : l0.length ≤ maxLen) (n1 : l1.length ≤ maxLen) (n2 : l2.length ≤ maxLen) (n3 : l3.length ≤ maxLen) (m0 : k0.length ≤ maxLen) (m1 : k1.length ≤ maxLen) (m2 : k2.length ≤ maxLen) (m3 : k3.length ≤ maxLen) (h0 : 0 ≤ left) (h1 : left ≤ 1048576) :
    Calls Try.prog 80 #[.agg #[.slice a0 l0.length c0, .slice a1 l1.length c1, .slice a2 l2.length c2, .slice a3 l3.length c3, .slice aL g.length cL, .slice d0 k0.length e0, .slice d1 k1.length e1, .slice d2 k2.length e2, .slice d3 k3.length e3], .int .i64 left] w fun e w' => e = .returned (.int .i64 (szI (szT l0 l1 l2 l3 k0 k1 k2 k3 g) left)) ∧ Below w.heap.size w w' := by
  have HT : Hid (szT l0 l1 l2 l3 k0 k1 k2 k3 g = ((l0.length : Int) + l1.length + l2.length + l3.length) + cnts g + ((k0.length : Int) + k1.length + k2.length + k3.length)) := rfl
  have A0 := B9.new w (.slice a0 l0.length c0) (.slice a1 l1.length c1) (.slice a2 l2.length c2) (.slice a3 l3.length c3) (.slice aL g.length cL) (.slice d0 k0.length e0) (.slice d1 k1.length e1) (.slice d2 k2.length e2) (.slice d3 k3.length e3) 84
  have L0 : Below w.heap.size w (w.alloc (.cells #[.slice a0 l0.length c0, .slice a1 l1.length c1, .slice a2 l2.length c2, .slice a3 l3.length c3, .slice aL g.length cL, .slice d0 k0.length e0, .slice d1 k1.length e1, .slice d2 k2.length e2, .slice d3 k3.length e3] 84)) := (Below.refl _ _).alloc (Nat.le_refl _) _
  go_enter Try.func80, Try.ntmps80
  go_wp2_with fail
  refine (szAsn_any _ _ _ _ _ _ _ _ _ _ _ _ left _ n0 n1 n2 n3 h0 h1).mono ?_
  rintro e w1 ⟨rfl, hb⟩
  replace A0 := A0.below hb A0.lt; replace L0 := L0.trans (hb.mono L0.size)
  clear hb
  by_cases q0 : left < ((l0.length : Int) + l1.length + l2.length + l3.length)
  · rw [szI_neg q0]
    go_wp2
    go_ret
    exact ⟨ret_int (by rw [HT.out, szI_neg (by omega)]), L0⟩
  rw [szI_pos (by omega)]
  obtain ⟨lf, hl, g0, g1⟩ : ∃ lf : Int, left - ((l0.length : Int) + l1.length + l2.length + l3.length) = lf ∧ 0 ≤ lf ∧ lf ≤ 1048576 := ⟨_, rfl, by omega, by omega⟩
  have HL : Hid (left - ((l0.length : Int) + l1.length + l2.length + l3.length) = lf) := hl
  rw [hl]
  clear hl
  have x4 := A0.c4
  go_wp2_with fail
  clear x4
  refine (szCmdS_any g _ _ _ _ _ lf (by exact rg.below L0 hh) (by exact Nat.le_trans hh L0.size) g0 g1).mono ?_
  rintro e w2 ⟨rfl, hb⟩
  replace A0 := A0.below hb A0.lt; replace L0 := L0.trans (hb.mono L0.size)
  clear hb
  by_cases q1 : lf < cnts g
  · rw [szI_neg q1]
    go_wp2
    go_ret
    exact ⟨ret_int (by rw [HT.out, szI_neg (by have := HL.out; omega)]), L0⟩
  rw [szI_pos (by omega)]
  obtain ⟨lg, hl, g2, g3⟩ : ∃ lg : Int, lf - cnts g = lg ∧ 0 ≤ lg ∧ lg ≤ 1048576 := ⟨_, rfl, by omega, by omega⟩
  have HL2 : Hid (lf - cnts g = lg) := hl
  rw [hl]
  clear hl
  have x5 := A0.c5; have x6 := A0.c6; have x7 := A0.c7; have x8 := A0.c8
  go_wp2_with fail
  clear x5 x6 x7 x8
  refine (szAsn_any _ _ _ _ _ _ _ _ _ _ _ _ lg _ m0 m1 m2 m3 g2 g3).mono ?_
  rintro e w3 ⟨rfl, hb⟩
  replace L0 := L0.trans (hb.mono L0.size)
  clear hb A0
  by_cases q2 : lg < ((k0.length : Int) + k1.length + k2.length + k3.length)
  · rw [szI_neg q2]
    go_wp2
    go_ret
    exact ⟨ret_int (by rw [HT.out, szI_neg (by have := HL.out; have := HL2.out; omega)]), L0⟩
  rw [szI_pos (by omega)]
  obtain ⟨lh, hl, g4⟩ : ∃ lh : Int, lg - ((k0.length : Int) + k1.length + k2.length + k3.length) = lh ∧ 0 ≤ lh := ⟨_, rfl, by omega⟩
  have HL3 : Hid (lg - ((k0.length : Int) + k1.length + k2.length + k3.length) = lh) := hl
  rw [hl]
  clear hl
  go_wp2
  go_ret
  exact ⟨ret_int (by have := HL.out; have := HL2.out; have := HL3.out; rw [HT.out, szI_pos (by omega)]; omega), L0⟩

/-- What TripleOk tells. -/
def tripB (l0 l1 l2 l3 k0 k1 k2 k3 : List (Int × Int)) (g : List Cm) : Bool := caseB l0 l1 l2 l3 && progV g && plainV k0 k1 k2 k3

set_option maxRecDepth 20000 in
set_option maxHeartbeats 2000000 in
theorem sTripleOk_any (a0 a1 a2 a3 aL d0 d1 d2 d3 : Option Addr) (c0 c1 c2 c3 cL e0 e1 e2 e3 : Nat) (l0 l1 l2 l3 k0 k1 k2 k3 : List (Int × Int)) (g : List Cm) (w : World) (lo hi : Nat) (r0 : PRow w a0 l0) (r1 : PRow w a1 l1) (r2 : PRow w a2 l2) (r3 : PRow w a3 l3) (rg : CRow w lo hi aL g) (s0 : PRow w d0 k0) (s1 : PRow w d1 k1) (s2 : PRow w d2 k2) (s3 : PRow w d3 k3) (hh : hi ≤ w.heap.size) (n0 : l0.length ≤ 1048576) (n1 : l1.length ≤ 1048576) (n2 : l2.length ≤ 1048576) (n3 : l3.length ≤ 1048576) (m0 : k0.length ≤ 1048576) (m1 : k1.length ≤ 1048576) (m2 : k2.length ≤ 1048576) (m3 : k3.length ≤ 1048576) (ng : cnts g ≤ 1048576) :
    Calls Try.prog 81 #[.agg #[.slice a0 l0.length c0, .slice a1 l1.length c1, .slice a2 l2.length c2, .slice a3 l3.length c3, .slice aL g.length cL, .slice d0 k0.length e0, .slice d1 k1.length e1, .slice d2 k2.length e2, .slice d3 k3.length e3]] w fun e w' => e = .returned (.bool (tripB l0 l1 l2 l3 k0 k1 k2 k3 g)) ∧ Below w.heap.size w w' := by
  have HT : Hid (tripB l0 l1 l2 l3 k0 k1 k2 k3 g = (caseB l0 l1 l2 l3 && progV g && plainV k0 k1 k2 k3)) := rfl
  have A0 := B9.new w (.slice a0 l0.length c0) (.slice a1 l1.length c1) (.slice a2 l2.length c2) (.slice a3 l3.length c3) (.slice aL g.length cL) (.slice d0 k0.length e0) (.slice d1 k1.length e1) (.slice d2 k2.length e2) (.slice d3 k3.length e3) 88
  have L0 : Below w.heap.size w (w.alloc (.cells #[.slice a0 l0.length c0, .slice a1 l1.length c1, .slice a2 l2.length c2, .slice a3 l3.length c3, .slice aL g.length cL, .slice d0 k0.length e0, .slice d1 k1.length e1, .slice d2 k2.length e2, .slice d3 k3.length e3] 88)) := (Below.refl _ _).alloc (Nat.le_refl _) _
  go_enter Try.func81, Try.ntmps81
  go_wp2_with fail
  refine (l4room_any _ _ _ _ _ _ _ _ l0 l1 l2 l3 _ n0 n1 n2 n3 (by exact r0.below L0 (Nat.le_refl _)) (by exact r1.below L0 (Nat.le_refl _)) (by exact r2.below L0 (Nat.le_refl _)) (by exact r3.below L0 (Nat.le_refl _))).mono ?_
  rintro e w1 ⟨rfl, hb⟩
  replace A0 := A0.below hb A0.lt; replace L0 := L0.trans (hb.mono L0.size)
  clear hb r0 r1 r2 r3
  obtain ⟨rm, hrm⟩ : ∃ rm, Hid (caseB l0 l1 l2 l3 = rm) := ⟨_, rfl⟩
  rw [hrm.out]
  cases rm
  · go_wp2
    go_ret
    exact ⟨ret_bool (by rw [HT.out, hrm.out]; rfl), L0⟩
  have x4 := A0.c4
  go_wp2_with fail
  clear x4
  refine (sProgOk_any g _ _ _ _ _ (by exact rg.below L0 hh) (by exact Nat.le_trans hh L0.size) (by omega)).mono ?_
  rintro e w2 ⟨rfl, hb⟩
  replace A0 := A0.below hb A0.lt; replace L0 := L0.trans (hb.mono L0.size)
  clear hb rg
  obtain ⟨pr, hpr⟩ : ∃ pr, Hid (progV g = pr) := ⟨_, rfl⟩
  rw [hpr.out]
  cases pr
  · go_wp2
    go_ret
    exact ⟨ret_bool (by rw [HT.out, hrm.out, hpr.out]; rfl), L0⟩
  have x5 := A0.c5; have x6 := A0.c6; have x7 := A0.c7; have x8 := A0.c8
  go_wp2_with fail
  clear x5 x6 x7 x8
  refine (sPlain_any _ _ _ _ _ _ _ _ k0 k1 k2 k3 _ m0 m1 m2 m3 (by exact s0.below L0 (Nat.le_refl _)) (by exact s1.below L0 (Nat.le_refl _)) (by exact s2.below L0 (Nat.le_refl _)) (by exact s3.below L0 (Nat.le_refl _))).mono ?_
  rintro e w3 ⟨rfl, hb⟩
  replace L0 := L0.trans (hb.mono L0.size)
  clear hb A0
  obtain ⟨pl, hpl⟩ : ∃ pl, Hid (plainV k0 k1 k2 k3 = pl) := ⟨_, rfl⟩
  rw [hpl.out]
  go_wp2
  go_ret
  exact ⟨ret_bool (by rw [HT.out, hrm.out, hpr.out, hpl.out]; rfl), L0⟩

set_option maxRecDepth 20000 in
set_option maxHeartbeats 2000000 in
theorem iTripleOk_any (a0 a1 a2 a3 aL d0 d1 d2 d3 : Option Addr) (c0 c1 c2 c3 cL e0 e1 e2 e3 : Nat) (l0 l1 l2 l3 k0 k1 k2 k3 : List (Int × Int)) (g : List Cm) (w : World) (lo hi : Nat) (r0 : PRow w a0 l0) (r1 : PRow w a1 l1) (r2 : PRow w a2 l2) (r3 : PRow w a3 l3) (rg : CRow w lo hi aL g) (s0 : PRow w d0 k0) (s1 : PRow w d1 k1) (s2 : PRow w d2 k2) (s3 : PRow w d3 k3) (hh : hi ≤ w.heap.size) (n0 : l0.length ≤ 1048576) (n1 : l1.length ≤ 1048576) (n2 : l2.length ≤ 1048576) (n3 : l3.length ≤ 1048576) (m0 : k0.length ≤ 1048576) (m1 : k1.length ≤ 1048576) (m2 : k2.length ≤ 1048576) (m3 : k3.length ≤ 1048576) (ng : cnts g ≤ 1048576) :
    Calls Try.prog 83 #[.agg #[.slice a0 l0.length c0, .slice a1 l1.length c1, .slice a2 l2.length c2, .slice a3 l3.length c3, .slice aL g.length cL, .slice d0 k0.length e0, .slice d1 k1.length e1, .slice d2 k2.length e2, .slice d3 k3.length e3]] w fun e w' => e = .returned (.bool (tripB l0 l1 l2 l3 k0 k1 k2 k3 g)) ∧ Below w.heap.size w w' := by
  have HT : Hid (tripB l0 l1 l2 l3 k0 k1 k2 k3 g = (caseB l0 l1 l2 l3 && progV g && plainV k0 k1 k2 k3)) := rfl
  have A0 := B9.new w (.slice a0 l0.length c0) (.slice a1 l1.length c1) (.slice a2 l2.length c2) (.slice a3 l3.length c3) (.slice aL g.length cL) (.slice d0 k0.length e0) (.slice d1 k1.length e1) (.slice d2 k2.length e2) (.slice d3 k3.length e3) 88
  have L0 : Below w.heap.size w (w.alloc (.cells #[.slice a0 l0.length c0, .slice a1 l1.length c1, .slice a2 l2.length c2, .slice a3 l3.length c3, .slice aL g.length cL, .slice d0 k0.length e0, .slice d1 k1.length e1, .slice d2 k2.length e2, .slice d3 k3.length e3] 88)) := (Below.refl _ _).alloc (Nat.le_refl _) _
  go_enter Try.func83, Try.ntmps83
  go_wp2_with fail
  refine (hasRoom_any _ _ _ _ _ _ _ _ l0 l1 l2 l3 _ n0 n1 n2 n3 (by exact r0.below L0 (Nat.le_refl _)) (by exact r1.below L0 (Nat.le_refl _)) (by exact r2.below L0 (Nat.le_refl _)) (by exact r3.below L0 (Nat.le_refl _))).mono ?_
  rintro e w1 ⟨rfl, hb⟩
  replace A0 := A0.below hb A0.lt; replace L0 := L0.trans (hb.mono L0.size)
  clear hb r0 r1 r2 r3
  obtain ⟨rm, hrm⟩ : ∃ rm, Hid (caseB l0 l1 l2 l3 = rm) := ⟨_, rfl⟩
  rw [hrm.out]
  cases rm
  · go_wp2
    go_ret
    exact ⟨ret_bool (by rw [HT.out, hrm.out]; rfl), L0⟩
  have x4 := A0.c4
  go_wp2_with fail
  clear x4
  refine (iProgOk_any g _ _ _ _ _ (by exact rg.below L0 hh) (by exact Nat.le_trans hh L0.size) (by omega)).mono ?_
  rintro e w2 ⟨rfl, hb⟩
  replace A0 := A0.below hb A0.lt; replace L0 := L0.trans (hb.mono L0.size)
  clear hb rg
  obtain ⟨pr, hpr⟩ : ∃ pr, Hid (progV g = pr) := ⟨_, rfl⟩
  rw [hpr.out]
  cases pr
  · go_wp2
    go_ret
    exact ⟨ret_bool (by rw [HT.out, hrm.out, hpr.out]; rfl), L0⟩
  have x5 := A0.c5; have x6 := A0.c6; have x7 := A0.c7; have x8 := A0.c8
  go_wp2_with fail
  clear x5 x6 x7 x8
  refine (iPlain_any _ _ _ _ _ _ _ _ k0 k1 k2 k3 _ m0 m1 m2 m3 (by exact s0.below L0 (Nat.le_refl _)) (by exact s1.below L0 (Nat.le_refl _)) (by exact s2.below L0 (Nat.le_refl _)) (by exact s3.below L0 (Nat.le_refl _))).mono ?_
  rintro e w3 ⟨rfl, hb⟩
  replace L0 := L0.trans (hb.mono L0.size)
  clear hb A0
  obtain ⟨pl, hpl⟩ : ∃ pl, Hid (plainV k0 k1 k2 k3 = pl) := ⟨_, rfl⟩
  rw [hpl.out]
  go_wp2
  go_ret
  exact ⟨ret_bool (by rw [HT.out, hrm.out, hpr.out, hpl.out]; rfl), L0⟩

set_option maxRecDepth 20000 in
set_option maxHeartbeats 2000000 in
theorem eqTriple_same (a0 a1 a2 a3 aL d0 d1 d2 d3 : Option Addr) (c0 c1 c2 c3 cL e0 e1 e2 e3 : Nat) (l0 l1 l2 l3 k0 k1 k2 k3 : List (Int × Int)) (g : List Cm) (b0 b1 b2 b3 bL p0 p1 p2 p3 : Option Addr) (f0 f1 f2 f3 fL q0 q1 q2 q3 : Nat) (w : World) (lo hi lo' hi' : Nat) (r0 : PRow w a0 l0) (r1 : PRow w a1 l1) (r2 : PRow w a2 l2) (r3 : PRow w a3 l3) (rg : CRow w lo hi aL g) (s0 : PRow w d0 k0) (s1 : PRow w d1 k1) (s2 : PRow w d2 k2) (s3 : PRow w d3 k3) (hh : hi ≤ w.heap.size) (u0 : PRow w b0 l0) (u1 : PRow w b1 l1) (u2 : PRow w b2 l2) (u3 : PRow w b3 l3) (ug : CRow w lo' hi' bL g) (t0 : PRow w p0 k0) (t1 : PRow w p1 k1) (t2 : PRow w p2 k2) (t3 : PRow w p3 k3) (hh' : hi' ≤ w.heap.size) (n0 : l0.length ≤ 1048576) (n1 : l1.length ≤ 1048576) (n2 : l2.length ≤ 1048576) (n3 : l3.length ≤ 1048576) (m0 : k0.length ≤ 1048576) (m1 : k1.length ≤ 1048576) (m2 : k2.length ≤ 1048576) (m3 : k3.length ≤ 1048576) (ng : cnts g ≤ 1048576) :
    Calls Try.prog 84 #[.agg #[.slice a0 l0.length c0, .slice a1 l1.length c1, .slice a2 l2.length c2, .slice a3 l3.length c3, .slice aL g.length cL, .slice d0 k0.length e0, .slice d1 k1.length e1, .slice d2 k2.length e2, .slice d3 k3.length e3], .agg #[.slice b0 l0.length f0, .slice b1 l1.length f1, .slice b2 l2.length f2, .slice b3 l3.length f3, .slice bL g.length fL, .slice p0 k0.length q0, .slice p1 k1.length q1, .slice p2 k2.length q2, .slice p3 k3.length q3]] w fun e w' => e = .returned (.bool true) ∧ Below w.heap.size w w' := by
  have A0 := (B9.new w (.slice a0 l0.length c0) (.slice a1 l1.length c1) (.slice a2 l2.length c2) (.slice a3 l3.length c3) (.slice aL g.length cL) (.slice d0 k0.length e0) (.slice d1 k1.length e1) (.slice d2 k2.length e2) (.slice d3 k3.length e3) 88).alloc (.cells #[.slice b0 l0.length f0, .slice b1 l1.length f1, .slice b2 l2.length f2, .slice b3 l3.length f3, .slice bL g.length fL, .slice p0 k0.length q0, .slice p1 k1.length q1, .slice p2 k2.length q2, .slice p3 k3.length q3] 88)
  have D0 := B9.new (w.alloc (.cells #[.slice a0 l0.length c0, .slice a1 l1.length c1, .slice a2 l2.length c2, .slice a3 l3.length c3, .slice aL g.length cL, .slice d0 k0.length e0, .slice d1 k1.length e1, .slice d2 k2.length e2, .slice d3 k3.length e3] 88)) (.slice b0 l0.length f0) (.slice b1 l1.length f1) (.slice b2 l2.length f2) (.slice b3 l3.length f3) (.slice bL g.length fL) (.slice p0 k0.length q0) (.slice p1 k1.length q1) (.slice p2 k2.length q2) (.slice p3 k3.length q3) 88
  have L0 : Below w.heap.size w ((w.alloc (.cells #[.slice a0 l0.length c0, .slice a1 l1.length c1, .slice a2 l2.length c2, .slice a3 l3.length c3, .slice aL g.length cL, .slice d0 k0.length e0, .slice d1 k1.length e1, .slice d2 k2.length e2, .slice d3 k3.length e3] 88)).alloc (.cells #[.slice b0 l0.length f0, .slice b1 l1.length f1, .slice b2 l2.length f2, .slice b3 l3.length f3, .slice bL g.length fL, .slice p0 k0.length q0, .slice p1 k1.length q1, .slice p2 k2.length q2, .slice p3 k3.length q3] 88)) := ((Below.refl _ _).alloc (Nat.le_refl _) _).alloc (by simp) _
  simp only [World.size_alloc] at D0
  go_enter Try.func84, Try.ntmps84
  go_wp2_with fail
  refine (eqAsn_same _ _ _ _ _ _ _ _ _ _ _ _ _ _ _ _ _ _ _ _ _ n0 n1 n2 n3 (by exact r0.below L0 (Nat.le_refl _)) (by exact r1.below L0 (Nat.le_refl _)) (by exact r2.below L0 (Nat.le_refl _)) (by exact r3.below L0 (Nat.le_refl _)) (by exact u0.below L0 (Nat.le_refl _)) (by exact u1.below L0 (Nat.le_refl _)) (by exact u2.below L0 (Nat.le_refl _)) (by exact u3.below L0 (Nat.le_refl _))).mono ?_
  rintro e w1 ⟨rfl, hb⟩
  replace A0 := A0.below hb A0.lt; replace D0 := D0.below hb D0.lt; replace L0 := L0.trans (hb.mono L0.size)
  clear hb
  have x4 := A0.c4; have y4 := D0.c4
  go_wp2_with fail
  clear x4 y4
  refine (eqCmdS_any g _ _ _ _ _ _ _ _ _ (by exact rg.below L0 hh) (by exact ug.below L0 hh') (by exact Nat.le_trans hh L0.size) (by exact Nat.le_trans hh' L0.size) ng).mono ?_
  rintro e w2 ⟨rfl, hb⟩
  replace A0 := A0.below hb A0.lt; replace D0 := D0.below hb D0.lt; replace L0 := L0.trans (hb.mono L0.size)
  clear hb
  have x5 := A0.c5; have x6 := A0.c6; have x7 := A0.c7; have x8 := A0.c8
  have y5 := D0.c5; have y6 := D0.c6; have y7 := D0.c7; have y8 := D0.c8
  go_wp2_with fail
  clear x5 x6 x7 x8 y5 y6 y7 y8
  refine (eqAsn_same _ _ _ _ _ _ _ _ _ _ _ _ _ _ _ _ _ _ _ _ _ m0 m1 m2 m3 (by exact s0.below L0 (Nat.le_refl _)) (by exact s1.below L0 (Nat.le_refl _)) (by exact s2.below L0 (Nat.le_refl _)) (by exact s3.below L0 (Nat.le_refl _)) (by exact t0.below L0 (Nat.le_refl _)) (by exact t1.below L0 (Nat.le_refl _)) (by exact t2.below L0 (Nat.le_refl _)) (by exact t3.below L0 (Nat.le_refl _))).mono ?_
  rintro e w3 ⟨rfl, hb⟩
  replace L0 := L0.trans (hb.mono L0.size)
  clear hb A0 D0
  go_wp2
  go_ret
  exact ⟨rfl, L0⟩

end Go.Proofs.Ytccldjodijdciaa
