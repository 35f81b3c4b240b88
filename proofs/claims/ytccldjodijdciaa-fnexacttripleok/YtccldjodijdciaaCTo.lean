/-
  The contracts of laws.toCmd and laws.toCmdS: a copy of the commands in new blocks.
-/
import Derived.Test.YtccldjodijdciaaChecked
import Derived.Test.YtccldjodijdciaaTo
import Derived.Test.YtccldjodijdciaaCOw
import Derived.Outline
namespace Go.Proofs.Ytccldjodijdciaa
open Go.RowKit

/-- What toCmdS leaves of one list. -/
def ToS (l : List Cm) : Prop := ∀ (w : World) (lo hi : Nat) (a : Option Addr) (cap : Nat), CRow w lo hi a l → hi ≤ w.heap.size → cnts l ≤ 1048576 →
    Calls Try.prog 52 #[.slice a l.length cap] w fun e w' => ∃ b, e = .returned (.slice (some ⟨b, 0, none⟩) l.length l.length) ∧ w.heap.size ≤ b ∧ b < w'.heap.size ∧ OsAt w' (b + 1) w'.heap.size b 0 l ∧ Below w.heap.size w w'

theorem PIn.prow {w w' : World} {lo hi : Nat} {a : Option Addr} {l : List (Int × Int)} (h : PIn w lo hi a l) (hb : Below w.heap.size w w') (hh : hi ≤ w.heap.size) : PRow w' a l := (h.row hh).below hb (Nat.le_refl _)

set_option maxHeartbeats 2000000 in
theorem toCmd_of {c : Cm} (HA : ToS c.A) (HB : ToS c.B) (a0 a1 a2 a3 aA aB : Option Addr) (c0 c1 c2 c3 cA cB : Nat) (w : World) (lo hi : Nat) (V : CVal w lo hi c a0 a1 a2 a3 aA aB) (hh : hi ≤ w.heap.size) (hc : c.cnt ≤ 1048576) :
    Calls Try.prog 47 #[.agg #[.int .i64 c.k, .int .i64 c.x, .int .i64 c.y, .bool c.q, .slice a0 c.l0.length c0, .slice a1 c.l1.length c1, .slice a2 c.l2.length c2, .slice a3 c.l3.length c3, .slice aA c.A.length cA, .slice aB c.B.length cB]] w fun e w' => ∃ b0 b1 b2 b3 bA m bB, e = .returned (.agg #[.int .i64 c.k, .int .i64 c.x, .int .i64 c.y, .bool c.q, .slice (some ⟨b0, 0, none⟩) c.l0.length c.l0.length, .slice (some ⟨b1, 0, none⟩) c.l1.length c.l1.length, .slice (some ⟨b2, 0, none⟩) c.l2.length c.l2.length, .slice (some ⟨b3, 0, none⟩) c.l3.length c.l3.length, .slice (some ⟨bA, 0, none⟩) c.A.length c.A.length, .slice (some ⟨bB, 0, none⟩) c.B.length c.B.length]) ∧
      OVal w' w.heap.size w'.heap.size c b0 b1 b2 b3 bA m bB ∧ Below w.heap.size w w' := by
  have F := Fit.of hc
  have A0 := (((B10.new w (.int .i64 c.k) (.int .i64 c.x) (.int .i64 c.y) (.bool c.q) (.slice a0 c.l0.length c0) (.slice a1 c.l1.length c1) (.slice a2 c.l2.length c2) (.slice a3 c.l3.length c3) (.slice aA c.A.length cA) (.slice aB c.B.length cB) 54).alloc (.cells #[.int .i64 0, .int .i64 0, .int .i64 0, .bool false, .slice none 0 0, .slice none 0 0, .slice none 0 0, .slice none 0 0, .slice none 0 0, .slice none 0 0] 59)).alloc (.cells #[.int .i64 c.k, .int .i64 c.x, .int .i64 c.y, .bool c.q, .slice none 0 0, .slice none 0 0, .slice none 0 0, .slice none 0 0, .slice none 0 0, .slice none 0 0] 59))
  have R0 := (B10.new (w.alloc (.cells #[.int .i64 c.k, .int .i64 c.x, .int .i64 c.y, .bool c.q, .slice a0 c.l0.length c0, .slice a1 c.l1.length c1, .slice a2 c.l2.length c2, .slice a3 c.l3.length c3, .slice aA c.A.length cA, .slice aB c.B.length cB] 54)) (.int .i64 0) (.int .i64 0) (.int .i64 0) (.bool false) (.slice none 0 0) (.slice none 0 0) (.slice none 0 0) (.slice none 0 0) (.slice none 0 0) (.slice none 0 0) 59).alloc (.cells #[.int .i64 c.k, .int .i64 c.x, .int .i64 c.y, .bool c.q, .slice none 0 0, .slice none 0 0, .slice none 0 0, .slice none 0 0, .slice none 0 0, .slice none 0 0] 59)
  have O0 := B10.new ((w.alloc (.cells #[.int .i64 c.k, .int .i64 c.x, .int .i64 c.y, .bool c.q, .slice a0 c.l0.length c0, .slice a1 c.l1.length c1, .slice a2 c.l2.length c2, .slice a3 c.l3.length c3, .slice aA c.A.length cA, .slice aB c.B.length cB] 54)).alloc (.cells #[.int .i64 0, .int .i64 0, .int .i64 0, .bool false, .slice none 0 0, .slice none 0 0, .slice none 0 0, .slice none 0 0, .slice none 0 0, .slice none 0 0] 59)) (.int .i64 c.k) (.int .i64 c.x) (.int .i64 c.y) (.bool c.q) (.slice none 0 0) (.slice none 0 0) (.slice none 0 0) (.slice none 0 0) (.slice none 0 0) (.slice none 0 0) 59
  have L0 : Below w.heap.size w (((w.alloc (.cells #[.int .i64 c.k, .int .i64 c.x, .int .i64 c.y, .bool c.q, .slice a0 c.l0.length c0, .slice a1 c.l1.length c1, .slice a2 c.l2.length c2, .slice a3 c.l3.length c3, .slice aA c.A.length cA, .slice aB c.B.length cB] 54)).alloc (.cells #[.int .i64 0, .int .i64 0, .int .i64 0, .bool false, .slice none 0 0, .slice none 0 0, .slice none 0 0, .slice none 0 0, .slice none 0 0, .slice none 0 0] 59)).alloc (.cells #[.int .i64 c.k, .int .i64 c.x, .int .i64 c.y, .bool c.q, .slice none 0 0, .slice none 0 0, .slice none 0 0, .slice none 0 0, .slice none 0 0, .slice none 0 0] 59)) := (((Below.refl _ _).alloc (Nat.le_refl _) _).alloc (by simp) _).alloc (by simp; omega) _
  simp only [World.size_alloc] at A0 R0 O0
  go_enter Try.func47, Try.ntmps47
  go_wp2_with fail
  refine (toAsn_any _ _ _ _ _ _ _ _ _ _ _ _ _ F.n0 F.n1 F.n2 F.n3 (by exact V.p0.prow L0 hh) (by exact V.p1.prow L0 hh) (by exact V.p2.prow L0 hh) (by exact V.p3.prow L0 hh)).mono ?_
  rintro e w1 ⟨b0, b1, b2, b3, rfl, g0, g1, g2, g3, o0, o1, o2, o3, hb⟩
  have A1 := A0.below hb A0.lt
  have R1 := R0.below hb R0.lt
  have O1 := O0.below hb O0.lt
  have L1 := L0.trans (hb.mono L0.size)
  simp only [World.size_alloc] at g0
  clear hb A0 R0 O0 L0
  have h3 := o3.1
  have x8 := A1.c8
  have y4 := O1.c4; have y5 := O1.c5; have y6 := O1.c6; have y7 := O1.c7
  have z4 := O1.f4; have z5 := O1.f5; have z6 := O1.f6; have z7 := O1.f7
  go_wp2_with fail
  clear x8 y4 y5 y6 y7 z4 z5 z6 z7
  have L2 : Below w.heap.size w ((((w1.setCell ⟨w.heap.size + 1 + 1, 4, none⟩ (.slice (some ⟨b0, 0, none⟩) c.l0.length c.l0.length)).setCell ⟨w.heap.size + 1 + 1, 5, none⟩ (.slice (some ⟨b1, 0, none⟩) c.l1.length c.l1.length)).setCell ⟨w.heap.size + 1 + 1, 6, none⟩ (.slice (some ⟨b2, 0, none⟩) c.l2.length c.l2.length)).setCell ⟨w.heap.size + 1 + 1, 7, none⟩ (.slice (some ⟨b3, 0, none⟩) c.l3.length c.l3.length)) :=
    Below.set (Below.set (Below.set (Below.set L1 _ _ (by omega) _) _ _ (by omega) _) _ _ (by omega) _) _ _ (by omega) _
  have A2 := (((A1.other (w.heap.size + 1 + 1) 4 (by omega) (.slice (some ⟨b0, 0, none⟩) c.l0.length c.l0.length)).other (w.heap.size + 1 + 1) 5 (by omega) (.slice (some ⟨b1, 0, none⟩) c.l1.length c.l1.length)).other (w.heap.size + 1 + 1) 6 (by omega) (.slice (some ⟨b2, 0, none⟩) c.l2.length c.l2.length)).other (w.heap.size + 1 + 1) 7 (by omega) (.slice (some ⟨b3, 0, none⟩) c.l3.length c.l3.length)
  have R2 := (((R1.other (w.heap.size + 1 + 1) 4 (by omega) (.slice (some ⟨b0, 0, none⟩) c.l0.length c.l0.length)).other (w.heap.size + 1 + 1) 5 (by omega) (.slice (some ⟨b1, 0, none⟩) c.l1.length c.l1.length)).other (w.heap.size + 1 + 1) 6 (by omega) (.slice (some ⟨b2, 0, none⟩) c.l2.length c.l2.length)).other (w.heap.size + 1 + 1) 7 (by omega) (.slice (some ⟨b3, 0, none⟩) c.l3.length c.l3.length)
  have O2 := (((O1.set4 (.slice (some ⟨b0, 0, none⟩) c.l0.length c.l0.length)).set5 (.slice (some ⟨b1, 0, none⟩) c.l1.length c.l1.length)).set6 (.slice (some ⟨b2, 0, none⟩) c.l2.length c.l2.length)).set7 (.slice (some ⟨b3, 0, none⟩) c.l3.length c.l3.length)
  replace o0 := (((o0.other (w.heap.size + 1 + 1) 4 (by omega) (.slice (some ⟨b0, 0, none⟩) c.l0.length c.l0.length)).other (w.heap.size + 1 + 1) 5 (by omega) (.slice (some ⟨b1, 0, none⟩) c.l1.length c.l1.length)).other (w.heap.size + 1 + 1) 6 (by omega) (.slice (some ⟨b2, 0, none⟩) c.l2.length c.l2.length)).other (w.heap.size + 1 + 1) 7 (by omega) (.slice (some ⟨b3, 0, none⟩) c.l3.length c.l3.length)
  replace o1 := (((o1.other (w.heap.size + 1 + 1) 4 (by omega) (.slice (some ⟨b0, 0, none⟩) c.l0.length c.l0.length)).other (w.heap.size + 1 + 1) 5 (by omega) (.slice (some ⟨b1, 0, none⟩) c.l1.length c.l1.length)).other (w.heap.size + 1 + 1) 6 (by omega) (.slice (some ⟨b2, 0, none⟩) c.l2.length c.l2.length)).other (w.heap.size + 1 + 1) 7 (by omega) (.slice (some ⟨b3, 0, none⟩) c.l3.length c.l3.length)
  replace o2 := (((o2.other (w.heap.size + 1 + 1) 4 (by omega) (.slice (some ⟨b0, 0, none⟩) c.l0.length c.l0.length)).other (w.heap.size + 1 + 1) 5 (by omega) (.slice (some ⟨b1, 0, none⟩) c.l1.length c.l1.length)).other (w.heap.size + 1 + 1) 6 (by omega) (.slice (some ⟨b2, 0, none⟩) c.l2.length c.l2.length)).other (w.heap.size + 1 + 1) 7 (by omega) (.slice (some ⟨b3, 0, none⟩) c.l3.length c.l3.length)
  replace o3 := (((o3.other (w.heap.size + 1 + 1) 4 (by omega) (.slice (some ⟨b0, 0, none⟩) c.l0.length c.l0.length)).other (w.heap.size + 1 + 1) 5 (by omega) (.slice (some ⟨b1, 0, none⟩) c.l1.length c.l1.length)).other (w.heap.size + 1 + 1) 6 (by omega) (.slice (some ⟨b2, 0, none⟩) c.l2.length c.l2.length)).other (w.heap.size + 1 + 1) 7 (by omega) (.slice (some ⟨b3, 0, none⟩) c.l3.length c.l3.length)
  clear A1 R1 O1 L1
  refine (HA _ _ _ _ _ (by exact V.rA.below L2 hh) (by exact Nat.le_trans hh L2.size) F.nA).mono ?_
  rintro e w2 ⟨bA, rfl, gA, hA, oA, hb⟩
  have L3 := L2.trans (hb.mono L2.size)
  replace o0 := o0.below hb o0.1; replace o1 := o1.below hb o1.1; replace o2 := o2.below hb o2.1; replace o3 := o3.below hb o3.1
  have A3 := A2.below hb A2.lt; have R3 := R2.below hb R2.lt; have O3 := O2.below hb O2.lt
  simp only [World.size_setCell] at gA
  clear hb A2 R2 O2 L2
  have x9 := A3.c9
  have y8 := O3.c8
  have z8 := O3.f8
  go_wp2_with fail
  clear x9 y8 z8
  have L4 : Below w.heap.size w (w2.setCell ⟨w.heap.size + 1 + 1, 8, none⟩ (.slice (some ⟨bA, 0, none⟩) c.A.length c.A.length)) := Below.set L3 _ _ (by omega) _
  have R4 := R3.other (w.heap.size + 1 + 1) 8 (by omega) (.slice (some ⟨bA, 0, none⟩) c.A.length c.A.length)
  have O4 := O3.set8 (.slice (some ⟨bA, 0, none⟩) c.A.length c.A.length)
  replace o0 := o0.other (w.heap.size + 1 + 1) 8 (by omega) (.slice (some ⟨bA, 0, none⟩) c.A.length c.A.length)
  replace o1 := o1.other (w.heap.size + 1 + 1) 8 (by omega) (.slice (some ⟨bA, 0, none⟩) c.A.length c.A.length)
  replace o2 := o2.other (w.heap.size + 1 + 1) 8 (by omega) (.slice (some ⟨bA, 0, none⟩) c.A.length c.A.length)
  replace o3 := o3.other (w.heap.size + 1 + 1) 8 (by omega) (.slice (some ⟨bA, 0, none⟩) c.A.length c.A.length)
  have E4 : Eqf (bA) w2.heap.size w2 (w2.setCell ⟨w.heap.size + 1 + 1, 8, none⟩ (.slice (some ⟨bA, 0, none⟩) c.A.length c.A.length)) := (Eqf.refl _ _ _).set _ _ _ (by omega)
  have oA4 := oA.keep _ _ _ _ _ (E4.mono (by omega) (Nat.le_refl _)) (fun j _ _ => (E4.2 bA (Nat.le_refl _) hA).1 j) (fun j _ _ => (E4.2 bA (Nat.le_refl _) hA).2 j)
  clear E4 oA R3 O3 L3 A3
  refine (HB _ _ _ _ _ (by exact V.rB.below L4 hh) (by exact Nat.le_trans hh L4.size) F.nB).mono ?_
  rintro e w3 ⟨bB, rfl, gB, hB, oB, hb⟩
  have L5 := L4.trans (hb.mono L4.size)
  replace o0 := o0.below hb o0.1; replace o1 := o1.below hb o1.1; replace o2 := o2.below hb o2.1; replace o3 := o3.below hb o3.1
  have R5 := R4.below hb R4.lt; have O5 := O4.below hb O4.lt
  simp only [World.size_setCell] at gB
  have hA' : bA < (w2.setCell ⟨w.heap.size + 1 + 1, 8, none⟩ (.slice (some ⟨bA, 0, none⟩) c.A.length c.A.length)).heap.size := by simpa using hA
  have E5 : Eqf bA w2.heap.size (w2.setCell ⟨w.heap.size + 1 + 1, 8, none⟩ (.slice (some ⟨bA, 0, none⟩) c.A.length c.A.length)) w3 := Eqf.of_below hb (by simp)
  have oA5 := oA4.keep _ _ _ _ _ (E5.mono (by omega) (Nat.le_refl _)) (fun j _ _ => (E5.2 bA (Nat.le_refl _) hA).1 j) (fun j _ _ => (E5.2 bA (Nat.le_refl _) hA).2 j)
  clear hb R4 O4 L4 oA4 E5 hA'
  have y := O5
  have r := R5
  have y0 := O5.c0; have y1 := O5.c1; have y2 := O5.c2; have y3 := O5.c3; have y4 := O5.c4; have y5 := O5.c5; have y6 := O5.c6; have y7 := O5.c7; have y8 := O5.c8; have y9 := O5.c9
  have z9 := O5.f9
  have r0 := R5.c0; have r1 := R5.c1; have r2 := R5.c2; have r3 := R5.c3; have r4 := R5.c4; have r5 := R5.c5; have r6 := R5.c6; have r7 := R5.c7; have r8 := R5.c8; have r9 := R5.c9
  have s0 := R5.f0; have s1 := R5.f1; have s2 := R5.f2; have s3 := R5.f3; have s4 := R5.f4; have s5 := R5.f5; have s6 := R5.f6; have s7 := R5.f7; have s8 := R5.f8; have s9 := R5.f9
  clear y r
  have l1 := R5.lt; have l2 := O5.lt
  go_wp2
  have R6 := ((((((((((R5.other (w.heap.size + 1 + 1) 9 (by omega) (.slice (some ⟨bB, 0, none⟩) c.B.length c.B.length)).set0 (.int .i64 c.k)).set1 (.int .i64 c.x)).set2 (.int .i64 c.y)).set3 (.bool c.q)).set4 (.slice (some ⟨b0, 0, none⟩) c.l0.length c.l0.length)).set5 (.slice (some ⟨b1, 0, none⟩) c.l1.length c.l1.length)).set6 (.slice (some ⟨b2, 0, none⟩) c.l2.length c.l2.length)).set7 (.slice (some ⟨b3, 0, none⟩) c.l3.length c.l3.length)).set8 (.slice (some ⟨bA, 0, none⟩) c.A.length c.A.length)).set9 (.slice (some ⟨bB, 0, none⟩) c.B.length c.B.length)
  have t0 := R6.c0; have t1 := R6.c1; have t2 := R6.c2; have t3 := R6.c3; have t4 := R6.c4; have t5 := R6.c5; have t6 := R6.c6; have t7 := R6.c7; have t8 := R6.c8; have t9 := R6.c9
  clear y0 y1 y2 y3 y4 y5 y6 y7 y8 y9 r0 r1 r2 r3 r4 r5 r6 r7 r8 r9 s0 s1 s2 s3 s4 s5 s6 s7 s8 s9 z9
  refine bodyPost_ret (v := .agg #[.int .i64 c.k, .int .i64 c.x, .int .i64 c.y, .bool c.q, .slice (some ⟨b0, 0, none⟩) c.l0.length c.l0.length, .slice (some ⟨b1, 0, none⟩) c.l1.length c.l1.length, .slice (some ⟨b2, 0, none⟩) c.l2.length c.l2.length, .slice (some ⟨b3, 0, none⟩) c.l3.length c.l3.length, .slice (some ⟨bA, 0, none⟩) c.A.length c.A.length, .slice (some ⟨bB, 0, none⟩) c.B.length c.B.length]) ?_ rfl ⟨b0, b1, b2, b3, bA, w2.heap.size, bB, rfl, ?_, ?_⟩
  · simp [results, Try.results47, go_sem, t0, t1, t2, t3, t4, t5, t6, t7, t8, t9]
  · have V3 : OVal w3 w.heap.size w3.heap.size c b0 b1 b2 b3 bA w2.heap.size bB := ⟨by omega, g1, g2, g3, by omega, hA, gB, hB, o0, o1, o2, o3, oA5, oB⟩
    have V4 : OVal w3 (w.heap.size + 1 + 1 + 1) w3.heap.size c b0 b1 b2 b3 bA w2.heap.size bB := { V3 with g0 := by omega }
    have E : Eqf (w.heap.size + 1 + 1 + 1) w3.heap.size w3 _ := (((((((((((Eqf.refl (w.heap.size + 1 + 1 + 1) w3.heap.size w3).set (w.heap.size + 1 + 1) 9 (.slice (some ⟨bB, 0, none⟩) c.B.length c.B.length) (by omega)).set (w.heap.size + 1) 0 (.int .i64 c.k) (by omega)).set (w.heap.size + 1) 1 (.int .i64 c.x) (by omega)).set (w.heap.size + 1) 2 (.int .i64 c.y) (by omega)).set (w.heap.size + 1) 3 (.bool c.q) (by omega)).set (w.heap.size + 1) 4 (.slice (some ⟨b0, 0, none⟩) c.l0.length c.l0.length) (by omega)).set (w.heap.size + 1) 5 (.slice (some ⟨b1, 0, none⟩) c.l1.length c.l1.length) (by omega)).set (w.heap.size + 1) 6 (.slice (some ⟨b2, 0, none⟩) c.l2.length c.l2.length) (by omega)).set (w.heap.size + 1) 7 (.slice (some ⟨b3, 0, none⟩) c.l3.length c.l3.length) (by omega)).set (w.heap.size + 1) 8 (.slice (some ⟨bA, 0, none⟩) c.A.length c.A.length) (by omega)).set (w.heap.size + 1) 9 (.slice (some ⟨bB, 0, none⟩) c.B.length c.B.length) (by omega)
    have V5 := V4.keep E
    simp only [World.size_setCell]
    exact { V5 with g0 := by omega }
  · exact Below.set (Below.set (Below.set (Below.set (Below.set (Below.set (Below.set (Below.set (Below.set (Below.set (Below.set L5 _ _ (by omega) _) _ _ (by omega) _) _ _ (by omega) _) _ _ (by omega) _) _ _ (by omega) _) _ _ (by omega) _) _ _ (by omega) _) _ _ (by omega) _) _ _ (by omega) _) _ _ (by omega) _) _ _ (by omega) _

end Go.Proofs.Ytccldjodijdciaa
