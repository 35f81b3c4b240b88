/-
  The walk of the law FnExactCmdOk.
-/
import Derived.Test.YtnaeomppceblpaaCSz
import Derived.Test.YtnaeomppceblpaaCTs
import Derived.Test.YtnaeomppceblpaaCEq
import Derived.Test.YtnaeomppceblpaaCCo
import Derived.Outline
import Derived.Deep.RegionWith
namespace Go.Proofs.Ytnaeomppceblpaa.cmdOk
open Go.RowKit

set_option maxHeartbeats 4000000 in
theorem walk (c : Cm) (a0 a1 a2 a3 aA aB : Option Addr) (c0 c1 c2 c3 cA cB : Nat) (w : World) (V : CVal w 0 w.heap.size c a0 a1 a2 a3 aA aB) :
    Calls Try.prog 9 #[.agg #[.int .i64 c.k, .int .i64 c.x, .int .i64 c.y, .bool c.q, .slice a0 c.l0.length c0, .slice a1 c.l1.length c1, .slice a2 c.l2.length c2, .slice a3 c.l3.length c3, .slice aA c.A.length cA, .slice aB c.B.length cB]] w fun e w' => e = .returned (.bool true) ∧ Below w.heap.size w w' := by
  have A0 := B10.new w (.int .i64 c.k) (.int .i64 c.x) (.int .i64 c.y) (.bool c.q) (.slice a0 c.l0.length c0) (.slice a1 c.l1.length c1) (.slice a2 c.l2.length c2) (.slice a3 c.l3.length c3) (.slice aA c.A.length cA) (.slice aB c.B.length cB) 54
  have L0 : Below w.heap.size w (w.alloc (.cells #[.int .i64 c.k, .int .i64 c.x, .int .i64 c.y, .bool c.q, .slice a0 c.l0.length c0, .slice a1 c.l1.length c1, .slice a2 c.l2.length c2, .slice a3 c.l3.length c3, .slice aA c.A.length cA, .slice aB c.B.length cB] 54)) := (Below.refl _ _).alloc (Nat.le_refl _) _
  go_enter Try.func9, Try.ntmps9
  go_wp2_with fail
  refine (szCmd_of (szCmdS_any _) (szCmdS_any _) a0 a1 a2 a3 aA aB c0 c1 c2 c3 cA cB _ _ _ _ (by exact V.below L0 (Nat.le_refl _)) (by exact L0.size) (by omega) (by omega)).mono ?_
  rintro e w1 ⟨rfl, hb⟩
  have A1 := A0.below hb A0.lt
  have L1 := L0.trans (hb.mono L0.size)
  clear hb A0 L0
  have x0 := A1.c0
  have x1 := A1.c1
  have x2 := A1.c2
  have x3 := A1.c3
  have x4 := A1.c4
  have x5 := A1.c5
  have x6 := A1.c6
  have x7 := A1.c7
  have x8 := A1.c8
  have x9 := A1.c9
  by_cases hT : (1048576 : Int) < c.cnt
  · rw [szI_neg hT]
    go_wp2
    go_ret
    exact ⟨rfl, L1⟩
  have hs : c.cnt ≤ 1048576 := by omega
  obtain ⟨left, hl, hl0⟩ : ∃ left : Int, szI c.cnt 1048576 = left ∧ ¬ left < 0 := ⟨_, rfl, by rw [szI_pos (by omega)]; omega⟩
  rw [hl]
  clear hl hT
  go_wp2_with fail
  clear x0 x1 x2 x3 x4 x5 x6 x7 x8 x9
  refine (toCmd_of (toCmdS_any _) (toCmdS_any _) a0 a1 a2 a3 aA aB c0 c1 c2 c3 cA cB _ _ _ (by exact V.below L1 (Nat.le_refl _)) (by exact L1.size) hs).mono ?_
  rintro e w2 ⟨b0, b1, b2, b3, bA, m, bB, rfl, O, hb⟩
  have A2 := A1.below hb A1.lt
  have L2 := L1.trans (hb.mono L1.size)
  clear hb A1 L1
  go_wp2_with fail
  refine (sCmdOk_any c _ _ _ _ _ _ _ _ _ _ _ _ _ _ _ (O.val hs) (Nat.le_refl _) hs).mono ?_
  rintro e w3 ⟨rfl, hb⟩
  have A3 := A2.below hb A2.lt
  have L3 := L2.trans (hb.mono L2.size)
  clear hb A2 L2 O
  have x0 := A3.c0
  have x1 := A3.c1
  have x2 := A3.c2
  have x3 := A3.c3
  have x4 := A3.c4
  have x5 := A3.c5
  have x6 := A3.c6
  have x7 := A3.c7
  have x8 := A3.c8
  have x9 := A3.c9
  go_wp2_with fail
  clear x0 x1 x2 x3 x4 x5 x6 x7 x8 x9
  refine (toCmd_of (toCmdS_any _) (toCmdS_any _) a0 a1 a2 a3 aA aB c0 c1 c2 c3 cA cB _ _ _ (by exact V.below L3 (Nat.le_refl _)) (by exact L3.size) hs).mono ?_
  rintro e w4 ⟨d0, d1, d2, d3, dA, m', dB, rfl, O, hb⟩
  have A4 := A3.below hb A3.lt
  have L4 := L3.trans (hb.mono L3.size)
  have X4 := B10.new w4 (.int .i64 c.k) (.int .i64 c.x) (.int .i64 c.y) (.bool c.q) (.slice (some ⟨d0, 0, none⟩) c.l0.length c.l0.length) (.slice (some ⟨d1, 0, none⟩) c.l1.length c.l1.length) (.slice (some ⟨d2, 0, none⟩) c.l2.length c.l2.length) (.slice (some ⟨d3, 0, none⟩) c.l3.length c.l3.length) (.slice (some ⟨dA, 0, none⟩) c.A.length c.A.length) (.slice (some ⟨dB, 0, none⟩) c.B.length c.B.length) 59
  have O4 := O.val hs
  have M4 : Below w4.heap.size w4 (w4.alloc (.cells #[.int .i64 c.k, .int .i64 c.x, .int .i64 c.y, .bool c.q, .slice (some ⟨d0, 0, none⟩) c.l0.length c.l0.length, .slice (some ⟨d1, 0, none⟩) c.l1.length c.l1.length, .slice (some ⟨d2, 0, none⟩) c.l2.length c.l2.length, .slice (some ⟨d3, 0, none⟩) c.l3.length c.l3.length, .slice (some ⟨dA, 0, none⟩) c.A.length c.A.length, .slice (some ⟨dB, 0, none⟩) c.B.length c.B.length] 59)) := (Below.refl _ _).alloc (Nat.le_refl _) _
  clear hb A3 L3 O
  go_wp2_with fail
  refine (iCmdOk_any c _ _ _ _ _ _ _ _ _ _ _ _ _ _ _ (by exact O4.below M4 (Nat.le_refl _)) (by exact M4.size) hs).mono ?_
  rintro e w5 ⟨rfl, hb⟩
  have X5 := X4.below hb X4.lt
  have A5 := (A4.alloc (.cells #[.int .i64 c.k, .int .i64 c.x, .int .i64 c.y, .bool c.q, .slice (some ⟨d0, 0, none⟩) c.l0.length c.l0.length, .slice (some ⟨d1, 0, none⟩) c.l1.length c.l1.length, .slice (some ⟨d2, 0, none⟩) c.l2.length c.l2.length, .slice (some ⟨d3, 0, none⟩) c.l3.length c.l3.length, .slice (some ⟨dA, 0, none⟩) c.A.length c.A.length, .slice (some ⟨dB, 0, none⟩) c.B.length c.B.length] 59)).below hb (A4.alloc _).lt
  have M5 := M4.trans (hb.mono M4.size)
  have L5 := L4.trans (M5.mono L4.size)
  have O5 := O4.below M5 (Nat.le_refl _)
  have s5 := M5.size
  clear hb X4 M4 A4 O4 L4 M5
  generalize cmdV c = g
  generalize w4.heap.size = N4 at X5 s5 O5
  have x0 := A5.c0
  have x1 := A5.c1
  have x2 := A5.c2
  have x3 := A5.c3
  have x4 := A5.c4
  have x5 := A5.c5
  have x6 := A5.c6
  have x7 := A5.c7
  have x8 := A5.c8
  have x9 := A5.c9
  have y0 := X5.c0
  have y1 := X5.c1
  have y2 := X5.c2
  have y3 := X5.c3
  have y4 := X5.c4
  have y5 := X5.c5
  have y6 := X5.c6
  have y7 := X5.c7
  have y8 := X5.c8
  have y9 := X5.c9
  have D0 : Below w5.heap.size w5 w5.drew := (Below.refl _ _).drew
  have L5d := L5.trans (D0.mono L5.size)
  have X5d := X5.below D0 X5.lt
  have O5d := O5.below D0 s5
  go_wp2_with fail
  go_region_with (first
    | (go_at_call 46; refine (toCmd_of (toCmdS_any _) (toCmdS_any _) a0 a1 a2 a3 aA aB c0 c1 c2 c3 cA cB _ _ _ (V.below L5d (Nat.le_refl _)) L5d.size hs).mono ?_; rintro e w6 ⟨f0, f1, f2, f3, fA, m'', fB, rfl, O6, hb6⟩; have z0 := (X5d.below hb6 X5d.lt).c0; have z1 := (X5d.below hb6 X5d.lt).c1; have z2 := (X5d.below hb6 X5d.lt).c2; have z3 := (X5d.below hb6 X5d.lt).c3; have z4 := (X5d.below hb6 X5d.lt).c4; have z5 := (X5d.below hb6 X5d.lt).c5; have z6 := (X5d.below hb6 X5d.lt).c6; have z7 := (X5d.below hb6 X5d.lt).c7; have z8 := (X5d.below hb6 X5d.lt).c8; have z9 := (X5d.below hb6 X5d.lt).c9)
    | (go_at_call 48; refine (eqCmd_of (eqCmdS_any _) (eqCmdS_any _) _ _ _ _ _ _ _ _ _ _ _ _ _ _ _ _ _ _ _ _ _ _ _ _ _ _ _ _ _ (O5d.below hb6 s5) (O6.val hs) (Nat.le_trans s5 hb6.size) (Nat.le_refl _) hs).mono ?_; rintro e w7 ⟨rfl, hb7⟩))
  all_goals
    have L7 : Below w.heap.size w w7 := (L5d.trans (hb6.mono L5d.size)).trans (hb7.mono (L5d.trans (hb6.mono L5d.size)).size)
    go_wp2
    go_ret
    exact ⟨rfl, L7⟩

end Go.Proofs.Ytnaeomppceblpaa.cmdOk
