/-
  The walk of the law FnExactGuard.
-/
import Derived.Test.YtnaeomppceblpaaCSz
import Derived.Test.YtnaeomppceblpaaCTs
import Derived.Test.YtnaeomppceblpaaCEq
import Derived.Test.YtnaeomppceblpaaCGf
import Derived.Test.YtnaeomppceblpaaSMk
import Derived.Outline
import Derived.Deep.RegionWith
import Derived.Deep.DeepCutAuto
namespace Go.Proofs.Ytnaeomppceblpaa.guard
open Go.RowKit

theorem inTo {w : World} {b : Nat} {l : List Int} (h : S.OwnI w b l.length l l.length) : S.IntIn w b (b + 1) (some ⟨b, 0, none⟩) l.length l := S.IntIn.ofOwn h rfl (Nat.le_refl _) (Nat.lt_succ_self _)

set_option maxRecDepth 20000 in
set_option maxHeartbeats 8000000 in
theorem walk (e0 e1 : Option Addr) (g0 g1 : Nat) (t h : List Int) (c : Cm) (a0 a1 a2 a3 aA aB : Option Addr) (c0 c1 c2 c3 cA cB : Nat) (w : World) (m0 : t.length ≤ maxLen) (m1 : h.length ≤ maxLen) (r0 : S.IRow w e0 t) (r1 : S.IRow w e1 h) (V : CVal w 0 w.heap.size c a0 a1 a2 a3 aA aB) :
    Calls Try.prog 20 #[.agg #[.slice e0 t.length g0, .slice e1 h.length g1], .agg #[.int .i64 c.k, .int .i64 c.x, .int .i64 c.y, .bool c.q, .slice a0 c.l0.length c0, .slice a1 c.l1.length c1, .slice a2 c.l2.length c2, .slice a3 c.l3.length c3, .slice aA c.A.length cA, .slice aB c.B.length cB]] w fun e w' => e = .returned (.bool true) ∧ Below w.heap.size w w' := by
  have E0 := (S.Box.new w (.slice e0 t.length g0) (.slice e1 h.length g1) 40).alloc (.cells #[.int .i64 c.k, .int .i64 c.x, .int .i64 c.y, .bool c.q, .slice a0 c.l0.length c0, .slice a1 c.l1.length c1, .slice a2 c.l2.length c2, .slice a3 c.l3.length c3, .slice aA c.A.length cA, .slice aB c.B.length cB] 54)
  have A0 := B10.new (w.alloc (.cells #[.slice e0 t.length g0, .slice e1 h.length g1] 40)) (.int .i64 c.k) (.int .i64 c.x) (.int .i64 c.y) (.bool c.q) (.slice a0 c.l0.length c0) (.slice a1 c.l1.length c1) (.slice a2 c.l2.length c2) (.slice a3 c.l3.length c3) (.slice aA c.A.length cA) (.slice aB c.B.length cB) 54
  simp only [World.size_alloc] at A0
  have L0 : Below w.heap.size w ((w.alloc (.cells #[.slice e0 t.length g0, .slice e1 h.length g1] 40)).alloc (.cells #[.int .i64 c.k, .int .i64 c.x, .int .i64 c.y, .bool c.q, .slice a0 c.l0.length c0, .slice a1 c.l1.length c1, .slice a2 c.l2.length c2, .slice a3 c.l3.length c3, .slice aA c.A.length cA, .slice aB c.B.length cB] 54)) := ((Below.refl _ _).alloc (Nat.le_refl _) _).alloc (by simp) _
  go_enter Try.func20, Try.ntmps20
  go_wp2_with fail
  generalize ((w.alloc (.cells #[.slice e0 t.length g0, .slice e1 h.length g1] 40)).alloc (.cells #[.int .i64 c.k, .int .i64 c.x, .int .i64 c.y, .bool c.q, .slice a0 c.l0.length c0, .slice a1 c.l1.length c1, .slice a2 c.l2.length c2, .slice a3 c.l3.length c3, .slice aA c.A.length cA, .slice aB c.B.length cB] 54)) = W0 at *
  refine (S.szState_any _ _ _ _ _ _ _ _ m0 m1 (by omega) (by omega)).mono ?_
  rintro e w1 ⟨rfl, hb⟩
  have E1 := E0.keep hb; have A1 := A0.below hb A0.lt; have L1 := L0.trans (hb.mono L0.size)
  clear hb E0 A0 L0
  by_cases hT : 1048576 < t.length + h.length
  · rw [show S.szI ((t.length : Int) + h.length) 1048576 = -1 by unfold S.szI; rw [if_pos (by omega)]]
    go_wp2
    go_ret
    exact ⟨rfl, L1⟩
  have n0 : t.length ≤ 1048576 := by omega
  have n1 : h.length ≤ 1048576 := by omega
  obtain ⟨left, hl, hl0, hl1⟩ : ∃ left : Int, S.szI ((t.length : Int) + h.length) 1048576 = left ∧ ¬ left < 0 ∧ left ≤ 1048576 := ⟨_, rfl, by unfold S.szI; rw [if_neg (by omega)]; omega, by unfold S.szI; rw [if_neg (by omega)]; omega⟩
  rw [hl]
  clear hl hT
  have x0 := A1.c0
  have x1 := A1.c1
  have x2 := A1.c2
  have x3 := A1.c3
  have x4 := A1.c4
  have x5 := A1.c5
  have x6 := A1.c6
  have x7 := A1.c7
  have x8 := A1.c8
  have x9 := A1.c9
  go_wp2_with fail
  clear x0 x1 x2 x3 x4 x5 x6 x7 x8 x9
  refine (szCmd_of (szCmdS_any _) (szCmdS_any _) a0 a1 a2 a3 aA aB c0 c1 c2 c3 cA cB _ _ _ _ (by exact V.below L1 (Nat.le_refl _)) (by exact L1.size) (by omega) hl1).mono ?_
  rintro e w2 ⟨rfl, hb⟩
  have E2 := E1.keep hb; have A2 := A1.below hb A1.lt; have L2 := L1.trans (hb.mono L1.size)
  clear hb E1 A1 L1
  by_cases hT : left < (c.cnt : Int)
  · rw [szI_neg hT]
    go_wp2
    go_ret
    exact ⟨rfl, L2⟩
  have hs : c.cnt ≤ 1048576 := by omega
  obtain ⟨left2, hl2, hl3⟩ : ∃ left2 : Int, szI c.cnt left = left2 ∧ ¬ left2 < 0 := ⟨_, rfl, by rw [szI_pos (by omega)]; omega⟩
  rw [hl2]
  clear hl2 hT hl1 hl0
  have x0 := E2.c0; have x1 := E2.c1
  have y0 := A2.c0
  have y1 := A2.c1
  have y2 := A2.c2
  have y3 := A2.c3
  have y4 := A2.c4
  have y5 := A2.c5
  have y6 := A2.c6
  have y7 := A2.c7
  have y8 := A2.c8
  have y9 := A2.c9
  have D0 : Below w2.heap.size w2 w2.drew := (Below.refl _ _).drew
  have L2d := L2.trans (D0.mono L2.size)
  have A2d := A2.below D0 A2.lt
  go_upto_region 8 with fail
  go_cut [6] (fun v6 wz => v6 = .bool (guardV t h c) ∧ Below w2.heap.size w2 wz)
  case first =>
    go_region_with (first
      | (go_at_call 36; refine (S.toState_any _ _ _ _ _ _ _ n0 n1 (by exact r0.below L2d (Nat.le_refl _)) (by exact r1.below L2d (Nat.le_refl _))).mono ?_; rintro e w3 ⟨b0, b1, rfl, q0, q1, o0, o1, hb3⟩; have L3 := L2d.trans (hb3.mono L2d.size); have z0 := (A2d.below hb3 A2d.lt).c0; have z1 := (A2d.below hb3 A2d.lt).c1; have z2 := (A2d.below hb3 A2d.lt).c2; have z3 := (A2d.below hb3 A2d.lt).c3; have z4 := (A2d.below hb3 A2d.lt).c4; have z5 := (A2d.below hb3 A2d.lt).c5; have z6 := (A2d.below hb3 A2d.lt).c6; have z7 := (A2d.below hb3 A2d.lt).c7; have z8 := (A2d.below hb3 A2d.lt).c8; have z9 := (A2d.below hb3 A2d.lt).c9)
      | (go_at_call 46; refine (toCmd_of (toCmdS_any _) (toCmdS_any _) a0 a1 a2 a3 aA aB c0 c1 c2 c3 cA cB _ _ _ (V.below L3 (Nat.le_refl _)) L3.size hs).mono ?_; rintro e w4 ⟨f0, f1, f2, f3, fA, m', fB, rfl, O4, hb4⟩)
      | (go_at_call 77; refine (sGuard_any _ _ _ _ _ _ c _ _ _ _ _ _ _ _ _ _ _ _ _ _ _ n0 n1 (o0.below hb4 o0.1) (o1.below hb4 o1.1) (O4.val hs) (Nat.le_refl _) hs).mono ?_; rintro e w5 ⟨rfl, hb5⟩))
    all_goals
      have hb := (D0.trans (hb3.mono D0.size)).trans ((hb4.mono (D0.trans (hb3.mono D0.size)).size).trans (hb5.mono (Nat.le_trans (D0.trans (hb3.mono D0.size)).size hb4.size)))
      clear hb3 hb4 hb5
      go_wp2_with fail
      go_meet
      exact ⟨rfl, hb⟩
  case rest =>
    obtain ⟨rfl, hb⟩ := hcut
    rename World => w5
    have E5 := E2.below hb E2.lt; have A5 := A2.below hb A2.lt; have L5 := L2.trans (hb.mono L2.size)
    clear hb E2 A2 L2 L2d A2d D0 y0 y1 y2 y3 y4 y5 y6 y7 y8 y9 x0 x1
    have x0 := E5.c0; have x1 := E5.c1
    go_wp2_with fail
    clear x0 x1
    refine (S.toState_any _ _ _ _ _ _ _ n0 n1 (by exact r0.below L5 (Nat.le_refl _)) (by exact r1.below L5 (Nat.le_refl _))).mono ?_
    rintro e w6 ⟨b0, b1, rfl, q0, q1, o0, o1, hb⟩
    have E6 := E5.below hb E5.lt; have A6 := A5.below hb A5.lt; have L6 := L5.trans (hb.mono L5.size)
    have X6 := S.Box.new w6 (.slice (some ⟨b0, 0, none⟩) t.length t.length) (.slice (some ⟨b1, 0, none⟩) h.length h.length) 43
    have M6 : Below w6.heap.size w6 (w6.alloc (.cells #[.slice (some ⟨b0, 0, none⟩) t.length t.length, .slice (some ⟨b1, 0, none⟩) h.length h.length] 43)) := (Below.refl _ _).alloc (Nat.le_refl _) _
    have E7 := E6.below M6 E6.lt; have A7 := A6.below M6 A6.lt; have L7 := L6.trans (M6.mono L6.size)
    have o07 := o0.below M6 o0.1; have o17 := o1.below M6 o1.1
    clear hb E5 A5 L5 E6 A6 L6 M6 o0 o1
    have y0 := A7.c0
    have y1 := A7.c1
    have y2 := A7.c2
    have y3 := A7.c3
    have y4 := A7.c4
    have y5 := A7.c5
    have y6 := A7.c6
    have y7 := A7.c7
    have y8 := A7.c8
    have y9 := A7.c9
    go_wp2_with fail
    clear y0 y1 y2 y3 y4 y5 y6 y7 y8 y9
    generalize w6.alloc (.cells #[.slice (some ⟨b0, 0, none⟩) t.length t.length, .slice (some ⟨b1, 0, none⟩) h.length h.length] 43) = W7 at *
    refine (toCmd_of (toCmdS_any _) (toCmdS_any _) a0 a1 a2 a3 aA aB c0 c1 c2 c3 cA cB _ _ _ (by exact V.below L7 (Nat.le_refl _)) (by exact L7.size) hs).mono ?_
    rintro e w8 ⟨f0, f1, f2, f3, fA, m', fB, rfl, O, hb⟩
    have M8 : Below w8.heap.size w8 (w8.alloc (.cells #[.int .i64 c.k, .int .i64 c.x, .int .i64 c.y, .bool c.q, .slice (some ⟨f0, 0, none⟩) c.l0.length c.l0.length, .slice (some ⟨f1, 0, none⟩) c.l1.length c.l1.length, .slice (some ⟨f2, 0, none⟩) c.l2.length c.l2.length, .slice (some ⟨f3, 0, none⟩) c.l3.length c.l3.length, .slice (some ⟨fA, 0, none⟩) c.A.length c.A.length, .slice (some ⟨fB, 0, none⟩) c.B.length c.B.length] 59)) := (Below.refl _ _).alloc (Nat.le_refl _) _
    have E8 := (E7.below hb E7.lt).alloc (.cells #[.int .i64 c.k, .int .i64 c.x, .int .i64 c.y, .bool c.q, .slice (some ⟨f0, 0, none⟩) c.l0.length c.l0.length, .slice (some ⟨f1, 0, none⟩) c.l1.length c.l1.length, .slice (some ⟨f2, 0, none⟩) c.l2.length c.l2.length, .slice (some ⟨f3, 0, none⟩) c.l3.length c.l3.length, .slice (some ⟨fA, 0, none⟩) c.A.length c.A.length, .slice (some ⟨fB, 0, none⟩) c.B.length c.B.length] 59); have A8 := (A7.below hb A7.lt).alloc (.cells #[.int .i64 c.k, .int .i64 c.x, .int .i64 c.y, .bool c.q, .slice (some ⟨f0, 0, none⟩) c.l0.length c.l0.length, .slice (some ⟨f1, 0, none⟩) c.l1.length c.l1.length, .slice (some ⟨f2, 0, none⟩) c.l2.length c.l2.length, .slice (some ⟨f3, 0, none⟩) c.l3.length c.l3.length, .slice (some ⟨fA, 0, none⟩) c.A.length c.A.length, .slice (some ⟨fB, 0, none⟩) c.B.length c.B.length] 59)
    have L8 := (L7.trans (hb.mono L7.size)).trans (M8.mono (L7.trans (hb.mono L7.size)).size)
    have X8 := (X6.below hb X6.lt).alloc (.cells #[.int .i64 c.k, .int .i64 c.x, .int .i64 c.y, .bool c.q, .slice (some ⟨f0, 0, none⟩) c.l0.length c.l0.length, .slice (some ⟨f1, 0, none⟩) c.l1.length c.l1.length, .slice (some ⟨f2, 0, none⟩) c.l2.length c.l2.length, .slice (some ⟨f3, 0, none⟩) c.l3.length c.l3.length, .slice (some ⟨fA, 0, none⟩) c.A.length c.A.length, .slice (some ⟨fB, 0, none⟩) c.B.length c.B.length] 59)
    have Y8 := B10.new w8 (.int .i64 c.k) (.int .i64 c.x) (.int .i64 c.y) (.bool c.q) (.slice (some ⟨f0, 0, none⟩) c.l0.length c.l0.length) (.slice (some ⟨f1, 0, none⟩) c.l1.length c.l1.length) (.slice (some ⟨f2, 0, none⟩) c.l2.length c.l2.length) (.slice (some ⟨f3, 0, none⟩) c.l3.length c.l3.length) (.slice (some ⟨fA, 0, none⟩) c.A.length c.A.length) (.slice (some ⟨fB, 0, none⟩) c.B.length c.B.length) 59
    have o08 := (o07.below hb o07.1).alloc (.cells #[.int .i64 c.k, .int .i64 c.x, .int .i64 c.y, .bool c.q, .slice (some ⟨f0, 0, none⟩) c.l0.length c.l0.length, .slice (some ⟨f1, 0, none⟩) c.l1.length c.l1.length, .slice (some ⟨f2, 0, none⟩) c.l2.length c.l2.length, .slice (some ⟨f3, 0, none⟩) c.l3.length c.l3.length, .slice (some ⟨fA, 0, none⟩) c.A.length c.A.length, .slice (some ⟨fB, 0, none⟩) c.B.length c.B.length] 59); have o18 := (o17.below hb o17.1).alloc (.cells #[.int .i64 c.k, .int .i64 c.x, .int .i64 c.y, .bool c.q, .slice (some ⟨f0, 0, none⟩) c.l0.length c.l0.length, .slice (some ⟨f1, 0, none⟩) c.l1.length c.l1.length, .slice (some ⟨f2, 0, none⟩) c.l2.length c.l2.length, .slice (some ⟨f3, 0, none⟩) c.l3.length c.l3.length, .slice (some ⟨fA, 0, none⟩) c.A.length c.A.length, .slice (some ⟨fB, 0, none⟩) c.B.length c.B.length] 59)
    have O8 := (O.val hs).below M8 (Nat.le_refl _)
    have s8 := M8.size
    generalize w6.heap.size = N6 at *
    clear hb E7 A7 L7 M8 X6 o07 o17 O
    have x0 := X8.c0; have x1 := X8.c1
    go_wp2_with fail
    clear x0 x1
    generalize w8.alloc (.cells #[.int .i64 c.k, .int .i64 c.x, .int .i64 c.y, .bool c.q, .slice (some ⟨f0, 0, none⟩) c.l0.length c.l0.length, .slice (some ⟨f1, 0, none⟩) c.l1.length c.l1.length, .slice (some ⟨f2, 0, none⟩) c.l2.length c.l2.length, .slice (some ⟨f3, 0, none⟩) c.l3.length c.l3.length, .slice (some ⟨fA, 0, none⟩) c.A.length c.A.length, .slice (some ⟨fB, 0, none⟩) c.B.length c.B.length] 59) = W9 at *
    generalize w8.heap.size = N8 at *
    refine (iGuard_any _ _ _ _ t h c _ _ _ _ _ _ _ _ _ _ _ _ _ _ _ n0 n1 o08 o18 O8 s8 hs).mono ?_
    rintro e w9 ⟨rfl, hb⟩
    have E9 := E8.below hb E8.lt; have A9 := A8.below hb A8.lt; have X9 := X8.below hb X8.lt; have Y9 := Y8.below hb Y8.lt; have L9 := L8.trans (hb.mono L8.size)
    have o09 := o08.below hb o08.1; have o19 := o18.below hb o18.1; have O9 := O8.below hb s8
    have s9 := Nat.le_trans s8 hb.size
    clear hb E8 A8 L8 X8 Y8 o08 o18 O8 s8
    generalize guardV t h c = gv at *
    have x0 := X9.c0; have x1 := X9.c1; have u0 := E9.c0; have u1 := E9.c1
    have D0 : Below w9.heap.size w9 w9.drew := (Below.refl _ _).drew
    have L9d := L9.trans (D0.mono L9.size)
    have X9d := X9.drew
    have o09d := o09.drew; have o19d := o19.drew
    go_upto_region 14 with fail
    go_cut [39] (fun v6 wz => v6 = .bool false ∧ Below w9.heap.size w9 wz)
    case first =>
      go_region_with (first
        | (go_at_call 36; refine (S.toState_any _ _ _ _ _ _ _ n0 n1 (by exact r0.below L9d (Nat.le_refl _)) (by exact r1.below L9d (Nat.le_refl _))).mono ?_; rintro e w10 ⟨d0, d1, rfl, q0', q1', p0, p1, hb3⟩; have z0 := (X9d.below hb3 X9d.lt).c0; have z1 := (X9d.below hb3 X9d.lt).c1)
        | (go_at_call 38; refine (S.eqState_rows _ _ _ _ _ _ _ _ _ _ _ _ _ _ _ _ _ _ t h _ n0 n1 (inTo (o09d.below hb3 o09d.1)) (inTo (o19d.below hb3 o19d.1)) (inTo p0) (inTo p1) (o09d.below hb3 o09d.1).1 (o19d.below hb3 o19d.1).1 p0.1 p1.1).mono ?_; rintro e w11 ⟨rfl, hb4⟩))
      all_goals
        have hb := (D0.trans (hb3.mono D0.size)).trans (hb4.mono (D0.trans (hb3.mono D0.size)).size)
        clear hb3 hb4
        go_wp2_with fail
        go_meet
        exact ⟨rfl, hb⟩
    case rest =>
      obtain ⟨rfl, hb⟩ := hcut
      rename World => w11
      have A11 := A9.below hb A9.lt; have Y11 := Y9.below hb Y9.lt; have L11 := L9.trans (hb.mono L9.size)
      have O11 := O9.below hb s9
      have s11 := Nat.le_trans s9 hb.size
      clear hb E9 A9 X9 Y9 L9 o09 o19 O9 s9 x0 x1 u0 u1 D0 L9d X9d o09d o19d
      have y0 := A11.c0
      have y1 := A11.c1
      have y2 := A11.c2
      have y3 := A11.c3
      have y4 := A11.c4
      have y5 := A11.c5
      have y6 := A11.c6
      have y7 := A11.c7
      have y8 := A11.c8
      have y9 := A11.c9
      have x0 := Y11.c0
      have x1 := Y11.c1
      have x2 := Y11.c2
      have x3 := Y11.c3
      have x4 := Y11.c4
      have x5 := Y11.c5
      have x6 := Y11.c6
      have x7 := Y11.c7
      have x8 := Y11.c8
      have x9 := Y11.c9
      have D0 : Below w11.heap.size w11 w11.drew := (Below.refl _ _).drew
      have L11d := L11.trans (D0.mono L11.size)
      have Y11d := Y11.below D0 Y11.lt
      have O11d := O11.below D0 s11
      go_wp2_with fail
      go_region_with (first
        | (go_at_call 46; refine (toCmd_of (toCmdS_any _) (toCmdS_any _) a0 a1 a2 a3 aA aB c0 c1 c2 c3 cA cB _ _ _ (V.below L11d (Nat.le_refl _)) L11d.size hs).mono ?_; rintro e w12 ⟨h0, h1, h2, h3, hA, m'', hB, rfl, O12, hb6⟩; have z0 := (Y11d.below hb6 Y11d.lt).c0; have z1 := (Y11d.below hb6 Y11d.lt).c1; have z2 := (Y11d.below hb6 Y11d.lt).c2; have z3 := (Y11d.below hb6 Y11d.lt).c3; have z4 := (Y11d.below hb6 Y11d.lt).c4; have z5 := (Y11d.below hb6 Y11d.lt).c5; have z6 := (Y11d.below hb6 Y11d.lt).c6; have z7 := (Y11d.below hb6 Y11d.lt).c7; have z8 := (Y11d.below hb6 Y11d.lt).c8; have z9 := (Y11d.below hb6 Y11d.lt).c9)
        | (go_at_call 48; refine (eqCmd_of (eqCmdS_any _) (eqCmdS_any _) _ _ _ _ _ _ _ _ _ _ _ _ _ _ _ _ _ _ _ _ _ _ _ _ _ _ _ _ _ (O11d.below hb6 s11) (O12.val hs) (Nat.le_trans s11 hb6.size) (Nat.le_refl _) hs).mono ?_; rintro e w13 ⟨rfl, hb7⟩))
      all_goals
        have L13 : Below w.heap.size w w13 := (L11d.trans (hb6.mono L11d.size)).trans (hb7.mono (L11d.trans (hb6.mono L11d.size)).size)
        go_wp2
        go_ret
        exact ⟨rfl, L13⟩

end Go.Proofs.Ytnaeomppceblpaa.guard
