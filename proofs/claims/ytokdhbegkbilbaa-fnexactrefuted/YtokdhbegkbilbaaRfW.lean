/-
  The walk of the law FnExactRefuted.
-/
import Derived.Test.YtokdhbegkbilbaaRf
import Derived.Test.YtokdhbegkbilbaaMk
import Derived.Test.YtokdhbegkbilbaaQSz
import Derived.Test.YtokdhbegkbilbaaQTo
import Derived.Test.YtokdhbegkbilbaaQEq
namespace Go.Proofs.Ytokdhbegkbilbaa.refuted
open Go.RowKit

set_option maxRecDepth 20000 in
set_option maxHeartbeats 8000000 in
theorem walk (a0 a1 : Option Addr) (c0 c1 : Nat) (t hv : List Int) (d0 d1 d2 d3 : Option Addr) (g0 g1 g2 g3 : Nat) (l0 l1 l2 l3 : List (Int × Int)) (dd0 dd1 dd2 dd3 : Option Addr) (ss0 ss1 ss2 ss3 : Nat) (k0 k1 k2 k3 : List (Int × Int)) (w : World) (m0 : t.length ≤ maxLen) (m1 : hv.length ≤ maxLen) (r0 : IRow w a0 t) (r1 : IRow w a1 hv)
    (u0 : l0.length ≤ maxLen) (u1 : l1.length ≤ maxLen) (u2 : l2.length ≤ maxLen) (u3 : l3.length ≤ maxLen) (v0 : Q.PRow w d0 l0) (v1 : Q.PRow w d1 l1) (v2 : Q.PRow w d2 l2) (v3 : Q.PRow w d3 l3)
    (uu0 : k0.length ≤ maxLen) (uu1 : k1.length ≤ maxLen) (uu2 : k2.length ≤ maxLen) (uu3 : k3.length ≤ maxLen) (vv0 : Q.PRow w dd0 k0) (vv1 : Q.PRow w dd1 k1) (vv2 : Q.PRow w dd2 k2) (vv3 : Q.PRow w dd3 k3) :
    Calls Try.prog 19 #[.agg #[.slice a0 t.length c0, .slice a1 hv.length c1], .agg #[.slice d0 l0.length g0, .slice d1 l1.length g1, .slice d2 l2.length g2, .slice d3 l3.length g3], .agg #[.slice dd0 k0.length ss0, .slice dd1 k1.length ss1, .slice dd2 k2.length ss2, .slice dd3 k3.length ss3]] w fun e w' => e = .returned (.bool true) ∧ Below w.heap.size w w' := by
  have A0 := ((Box.new w (.slice a0 t.length c0) (.slice a1 hv.length c1) 41).alloc (.cells #[.slice d0 l0.length g0, .slice d1 l1.length g1, .slice d2 l2.length g2, .slice d3 l3.length g3] 24)).alloc (.cells #[.slice dd0 k0.length ss0, .slice dd1 k1.length ss1, .slice dd2 k2.length ss2, .slice dd3 k3.length ss3] 24)
  have D0 := (Q.Box.new (w.alloc (.cells #[.slice a0 t.length c0, .slice a1 hv.length c1] 41)) (.slice d0 l0.length g0) (.slice d1 l1.length g1) (.slice d2 l2.length g2) (.slice d3 l3.length g3) 24).alloc (.cells #[.slice dd0 k0.length ss0, .slice dd1 k1.length ss1, .slice dd2 k2.length ss2, .slice dd3 k3.length ss3] 24)
  have E0 := Q.Box.new ((w.alloc (.cells #[.slice a0 t.length c0, .slice a1 hv.length c1] 41)).alloc (.cells #[.slice d0 l0.length g0, .slice d1 l1.length g1, .slice d2 l2.length g2, .slice d3 l3.length g3] 24)) (.slice dd0 k0.length ss0) (.slice dd1 k1.length ss1) (.slice dd2 k2.length ss2) (.slice dd3 k3.length ss3) 24
  rw [World.size_alloc] at D0 E0
  rw [World.size_alloc] at E0
  have L0 : Below w.heap.size w (((w.alloc (.cells #[.slice a0 t.length c0, .slice a1 hv.length c1] 41)).alloc (.cells #[.slice d0 l0.length g0, .slice d1 l1.length g1, .slice d2 l2.length g2, .slice d3 l3.length g3] 24)).alloc (.cells #[.slice dd0 k0.length ss0, .slice dd1 k1.length ss1, .slice dd2 k2.length ss2, .slice dd3 k3.length ss3] 24)) := (((Below.refl _ _).alloc (Nat.le_refl _) _).alloc (by simp) _).alloc (by simp; omega) _
  go_enter Try.func19, Try.ntmps19
  go_wp2_with fail
  generalize (((w.alloc (.cells #[.slice a0 t.length c0, .slice a1 hv.length c1] 41)).alloc (.cells #[.slice d0 l0.length g0, .slice d1 l1.length g1, .slice d2 l2.length g2, .slice d3 l3.length g3] 24)).alloc (.cells #[.slice dd0 k0.length ss0, .slice dd1 k1.length ss1, .slice dd2 k2.length ss2, .slice dd3 k3.length ss3] 24)) = W0 at *
  refine (szState_any _ _ _ _ _ _ _ _ m0 m1 (by omega) (by omega)).mono ?_
  rintro e w1 ⟨rfl, hb⟩
  have A1 := A0.keep hb; have D1 := D0.below hb D0.lt; have E1 := E0.below hb E0.lt; have L1 := L0.trans (hb.mono L0.size)
  clear hb A0 D0 E0 L0
  by_cases hT : 1048576 < t.length + hv.length
  · rw [show szI ((t.length : Int) + hv.length) 1048576 = -1 by unfold szI; rw [if_pos (by omega)]]
    go_wp2
    go_ret
    exact ⟨rfl, L1⟩
  have n0 : t.length ≤ 1048576 := by omega
  have n1 : hv.length ≤ 1048576 := by omega
  obtain ⟨left, hl, hl0, hl1⟩ : ∃ left : Int, szI ((t.length : Int) + hv.length) 1048576 = left ∧ ¬ left < 0 ∧ left ≤ 1048576 := ⟨_, rfl, by unfold szI; rw [if_neg (by omega)]; omega, by unfold szI; rw [if_neg (by omega)]; omega⟩
  rw [hl]
  clear hl hT
  have x0 := D1.c0; have x1 := D1.c1; have x2 := D1.c2; have x3 := D1.c3
  go_wp2_with fail
  refine (Q.szAsn_any _ _ _ _ _ _ _ _ _ _ _ _ _ _ u0 u1 u2 u3 (by omega) hl1).mono ?_
  rintro e w2 ⟨rfl, hb⟩
  have A2 := A1.keep hb; have D2 := D1.below hb D1.lt; have E2 := E1.below hb E1.lt; have L2 := L1.trans (hb.mono L1.size)
  clear hb A1 D1 E1 L1 x0 x1 x2 x3
  by_cases hT : left < (l0.length : Int) + l1.length + l2.length + l3.length
  · rw [show Q.szI ((l0.length : Int) + l1.length + l2.length + l3.length) left = -1 by unfold Q.szI; rw [if_pos (by omega)]]
    go_wp2
    go_ret
    exact ⟨rfl, L2⟩
  have j0 : l0.length ≤ 1048576 := by omega
  have j1 : l1.length ≤ 1048576 := by omega
  have j2 : l2.length ≤ 1048576 := by omega
  have j3 : l3.length ≤ 1048576 := by omega
  obtain ⟨left2, hl2, hl3, hl4⟩ : ∃ left2 : Int, Q.szI ((l0.length : Int) + l1.length + l2.length + l3.length) left = left2 ∧ ¬ left2 < 0 ∧ left2 ≤ 1048576 := ⟨_, rfl, by unfold Q.szI; rw [if_neg (by omega)]; omega, by unfold Q.szI; rw [if_neg (by omega)]; omega⟩
  rw [hl2]
  clear hl2 hT hl1
  have x0 := E2.c0; have x1 := E2.c1; have x2 := E2.c2; have x3 := E2.c3
  go_wp2_with fail
  refine (Q.szAsn_any _ _ _ _ _ _ _ _ _ _ _ _ _ _ uu0 uu1 uu2 uu3 (by omega) hl4).mono ?_
  rintro e w3 ⟨rfl, hb⟩
  have A3 := A2.keep hb; have D3 := D2.below hb D2.lt; have E3 := E2.below hb E2.lt; have L2b := L2.trans (hb.mono L2.size)
  clear hb A2 D2 E2 L2 x0 x1 x2 x3
  by_cases hT : left2 < (k0.length : Int) + k1.length + k2.length + k3.length
  · rw [show Q.szI ((k0.length : Int) + k1.length + k2.length + k3.length) left2 = -1 by unfold Q.szI; rw [if_pos (by omega)]]
    go_wp2
    go_ret
    exact ⟨rfl, L2b⟩
  have i0 : k0.length ≤ 1048576 := by omega
  have i1 : k1.length ≤ 1048576 := by omega
  have i2 : k2.length ≤ 1048576 := by omega
  have i3 : k3.length ≤ 1048576 := by omega
  obtain ⟨left3, hl5, hl6⟩ : ∃ left3 : Int, Q.szI ((k0.length : Int) + k1.length + k2.length + k3.length) left2 = left3 ∧ ¬ left3 < 0 := ⟨_, rfl, by unfold Q.szI; rw [if_neg (by omega)]; omega⟩
  rw [hl5]
  clear hl5 hT hl4
  have hS0 : w3.drew.cell? ⟨w.heap.size, 0, none⟩ = some (.slice a0 t.length c0) ∧ w3.drew.cell? ⟨w.heap.size, 1, none⟩ = some (.slice a1 hv.length c1) ∧ w3.drew.cell? ⟨w.heap.size + 1, 0, none⟩ = some (.slice d0 l0.length g0) ∧ w3.drew.cell? ⟨w.heap.size + 1, 1, none⟩ = some (.slice d1 l1.length g1) ∧ w3.drew.cell? ⟨w.heap.size + 1, 2, none⟩ = some (.slice d2 l2.length g2) ∧ w3.drew.cell? ⟨w.heap.size + 1, 3, none⟩ = some (.slice d3 l3.length g3) ∧ w3.drew.cell? ⟨w.heap.size + 1 + 1, 0, none⟩ = some (.slice dd0 k0.length ss0) ∧ w3.drew.cell? ⟨w.heap.size + 1 + 1, 1, none⟩ = some (.slice dd1 k1.length ss1) ∧ w3.drew.cell? ⟨w.heap.size + 1 + 1, 2, none⟩ = some (.slice dd2 k2.length ss2) ∧ w3.drew.cell? ⟨w.heap.size + 1 + 1, 3, none⟩ = some (.slice dd3 k3.length ss3) := ⟨A3.c0, A3.c1, D3.c0, D3.c1, D3.c2, D3.c3, E3.c0, E3.c1, E3.c2, E3.c3⟩
  have L3 := L2b.drew
  clear A3 D3 E3 L2b
  go_wp2
  go_region_held3 (fun W => W.cell? ⟨w.heap.size, 0, none⟩ = some (.slice a0 t.length c0) ∧ W.cell? ⟨w.heap.size, 1, none⟩ = some (.slice a1 hv.length c1) ∧ W.cell? ⟨w.heap.size + 1, 0, none⟩ = some (.slice d0 l0.length g0) ∧ W.cell? ⟨w.heap.size + 1, 1, none⟩ = some (.slice d1 l1.length g1) ∧ W.cell? ⟨w.heap.size + 1, 2, none⟩ = some (.slice d2 l2.length g2) ∧ W.cell? ⟨w.heap.size + 1, 3, none⟩ = some (.slice d3 l3.length g3) ∧ W.cell? ⟨w.heap.size + 1 + 1, 0, none⟩ = some (.slice dd0 k0.length ss0) ∧ W.cell? ⟨w.heap.size + 1 + 1, 1, none⟩ = some (.slice dd1 k1.length ss1) ∧ W.cell? ⟨w.heap.size + 1 + 1, 2, none⟩ = some (.slice dd2 k2.length ss2) ∧ W.cell? ⟨w.heap.size + 1 + 1, 3, none⟩ = some (.slice dd3 k3.length ss3))
    (first | exact hS0 | assumption | (refine ⟨?_, ?_, ?_, ?_, ?_, ?_, ?_, ?_, ?_, ?_⟩ <;> assumption))
    (first
      | (go_at_call 34; refine (toState_any _ _ _ _ _ _ _ n0 n1 (r0.below L3 (Nat.le_refl _)) (r1.below L3 (Nat.le_refl _))).mono ?_; rintro e z1 ⟨b0, b1, rfl, -, -, o0, o1, h1⟩; have kk1 : z1.cell? ⟨w.heap.size, 0, none⟩ = some (.slice a0 t.length c0) ∧ z1.cell? ⟨w.heap.size, 1, none⟩ = some (.slice a1 hv.length c1) ∧ z1.cell? ⟨w.heap.size + 1, 0, none⟩ = some (.slice d0 l0.length g0) ∧ z1.cell? ⟨w.heap.size + 1, 1, none⟩ = some (.slice d1 l1.length g1) ∧ z1.cell? ⟨w.heap.size + 1, 2, none⟩ = some (.slice d2 l2.length g2) ∧ z1.cell? ⟨w.heap.size + 1, 3, none⟩ = some (.slice d3 l3.length g3) ∧ z1.cell? ⟨w.heap.size + 1 + 1, 0, none⟩ = some (.slice dd0 k0.length ss0) ∧ z1.cell? ⟨w.heap.size + 1 + 1, 1, none⟩ = some (.slice dd1 k1.length ss1) ∧ z1.cell? ⟨w.heap.size + 1 + 1, 2, none⟩ = some (.slice dd2 k2.length ss2) ∧ z1.cell? ⟨w.heap.size + 1 + 1, 3, none⟩ = some (.slice dd3 k3.length ss3) := ⟨cell_keep hS0.1 h1, cell_keep hS0.2.1 h1, cell_keep hS0.2.2.1 h1, cell_keep hS0.2.2.2.1 h1, cell_keep hS0.2.2.2.2.1 h1, cell_keep hS0.2.2.2.2.2.1 h1, cell_keep hS0.2.2.2.2.2.2.1 h1, cell_keep hS0.2.2.2.2.2.2.2.1 h1, cell_keep hS0.2.2.2.2.2.2.2.2.1 h1, cell_keep hS0.2.2.2.2.2.2.2.2.2 h1⟩; have L4 := L3.trans (h1.mono L3.size))
      | (go_at_call_of 23 (Value.agg #[.slice d0 l0.length g0, .slice d1 l1.length g1, .slice d2 l2.length g2, .slice d3 l3.length g3]); refine (Q.toAsn_any _ _ _ _ _ _ _ _ _ _ _ _ _ j0 j1 j2 j3 (v0.below L4 (Nat.le_refl _)) (v1.below L4 (Nat.le_refl _)) (v2.below L4 (Nat.le_refl _)) (v3.below L4 (Nat.le_refl _))).mono ?_; rintro e z2 ⟨y0, y1, y2, y3, rfl, -, -, -, -, p0, p1, p2, p3, h2⟩; have kk2 : z2.cell? ⟨w.heap.size, 0, none⟩ = some (.slice a0 t.length c0) ∧ z2.cell? ⟨w.heap.size, 1, none⟩ = some (.slice a1 hv.length c1) ∧ z2.cell? ⟨w.heap.size + 1, 0, none⟩ = some (.slice d0 l0.length g0) ∧ z2.cell? ⟨w.heap.size + 1, 1, none⟩ = some (.slice d1 l1.length g1) ∧ z2.cell? ⟨w.heap.size + 1, 2, none⟩ = some (.slice d2 l2.length g2) ∧ z2.cell? ⟨w.heap.size + 1, 3, none⟩ = some (.slice d3 l3.length g3) ∧ z2.cell? ⟨w.heap.size + 1 + 1, 0, none⟩ = some (.slice dd0 k0.length ss0) ∧ z2.cell? ⟨w.heap.size + 1 + 1, 1, none⟩ = some (.slice dd1 k1.length ss1) ∧ z2.cell? ⟨w.heap.size + 1 + 1, 2, none⟩ = some (.slice dd2 k2.length ss2) ∧ z2.cell? ⟨w.heap.size + 1 + 1, 3, none⟩ = some (.slice dd3 k3.length ss3) := ⟨cell_keep kk1.1 h2, cell_keep kk1.2.1 h2, cell_keep kk1.2.2.1 h2, cell_keep kk1.2.2.2.1 h2, cell_keep kk1.2.2.2.2.1 h2, cell_keep kk1.2.2.2.2.2.1 h2, cell_keep kk1.2.2.2.2.2.2.1 h2, cell_keep kk1.2.2.2.2.2.2.2.1 h2, cell_keep kk1.2.2.2.2.2.2.2.2.1 h2, cell_keep kk1.2.2.2.2.2.2.2.2.2 h2⟩; have L5 := L4.trans (h2.mono L4.size); replace o0 := o0.keep h2; replace o1 := o1.keep h2)
      | (go_at_call_of 23 (Value.agg #[.slice dd0 k0.length ss0, .slice dd1 k1.length ss1, .slice dd2 k2.length ss2, .slice dd3 k3.length ss3]); refine (Q.toAsn_any _ _ _ _ _ _ _ _ _ _ _ _ _ i0 i1 i2 i3 (vv0.below L5 (Nat.le_refl _)) (vv1.below L5 (Nat.le_refl _)) (vv2.below L5 (Nat.le_refl _)) (vv3.below L5 (Nat.le_refl _))).mono ?_; rintro e z3 ⟨yy0, yy1, yy2, yy3, rfl, -, -, -, -, q0, q1, q2, q3, h3⟩; have kk3 : z3.cell? ⟨w.heap.size, 0, none⟩ = some (.slice a0 t.length c0) ∧ z3.cell? ⟨w.heap.size, 1, none⟩ = some (.slice a1 hv.length c1) ∧ z3.cell? ⟨w.heap.size + 1, 0, none⟩ = some (.slice d0 l0.length g0) ∧ z3.cell? ⟨w.heap.size + 1, 1, none⟩ = some (.slice d1 l1.length g1) ∧ z3.cell? ⟨w.heap.size + 1, 2, none⟩ = some (.slice d2 l2.length g2) ∧ z3.cell? ⟨w.heap.size + 1, 3, none⟩ = some (.slice d3 l3.length g3) ∧ z3.cell? ⟨w.heap.size + 1 + 1, 0, none⟩ = some (.slice dd0 k0.length ss0) ∧ z3.cell? ⟨w.heap.size + 1 + 1, 1, none⟩ = some (.slice dd1 k1.length ss1) ∧ z3.cell? ⟨w.heap.size + 1 + 1, 2, none⟩ = some (.slice dd2 k2.length ss2) ∧ z3.cell? ⟨w.heap.size + 1 + 1, 3, none⟩ = some (.slice dd3 k3.length ss3) := ⟨cell_keep kk2.1 h3, cell_keep kk2.2.1 h3, cell_keep kk2.2.2.1 h3, cell_keep kk2.2.2.2.1 h3, cell_keep kk2.2.2.2.2.1 h3, cell_keep kk2.2.2.2.2.2.1 h3, cell_keep kk2.2.2.2.2.2.2.1 h3, cell_keep kk2.2.2.2.2.2.2.2.1 h3, cell_keep kk2.2.2.2.2.2.2.2.2.1 h3, cell_keep kk2.2.2.2.2.2.2.2.2.2 h3⟩; have L6 := L5.trans (h3.mono L5.size); replace o0 := o0.keep h3; replace o1 := o1.keep h3; replace p0 := p0.below h3 p0.1; replace p1 := p1.below h3 p1.1; replace p2 := p2.below h3 p2.1; replace p3 := p3.below h3 p3.1)
      | (go_at_call 67; refine (sRefuted_any _ _ _ _ _ _ _ _ _ _ _ _ _ _ _ _ _ _ _ _ _ _ _ _ _ _ _ _ _ _ _ n0 n1 j0 j1 j2 j3 i0 i1 i2 i3 o0 o1 p0 p1 p2 p3 q0 q1 q2 q3).mono ?_; rintro e z4 ⟨rfl, h4⟩; have kk4 : z4.cell? ⟨w.heap.size, 0, none⟩ = some (.slice a0 t.length c0) ∧ z4.cell? ⟨w.heap.size, 1, none⟩ = some (.slice a1 hv.length c1) ∧ z4.cell? ⟨w.heap.size + 1, 0, none⟩ = some (.slice d0 l0.length g0) ∧ z4.cell? ⟨w.heap.size + 1, 1, none⟩ = some (.slice d1 l1.length g1) ∧ z4.cell? ⟨w.heap.size + 1, 2, none⟩ = some (.slice d2 l2.length g2) ∧ z4.cell? ⟨w.heap.size + 1, 3, none⟩ = some (.slice d3 l3.length g3) ∧ z4.cell? ⟨w.heap.size + 1 + 1, 0, none⟩ = some (.slice dd0 k0.length ss0) ∧ z4.cell? ⟨w.heap.size + 1 + 1, 1, none⟩ = some (.slice dd1 k1.length ss1) ∧ z4.cell? ⟨w.heap.size + 1 + 1, 2, none⟩ = some (.slice dd2 k2.length ss2) ∧ z4.cell? ⟨w.heap.size + 1 + 1, 3, none⟩ = some (.slice dd3 k3.length ss3) := ⟨cell_keep kk3.1 h4, cell_keep kk3.2.1 h4, cell_keep kk3.2.2.1 h4, cell_keep kk3.2.2.2.1 h4, cell_keep kk3.2.2.2.2.1 h4, cell_keep kk3.2.2.2.2.2.1 h4, cell_keep kk3.2.2.2.2.2.2.1 h4, cell_keep kk3.2.2.2.2.2.2.2.1 h4, cell_keep kk3.2.2.2.2.2.2.2.2.1 h4, cell_keep kk3.2.2.2.2.2.2.2.2.2 h4⟩; have L7 := L6.trans (h4.mono L6.size)))
  all_goals
    obtain ⟨S0, S1, S2, S3, S4, S5, S6, S7, S8, S9⟩ := kk4
    clear hS0 kk1 kk2 kk3 L3 L4 L5 L6 h1 h2 h3 h4 o0 o1 p0 p1 p2 p3 q0 q1 q2 q3
    have hlN : w.heap.size + 1 + 1 < z4.heap.size := World.block_lt_of_cell? _ _ S6
    go_wp2_with fail
    refine (toState_any _ _ _ _ _ _ _ n0 n1 (by exact r0.below L7 (Nat.le_refl _)) (by exact r1.below L7 (Nat.le_refl _))).mono ?_
    rintro e w4 ⟨e0, e1, rfl, -, -, o0, o1, hb⟩
    replace S0 := cell_keep S0 hb; replace S1 := cell_keep S1 hb; replace S2 := cell_keep S2 hb; replace S3 := cell_keep S3 hb; replace S4 := cell_keep S4 hb; replace S5 := cell_keep S5 hb; replace S6 := cell_keep S6 hb; replace S7 := cell_keep S7 hb; replace S8 := cell_keep S8 hb; replace S9 := cell_keep S9 hb; replace L7 := L7.trans (hb.mono L7.size)
    clear hb
    have X4 := Box.new w4 (.slice (some ⟨e0, 0, none⟩) t.length t.length) (.slice (some ⟨e1, 0, none⟩) hv.length hv.length) 44
    have al : Below w4.heap.size w4 (w4.alloc (.cells #[.slice (some ⟨e0, 0, none⟩) t.length t.length, .slice (some ⟨e1, 0, none⟩) hv.length hv.length] 44)) := (Below.refl _ _).alloc (Nat.le_refl _) _
    replace S0 := cell_keep S0 al; replace S1 := cell_keep S1 al; replace S2 := cell_keep S2 al; replace S3 := cell_keep S3 al; replace S4 := cell_keep S4 al; replace S5 := cell_keep S5 al; replace S6 := cell_keep S6 al; replace S7 := cell_keep S7 al; replace S8 := cell_keep S8 al; replace S9 := cell_keep S9 al; replace L7 := L7.trans (al.mono L7.size); replace o0 := o0.keep al; replace o1 := o1.keep al
    clear al
    go_wp2_with fail
    refine (Q.toAsn_any _ _ _ _ _ _ _ _ _ _ _ _ _ j0 j1 j2 j3 (by exact v0.below L7 (Nat.le_refl _)) (by exact v1.below L7 (Nat.le_refl _)) (by exact v2.below L7 (Nat.le_refl _)) (by exact v3.below L7 (Nat.le_refl _))).mono ?_
    rintro e w5 ⟨x0, x1, x2, x3, rfl, -, -, -, -, p0, p1, p2, p3, hb⟩
    replace S0 := cell_keep S0 hb; replace S1 := cell_keep S1 hb; replace S2 := cell_keep S2 hb; replace S3 := cell_keep S3 hb; replace S4 := cell_keep S4 hb; replace S5 := cell_keep S5 hb; replace S6 := cell_keep S6 hb; replace S7 := cell_keep S7 hb; replace S8 := cell_keep S8 hb; replace S9 := cell_keep S9 hb; replace L7 := L7.trans (hb.mono L7.size); replace o0 := o0.keep hb; replace o1 := o1.keep hb; replace X4 := X4.keep hb
    clear hb
    have Y5 := Q.Box.new w5 (.slice (some ⟨x0, 0, none⟩) l0.length l0.length) (.slice (some ⟨x1, 0, none⟩) l1.length l1.length) (.slice (some ⟨x2, 0, none⟩) l2.length l2.length) (.slice (some ⟨x3, 0, none⟩) l3.length l3.length) 28
    have al : Below w5.heap.size w5 (w5.alloc (.cells #[.slice (some ⟨x0, 0, none⟩) l0.length l0.length, .slice (some ⟨x1, 0, none⟩) l1.length l1.length, .slice (some ⟨x2, 0, none⟩) l2.length l2.length, .slice (some ⟨x3, 0, none⟩) l3.length l3.length] 28)) := (Below.refl _ _).alloc (Nat.le_refl _) _
    replace S0 := cell_keep S0 al; replace S1 := cell_keep S1 al; replace S2 := cell_keep S2 al; replace S3 := cell_keep S3 al; replace S4 := cell_keep S4 al; replace S5 := cell_keep S5 al; replace S6 := cell_keep S6 al; replace S7 := cell_keep S7 al; replace S8 := cell_keep S8 al; replace S9 := cell_keep S9 al; replace L7 := L7.trans (al.mono L7.size); replace o0 := o0.keep al; replace o1 := o1.keep al; replace X4 := X4.keep al; replace p0 := p0.below al p0.1; replace p1 := p1.below al p1.1; replace p2 := p2.below al p2.1; replace p3 := p3.below al p3.1
    clear al
    generalize w4.heap.size = N_w4 at *
    go_wp2_with fail
    refine (Q.toAsn_any _ _ _ _ _ _ _ _ _ _ _ _ _ i0 i1 i2 i3 (by exact vv0.below L7 (Nat.le_refl _)) (by exact vv1.below L7 (Nat.le_refl _)) (by exact vv2.below L7 (Nat.le_refl _)) (by exact vv3.below L7 (Nat.le_refl _))).mono ?_
    rintro e w6 ⟨y0, y1, y2, y3, rfl, -, -, -, -, q0, q1, q2, q3, hb⟩
    replace S0 := cell_keep S0 hb; replace S1 := cell_keep S1 hb; replace S2 := cell_keep S2 hb; replace S3 := cell_keep S3 hb; replace S4 := cell_keep S4 hb; replace S5 := cell_keep S5 hb; replace S6 := cell_keep S6 hb; replace S7 := cell_keep S7 hb; replace S8 := cell_keep S8 hb; replace S9 := cell_keep S9 hb; replace L7 := L7.trans (hb.mono L7.size); replace o0 := o0.keep hb; replace o1 := o1.keep hb; replace X4 := X4.keep hb; replace p0 := p0.below hb p0.1; replace p1 := p1.below hb p1.1; replace p2 := p2.below hb p2.1; replace p3 := p3.below hb p3.1; replace Y5 := Y5.below hb Y5.lt
    clear hb
    have Z6 := Q.Box.new w6 (.slice (some ⟨y0, 0, none⟩) k0.length k0.length) (.slice (some ⟨y1, 0, none⟩) k1.length k1.length) (.slice (some ⟨y2, 0, none⟩) k2.length k2.length) (.slice (some ⟨y3, 0, none⟩) k3.length k3.length) 28
    have al : Below w6.heap.size w6 (w6.alloc (.cells #[.slice (some ⟨y0, 0, none⟩) k0.length k0.length, .slice (some ⟨y1, 0, none⟩) k1.length k1.length, .slice (some ⟨y2, 0, none⟩) k2.length k2.length, .slice (some ⟨y3, 0, none⟩) k3.length k3.length] 28)) := (Below.refl _ _).alloc (Nat.le_refl _) _
    replace S0 := cell_keep S0 al; replace S1 := cell_keep S1 al; replace S2 := cell_keep S2 al; replace S3 := cell_keep S3 al; replace S4 := cell_keep S4 al; replace S5 := cell_keep S5 al; replace S6 := cell_keep S6 al; replace S7 := cell_keep S7 al; replace S8 := cell_keep S8 al; replace S9 := cell_keep S9 al; replace L7 := L7.trans (al.mono L7.size); replace o0 := o0.keep al; replace o1 := o1.keep al; replace X4 := X4.keep al; replace p0 := p0.below al p0.1; replace p1 := p1.below al p1.1; replace p2 := p2.below al p2.1; replace p3 := p3.below al p3.1; replace Y5 := Y5.below al Y5.lt; replace q0 := q0.below al q0.1; replace q1 := q1.below al q1.1; replace q2 := q2.below al q2.1; replace q3 := q3.below al q3.1
    clear al
    generalize w5.heap.size = N_w5 at *
    have y0' := X4.c0; have y1' := X4.c1; have y2' := Y5.c0; have y3' := Y5.c1; have y4' := Y5.c2; have y5' := Y5.c3
    go_wp2_with fail
    clear y0' y1' y2' y3' y4' y5'
    refine (iRefuted_any _ _ _ _ _ _ _ _ _ _ _ _ _ _ _ _ _ _ _ _ _ _ _ _ _ _ _ _ _ _ _ n0 n1 j0 j1 j2 j3 i0 i1 i2 i3 (by exact o0) (by exact o1) (by exact p0) (by exact p1) (by exact p2) (by exact p3) (by exact q0) (by exact q1) (by exact q2) (by exact q3)).mono ?_
    rintro e w7 ⟨rfl, hb⟩
    replace S0 := cell_keep S0 hb; replace S1 := cell_keep S1 hb; replace S2 := cell_keep S2 hb; replace S3 := cell_keep S3 hb; replace S4 := cell_keep S4 hb; replace S5 := cell_keep S5 hb; replace S6 := cell_keep S6 hb; replace S7 := cell_keep S7 hb; replace S8 := cell_keep S8 hb; replace S9 := cell_keep S9 hb; replace L7 := L7.trans (hb.mono L7.size); replace o0 := o0.keep hb; replace o1 := o1.keep hb; replace X4 := X4.keep hb; replace p0 := p0.below hb p0.1; replace p1 := p1.below hb p1.1; replace p2 := p2.below hb p2.1; replace p3 := p3.below hb p3.1; replace Y5 := Y5.below hb Y5.lt; replace q0 := q0.below hb q0.1; replace q1 := q1.below hb q1.1; replace q2 := q2.below hb q2.1; replace q3 := q3.below hb q3.1; replace Z6 := Z6.below hb Z6.lt
    clear hb
    generalize w6.heap.size = N_w6 at *
    generalize refV t hv l0 l1 l2 l3 k0 k1 k2 k3 = gg
    have y0' := X4.c0; have y1' := X4.c1
    go_wp2_with fail
    go_region_with (first
      | (go_at_call 34; refine (toState_any _ _ _ _ _ _ _ n0 n1 ?_ ?_).mono ?_; exact r0.below L7.drew (Nat.le_refl _); exact r1.below L7.drew (Nat.le_refl _); rintro e w8 ⟨kk0, kk1, rfl, -, -, qq0, qq1, hb7⟩; have X7 := X4.drew.below hb7 X4.lt; have z0 := X7.c0; have z1' := X7.c1; clear X7)
      | (go_at_call 36; refine (eqState_rows 0 w8.heap.size 0 w8.heap.size 0 w8.heap.size 0 w8.heap.size _ _ _ _ _ _ _ _ _ _ t hv _ n0 n1 ?_ ?_ ?_ ?_ (Nat.le_refl _) (Nat.le_refl _) (Nat.le_refl _) (Nat.le_refl _)).mono ?_; exact IntIn.ofOwn (o0.drew.below hb7 o0.1) rfl (Nat.zero_le _) (o0.drew.below hb7 o0.1).1; exact IntIn.ofOwn (o1.drew.below hb7 o1.1) rfl (Nat.zero_le _) (o1.drew.below hb7 o1.1).1; exact IntIn.ofOwn qq0 rfl (Nat.zero_le _) qq0.1; exact IntIn.ofOwn qq1 rfl (Nat.zero_le _) qq1.1; rintro e w9 ⟨rfl, hb8⟩))
    all_goals
      have hb : Below w7.heap.size w7 w9 := ((Below.refl _ _).drew.trans hb7).trans (hb8.mono (by have := hb7.size; simpa using this))
      replace S2 := cell_keep S2 hb; replace S3 := cell_keep S3 hb; replace S4 := cell_keep S4 hb; replace S5 := cell_keep S5 hb; replace S6 := cell_keep S6 hb; replace S7 := cell_keep S7 hb; replace S8 := cell_keep S8 hb; replace S9 := cell_keep S9 hb; replace L7 := L7.trans (hb.mono L7.size); replace p0 := p0.below hb p0.1; replace p1 := p1.below hb p1.1; replace p2 := p2.below hb p2.1; replace p3 := p3.below hb p3.1; replace Y5 := Y5.below hb Y5.lt; replace q0 := q0.below hb q0.1; replace q1 := q1.below hb q1.1; replace q2 := q2.below hb q2.1; replace q3 := q3.below hb q3.1; replace Z6 := Z6.below hb Z6.lt
      clear hb hb7 hb8 X4 y0' y1' S0 S1 z0 z1' qq0 qq1 o0 o1
      have y0' := Y5.c0; have y1' := Y5.c1; have y2' := Y5.c2; have y3' := Y5.c3
      go_wp2_with fail
      go_region_with (first
        | (go_at_call 23; refine (Q.toAsn_any _ _ _ _ _ _ _ _ _ _ _ _ _ j0 j1 j2 j3 ?_ ?_ ?_ ?_).mono ?_; exact v0.below L7.drew (Nat.le_refl _); exact v1.below L7.drew (Nat.le_refl _); exact v2.below L7.drew (Nat.le_refl _); exact v3.below L7.drew (Nat.le_refl _); rintro e w10 ⟨f0, f1, f2, f3, rfl, -, -, -, -, tt0, tt1, tt2, tt3, hb9⟩; have Y9 := Y5.drew.below hb9 Y5.lt; have zz0 := Y9.c0; have zz1 := Y9.c1; have zz2 := Y9.c2; have zz3 := Y9.c3; clear Y9)
        | (go_at_call 25; refine (Q.eqAsn_same _ _ _ _ _ _ _ _ _ _ _ _ _ _ _ _ _ _ _ _ _ j0 j1 j2 j3 ?_ ?_ ?_ ?_ ?_ ?_ ?_ ?_).mono ?_; exact (p0.drew.below hb9 p0.1).row; exact (p1.drew.below hb9 p1.1).row; exact (p2.drew.below hb9 p2.1).row; exact (p3.drew.below hb9 p3.1).row; exact tt0.row; exact tt1.row; exact tt2.row; exact tt3.row; rintro e w11 ⟨rfl, hb10⟩))
      all_goals
        have hb : Below w9.heap.size w9 w11 := ((Below.refl _ _).drew.trans hb9).trans (hb10.mono (by have := hb9.size; simpa using this))
        replace S6 := cell_keep S6 hb; replace S7 := cell_keep S7 hb; replace S8 := cell_keep S8 hb; replace S9 := cell_keep S9 hb; replace L7 := L7.trans (hb.mono L7.size); replace q0 := q0.below hb q0.1; replace q1 := q1.below hb q1.1; replace q2 := q2.below hb q2.1; replace q3 := q3.below hb q3.1; replace Z6 := Z6.below hb Z6.lt
        clear hb hb9 hb10 Y5 y0' y1' y2' y3' S2 S3 S4 S5 zz0 zz1 zz2 zz3 tt0 tt1 tt2 tt3 p0 p1 p2 p3
        have y0' := Z6.c0; have y1' := Z6.c1; have y2' := Z6.c2; have y3' := Z6.c3
        go_wp2_with fail
        go_region_with (first
          | (go_at_call 23; refine (Q.toAsn_any _ _ _ _ _ _ _ _ _ _ _ _ _ i0 i1 i2 i3 ?_ ?_ ?_ ?_).mono ?_; exact vv0.below L7.drew (Nat.le_refl _); exact vv1.below L7.drew (Nat.le_refl _); exact vv2.below L7.drew (Nat.le_refl _); exact vv3.below L7.drew (Nat.le_refl _); rintro e w12 ⟨f0, f1, f2, f3, rfl, -, -, -, -, tt0, tt1, tt2, tt3, hb9⟩; have Y9 := Z6.drew.below hb9 Z6.lt; have zz0 := Y9.c0; have zz1 := Y9.c1; have zz2 := Y9.c2; have zz3 := Y9.c3; clear Y9)
          | (go_at_call 25; refine (Q.eqAsn_same _ _ _ _ _ _ _ _ _ _ _ _ _ _ _ _ _ _ _ _ _ i0 i1 i2 i3 ?_ ?_ ?_ ?_ ?_ ?_ ?_ ?_).mono ?_; exact (q0.drew.below hb9 q0.1).row; exact (q1.drew.below hb9 q1.1).row; exact (q2.drew.below hb9 q2.1).row; exact (q3.drew.below hb9 q3.1).row; exact tt0.row; exact tt1.row; exact tt2.row; exact tt3.row; rintro e w13 ⟨rfl, hb10⟩))
        all_goals
          have L11 : Below w.heap.size w w13 := (L7.drew.trans (hb9.mono L7.size)).trans (hb10.mono (L7.drew.trans (hb9.mono L7.size)).size)
          go_wp2
          go_ret
          exact ⟨rfl, L11⟩

end Go.Proofs.Ytokdhbegkbilbaa.refuted
