/-
  The walk of the law FnExactHolds.
-/
import Derived.Test.YtagcbnngacealaaHd
import Derived.Test.YtagcbnngacealaaMk
import Derived.Test.YtagcbnngacealaaQSz
import Derived.Test.YtagcbnngacealaaQTo
import Derived.Test.YtagcbnngacealaaQEq
namespace Go.Proofs.Ytagcbnngacealaa.holds
open Go.RowKit

set_option maxHeartbeats 4000000 in
theorem walk (a0 a1 : Option Addr) (c0 c1 : Nat) (t hv : List Int) (d0 d1 d2 d3 : Option Addr) (g0 g1 g2 g3 : Nat) (l0 l1 l2 l3 : List (Int × Int)) (w : World) (m0 : t.length ≤ maxLen) (m1 : hv.length ≤ maxLen) (r0 : IRow w a0 t) (r1 : IRow w a1 hv)
    (u0 : l0.length ≤ maxLen) (u1 : l1.length ≤ maxLen) (u2 : l2.length ≤ maxLen) (u3 : l3.length ≤ maxLen) (v0 : Q.PRow w d0 l0) (v1 : Q.PRow w d1 l1) (v2 : Q.PRow w d2 l2) (v3 : Q.PRow w d3 l3) :
    Calls Try.prog 9 #[.agg #[.slice a0 t.length c0, .slice a1 hv.length c1], .agg #[.slice d0 l0.length g0, .slice d1 l1.length g1, .slice d2 l2.length g2, .slice d3 l3.length g3]] w fun e w' => e = .returned (.bool true) ∧ Below w.heap.size w w' := by
  have A0 := (Box.new w (.slice a0 t.length c0) (.slice a1 hv.length c1) 41).alloc (.cells #[.slice d0 l0.length g0, .slice d1 l1.length g1, .slice d2 l2.length g2, .slice d3 l3.length g3] 24)
  have D0 := Q.Box.new (w.alloc (.cells #[.slice a0 t.length c0, .slice a1 hv.length c1] 41)) (.slice d0 l0.length g0) (.slice d1 l1.length g1) (.slice d2 l2.length g2) (.slice d3 l3.length g3) 24
  rw [World.size_alloc] at D0
  have L0 : Below w.heap.size w ((w.alloc (.cells #[.slice a0 t.length c0, .slice a1 hv.length c1] 41)).alloc (.cells #[.slice d0 l0.length g0, .slice d1 l1.length g1, .slice d2 l2.length g2, .slice d3 l3.length g3] 24)) := ((Below.refl _ _).alloc (Nat.le_refl _) _).alloc (by simp) _
  go_enter Try.func9, Try.ntmps9
  go_wp2_with fail
  generalize ((w.alloc (.cells #[.slice a0 t.length c0, .slice a1 hv.length c1] 41)).alloc (.cells #[.slice d0 l0.length g0, .slice d1 l1.length g1, .slice d2 l2.length g2, .slice d3 l3.length g3] 24)) = W0 at *
  refine (szState_any _ _ _ _ _ _ _ _ m0 m1 (by omega) (by omega)).mono ?_
  rintro e w1 ⟨rfl, hb⟩
  have A1 := A0.keep hb; have D1 := D0.below hb D0.lt; have L1 := L0.trans (hb.mono L0.size)
  clear hb A0 D0 L0
  by_cases hT : 1048576 < t.length + hv.length
  · rw [show szI ((t.length : Int) + hv.length) 1048576 = -1 by unfold szI; rw [if_pos (by omega)]]
    go_wp2
    go_ret
    exact ⟨rfl, L1⟩
  have n0 : t.length ≤ 1048576 := by omega
  have n1 : hv.length ≤ 1048576 := by omega
  obtain ⟨left, hl, hl0, hl1⟩ : ∃ left : Int, szI ((t.length : Int) + hv.length) 1048576 = left ∧ ¬ left < 0 ∧ left ≤ 1048576 := ⟨_, rfl, by unfold szI; rw [if_neg (by omega)]; omega, by unfold szI; rw [if_neg (by omega)]; omega⟩
  rw [hl]
  clear hl hT
  have x0 := D1.c0; have x1 := D1.c1; have x2 := D1.c2; have x3 := D1.c3
  go_wp2_with fail
  refine (Q.szAsn_any _ _ _ _ _ _ _ _ _ _ _ _ _ _ u0 u1 u2 u3 (by omega) hl1).mono ?_
  rintro e w2 ⟨rfl, hb⟩
  have A2 := A1.keep hb; have D2 := D1.below hb D1.lt; have L2 := L1.trans (hb.mono L1.size)
  clear hb A1 D1 L1 x0 x1 x2 x3
  by_cases hT : left < (l0.length : Int) + l1.length + l2.length + l3.length
  · rw [show Q.szI ((l0.length : Int) + l1.length + l2.length + l3.length) left = -1 by unfold Q.szI; rw [if_pos (by omega)]]
    go_wp2
    go_ret
    exact ⟨rfl, L2⟩
  have j0 : l0.length ≤ 1048576 := by omega
  have j1 : l1.length ≤ 1048576 := by omega
  have j2 : l2.length ≤ 1048576 := by omega
  have j3 : l3.length ≤ 1048576 := by omega
  obtain ⟨left2, hl2, hl3⟩ : ∃ left2 : Int, Q.szI ((l0.length : Int) + l1.length + l2.length + l3.length) left = left2 ∧ ¬ left2 < 0 := ⟨_, rfl, by unfold Q.szI; rw [if_neg (by omega)]; omega⟩
  rw [hl2]
  clear hl2 hT hl1
  have hS0 : w2.drew.cell? ⟨w.heap.size, 0, none⟩ = some (.slice a0 t.length c0) ∧ w2.drew.cell? ⟨w.heap.size, 1, none⟩ = some (.slice a1 hv.length c1) ∧ w2.drew.cell? ⟨w.heap.size + 1, 0, none⟩ = some (.slice d0 l0.length g0) ∧ w2.drew.cell? ⟨w.heap.size + 1, 1, none⟩ = some (.slice d1 l1.length g1) ∧ w2.drew.cell? ⟨w.heap.size + 1, 2, none⟩ = some (.slice d2 l2.length g2) ∧ w2.drew.cell? ⟨w.heap.size + 1, 3, none⟩ = some (.slice d3 l3.length g3) := ⟨A2.c0, A2.c1, D2.c0, D2.c1, D2.c2, D2.c3⟩
  have L3 := L2.drew
  clear A2 D2 L2
  go_wp2
  go_region_held3 (fun W => W.cell? ⟨w.heap.size, 0, none⟩ = some (.slice a0 t.length c0) ∧ W.cell? ⟨w.heap.size, 1, none⟩ = some (.slice a1 hv.length c1) ∧ W.cell? ⟨w.heap.size + 1, 0, none⟩ = some (.slice d0 l0.length g0) ∧ W.cell? ⟨w.heap.size + 1, 1, none⟩ = some (.slice d1 l1.length g1) ∧ W.cell? ⟨w.heap.size + 1, 2, none⟩ = some (.slice d2 l2.length g2) ∧ W.cell? ⟨w.heap.size + 1, 3, none⟩ = some (.slice d3 l3.length g3))
    (first | exact hS0 | assumption | (refine ⟨?_, ?_, ?_, ?_, ?_, ?_⟩ <;> assumption))
    (first
      | (go_at_call 31; refine (toState_any _ _ _ _ _ _ _ n0 n1 (r0.below L3 (Nat.le_refl _)) (r1.below L3 (Nat.le_refl _))).mono ?_; rintro e z1 ⟨b0, b1, rfl, -, -, o0, o1, h1⟩; have k1 : z1.cell? ⟨w.heap.size, 0, none⟩ = some (.slice a0 t.length c0) ∧ z1.cell? ⟨w.heap.size, 1, none⟩ = some (.slice a1 hv.length c1) ∧ z1.cell? ⟨w.heap.size + 1, 0, none⟩ = some (.slice d0 l0.length g0) ∧ z1.cell? ⟨w.heap.size + 1, 1, none⟩ = some (.slice d1 l1.length g1) ∧ z1.cell? ⟨w.heap.size + 1, 2, none⟩ = some (.slice d2 l2.length g2) ∧ z1.cell? ⟨w.heap.size + 1, 3, none⟩ = some (.slice d3 l3.length g3) := ⟨cell_keep hS0.1 h1, cell_keep hS0.2.1 h1, cell_keep hS0.2.2.1 h1, cell_keep hS0.2.2.2.1 h1, cell_keep hS0.2.2.2.2.1 h1, cell_keep hS0.2.2.2.2.2 h1⟩; have L4 := L3.trans (h1.mono L3.size))
      | (go_at_call 20; refine (Q.toAsn_any _ _ _ _ _ _ _ _ _ _ _ _ _ j0 j1 j2 j3 (v0.below L4 (Nat.le_refl _)) (v1.below L4 (Nat.le_refl _)) (v2.below L4 (Nat.le_refl _)) (v3.below L4 (Nat.le_refl _))).mono ?_; rintro e z2 ⟨y0, y1, y2, y3, rfl, -, -, -, -, p0, p1, p2, p3, h2⟩; have k2 : z2.cell? ⟨w.heap.size, 0, none⟩ = some (.slice a0 t.length c0) ∧ z2.cell? ⟨w.heap.size, 1, none⟩ = some (.slice a1 hv.length c1) ∧ z2.cell? ⟨w.heap.size + 1, 0, none⟩ = some (.slice d0 l0.length g0) ∧ z2.cell? ⟨w.heap.size + 1, 1, none⟩ = some (.slice d1 l1.length g1) ∧ z2.cell? ⟨w.heap.size + 1, 2, none⟩ = some (.slice d2 l2.length g2) ∧ z2.cell? ⟨w.heap.size + 1, 3, none⟩ = some (.slice d3 l3.length g3) := ⟨cell_keep k1.1 h2, cell_keep k1.2.1 h2, cell_keep k1.2.2.1 h2, cell_keep k1.2.2.2.1 h2, cell_keep k1.2.2.2.2.1 h2, cell_keep k1.2.2.2.2.2 h2⟩; have L5 := L4.trans (h2.mono L4.size); replace o0 := o0.keep h2; replace o1 := o1.keep h2)
      | (go_at_call 42; refine (sHolds_any _ _ _ _ _ _ _ _ _ _ _ _ _ _ _ _ _ _ _ n0 n1 j0 j1 j2 j3 o0 o1 p0 p1 p2 p3).mono ?_; rintro e z3 ⟨rfl, h3⟩; have k3 : z3.cell? ⟨w.heap.size, 0, none⟩ = some (.slice a0 t.length c0) ∧ z3.cell? ⟨w.heap.size, 1, none⟩ = some (.slice a1 hv.length c1) ∧ z3.cell? ⟨w.heap.size + 1, 0, none⟩ = some (.slice d0 l0.length g0) ∧ z3.cell? ⟨w.heap.size + 1, 1, none⟩ = some (.slice d1 l1.length g1) ∧ z3.cell? ⟨w.heap.size + 1, 2, none⟩ = some (.slice d2 l2.length g2) ∧ z3.cell? ⟨w.heap.size + 1, 3, none⟩ = some (.slice d3 l3.length g3) := ⟨cell_keep k2.1 h3, cell_keep k2.2.1 h3, cell_keep k2.2.2.1 h3, cell_keep k2.2.2.2.1 h3, cell_keep k2.2.2.2.2.1 h3, cell_keep k2.2.2.2.2.2 h3⟩; have L6 := L5.trans (h3.mono L5.size)))
  all_goals
    obtain ⟨s0, s1, s2, s3, s4, s5⟩ := k3
    clear hS0 k1 k2 L3 L4 L5 h1 h2 h3 o0 o1 p0 p1 p2 p3
    have hlN : w.heap.size + 1 < z3.heap.size := World.block_lt_of_cell? _ _ s2
    go_wp2_with fail
    refine (toState_any _ _ _ _ _ _ _ n0 n1 (by exact r0.below L6 (Nat.le_refl _)) (by exact r1.below L6 (Nat.le_refl _))).mono ?_
    rintro e w4 ⟨e0, e1, rfl, -, -, o0, o1, hb⟩
    have L7 := L6.trans (hb.mono L6.size)
    replace s0 := cell_keep s0 hb; replace s1 := cell_keep s1 hb; replace s2 := cell_keep s2 hb; replace s3 := cell_keep s3 hb; replace s4 := cell_keep s4 hb; replace s5 := cell_keep s5 hb
    clear hb L6
    have X4 := Box.new w4 (.slice (some ⟨e0, 0, none⟩) t.length t.length) (.slice (some ⟨e1, 0, none⟩) hv.length hv.length) 44
    have al : Below w4.heap.size w4 (w4.alloc (.cells #[.slice (some ⟨e0, 0, none⟩) t.length t.length, .slice (some ⟨e1, 0, none⟩) hv.length hv.length] 44)) := (Below.refl _ _).alloc (Nat.le_refl _) _
    replace o0 := o0.keep al; replace o1 := o1.keep al; replace L7 := L7.trans (al.mono L7.size)
    replace s0 := cell_keep s0 al; replace s1 := cell_keep s1 al; replace s2 := cell_keep s2 al; replace s3 := cell_keep s3 al; replace s4 := cell_keep s4 al; replace s5 := cell_keep s5 al
    clear al
    go_wp2_with fail
    refine (Q.toAsn_any _ _ _ _ _ _ _ _ _ _ _ _ _ j0 j1 j2 j3 (by exact v0.below L7 (Nat.le_refl _)) (by exact v1.below L7 (Nat.le_refl _)) (by exact v2.below L7 (Nat.le_refl _)) (by exact v3.below L7 (Nat.le_refl _))).mono ?_
    rintro e w5 ⟨x0, x1, x2, x3, rfl, -, -, -, -, p0, p1, p2, p3, hb⟩
    have X5 := X4.keep hb; have L8 := L7.trans (hb.mono L7.size)
    replace o0 := o0.keep hb; replace o1 := o1.keep hb
    replace s0 := cell_keep s0 hb; replace s1 := cell_keep s1 hb; replace s2 := cell_keep s2 hb; replace s3 := cell_keep s3 hb; replace s4 := cell_keep s4 hb; replace s5 := cell_keep s5 hb
    clear hb L7 X4
    generalize w4.heap.size = N4 at *
    have Y5 := Q.Box.new w5 (.slice (some ⟨x0, 0, none⟩) l0.length l0.length) (.slice (some ⟨x1, 0, none⟩) l1.length l1.length) (.slice (some ⟨x2, 0, none⟩) l2.length l2.length) (.slice (some ⟨x3, 0, none⟩) l3.length l3.length) 28
    have al : Below w5.heap.size w5 (w5.alloc (.cells #[.slice (some ⟨x0, 0, none⟩) l0.length l0.length, .slice (some ⟨x1, 0, none⟩) l1.length l1.length, .slice (some ⟨x2, 0, none⟩) l2.length l2.length, .slice (some ⟨x3, 0, none⟩) l3.length l3.length] 28)) := (Below.refl _ _).alloc (Nat.le_refl _) _
    replace o0 := o0.keep al; replace o1 := o1.keep al; replace L8 := L8.trans (al.mono L8.size); replace X5 := X5.keep al
    replace p0 := p0.below al p0.1; replace p1 := p1.below al p1.1; replace p2 := p2.below al p2.1; replace p3 := p3.below al p3.1
    replace s0 := cell_keep s0 al; replace s1 := cell_keep s1 al; replace s2 := cell_keep s2 al; replace s3 := cell_keep s3 al; replace s4 := cell_keep s4 al; replace s5 := cell_keep s5 al
    clear al
    have y0 := X5.c0; have y1 := X5.c1
    go_wp2_with fail
    clear y0 y1
    refine (iHolds_any _ _ _ _ _ _ _ _ _ _ _ _ _ _ _ _ _ _ _ n0 n1 j0 j1 j2 j3 (by exact o0) (by exact o1) (by exact p0) (by exact p1) (by exact p2) (by exact p3)).mono ?_
    rintro e w6 ⟨rfl, hb⟩
    have X6 := X5.keep hb; have L9 := L8.trans (hb.mono L8.size); have Y6 := Y5.below hb Y5.lt
    replace o0 := o0.keep hb; replace o1 := o1.keep hb
    replace p0 := p0.below hb p0.1; replace p1 := p1.below hb p1.1; replace p2 := p2.below hb p2.1; replace p3 := p3.below hb p3.1
    replace s0 := cell_keep s0 hb; replace s1 := cell_keep s1 hb; replace s2 := cell_keep s2 hb; replace s3 := cell_keep s3 hb; replace s4 := cell_keep s4 hb; replace s5 := cell_keep s5 hb
    clear hb L8 X5 Y5
    generalize w5.heap.size = N5 at *
    generalize holdsV t hv l0 l1 l2 l3 = gg
    have y0 := X6.c0; have y1 := X6.c1
    go_wp2_with fail
    go_region_with (first
      | (go_at_call 31; refine (toState_any _ _ _ _ _ _ _ n0 n1 ?_ ?_).mono ?_; exact r0.below L9.drew (Nat.le_refl _); exact r1.below L9.drew (Nat.le_refl _); rintro e w7 ⟨k0, k1, rfl, -, -, q0, q1, hb7⟩; have X7 := X6.drew.below hb7 X6.lt; have z0 := X7.c0; have z1' := X7.c1; clear X7)
      | (go_at_call 33; refine (eqState_rows 0 w7.heap.size 0 w7.heap.size 0 w7.heap.size 0 w7.heap.size _ _ _ _ _ _ _ _ _ _ t hv _ n0 n1 ?_ ?_ ?_ ?_ (Nat.le_refl _) (Nat.le_refl _) (Nat.le_refl _) (Nat.le_refl _)).mono ?_; exact IntIn.ofOwn (o0.drew.below hb7 o0.1) rfl (Nat.zero_le _) (o0.drew.below hb7 o0.1).1; exact IntIn.ofOwn (o1.drew.below hb7 o1.1) rfl (Nat.zero_le _) (o1.drew.below hb7 o1.1).1; exact IntIn.ofOwn q0 rfl (Nat.zero_le _) q0.1; exact IntIn.ofOwn q1 rfl (Nat.zero_le _) q1.1; rintro e w8 ⟨rfl, hb8⟩))
    all_goals
      have hb : Below w6.heap.size w6 w8 := ((Below.refl _ _).drew.trans hb7).trans (hb8.mono (by have := hb7.size; simpa using this))
      have L10 := L9.trans (hb.mono L9.size); have Y8 := Y6.below hb Y6.lt
      replace p0 := p0.below hb p0.1; replace p1 := p1.below hb p1.1; replace p2 := p2.below hb p2.1; replace p3 := p3.below hb p3.1
      replace s2 := cell_keep s2 hb; replace s3 := cell_keep s3 hb; replace s4 := cell_keep s4 hb; replace s5 := cell_keep s5 hb
      clear hb hb7 hb8 L9 X6 Y6 y0 y1 s0 s1 z0 z1' q0 q1 o0 o1
      have y0 := Y8.c0; have y1 := Y8.c1; have y2 := Y8.c2; have y3 := Y8.c3
      go_wp2_with fail
      go_region_with (first
        | (go_at_call 20; refine (Q.toAsn_any _ _ _ _ _ _ _ _ _ _ _ _ _ j0 j1 j2 j3 ?_ ?_ ?_ ?_).mono ?_; exact v0.below L10.drew (Nat.le_refl _); exact v1.below L10.drew (Nat.le_refl _); exact v2.below L10.drew (Nat.le_refl _); exact v3.below L10.drew (Nat.le_refl _); rintro e w9 ⟨f0, f1, f2, f3, rfl, -, -, -, -, q0, q1, q2, q3, hb9⟩; have Y9 := Y8.drew.below hb9 Y8.lt; have zz0 := Y9.c0; have zz1 := Y9.c1; have zz2 := Y9.c2; have zz3 := Y9.c3; clear Y9)
        | (go_at_call 22; refine (Q.eqAsn_same _ _ _ _ _ _ _ _ _ _ _ _ _ _ _ _ _ _ _ _ _ j0 j1 j2 j3 ?_ ?_ ?_ ?_ ?_ ?_ ?_ ?_).mono ?_; exact (p0.drew.below hb9 p0.1).row; exact (p1.drew.below hb9 p1.1).row; exact (p2.drew.below hb9 p2.1).row; exact (p3.drew.below hb9 p3.1).row; exact q0.row; exact q1.row; exact q2.row; exact q3.row; rintro e w10 ⟨rfl, hb10⟩))
      all_goals
        have L11 : Below w.heap.size w w10 := (L10.drew.trans (hb9.mono L10.size)).trans (hb10.mono (L10.drew.trans (hb9.mono L10.size)).size)
        go_wp2
        go_ret
        exact ⟨rfl, L11⟩

end Go.Proofs.Ytagcbnngacealaa.holds
