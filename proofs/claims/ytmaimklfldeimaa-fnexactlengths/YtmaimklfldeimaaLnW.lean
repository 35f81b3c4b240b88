/-
  The walk of the law FnExactLengths.
-/
import Derived.Test.YtmaimklfldeimaaLi
import Derived.Test.YtmaimklfldeimaaMk
import Derived.Test.YtmaimklfldeimaaQSz
import Derived.Test.YtmaimklfldeimaaQTo
import Derived.Test.YtmaimklfldeimaaQEq
import Derived.Test.YtmaimklfldeimaaQMk
namespace Go.Proofs.Ytmaimklfldeimaa.lengths
open Go.RowKit

set_option maxHeartbeats 4000000 in
theorem walk (a0 a1 : Option Addr) (c0 c1 : Nat) (t hv : List Int) (d0 d1 d2 d3 : Option Addr) (g0 g1 g2 g3 : Nat) (l0 l1 l2 l3 : List (Int × Int)) (w : World) (m0 : t.length ≤ maxLen) (m1 : hv.length ≤ maxLen) (r0 : IRow w a0 t) (r1 : IRow w a1 hv)
    (u0 : l0.length ≤ maxLen) (u1 : l1.length ≤ maxLen) (u2 : l2.length ≤ maxLen) (u3 : l3.length ≤ maxLen) (v0 : Q.PRow w d0 l0) (v1 : Q.PRow w d1 l1) (v2 : Q.PRow w d2 l2) (v3 : Q.PRow w d3 l3) :
    Calls Try.prog 18 #[.agg #[.slice a0 t.length c0, .slice a1 hv.length c1], .agg #[.slice d0 l0.length g0, .slice d1 l1.length g1, .slice d2 l2.length g2, .slice d3 l3.length g3]] w fun e w' => e = .returned (.bool true) ∧ Below w.heap.size w w' := by
  have A0 := (Box.new w (.slice a0 t.length c0) (.slice a1 hv.length c1) 41).alloc (.cells #[.slice d0 l0.length g0, .slice d1 l1.length g1, .slice d2 l2.length g2, .slice d3 l3.length g3] 24)
  have D0 := Q.Box.new (w.alloc (.cells #[.slice a0 t.length c0, .slice a1 hv.length c1] 41)) (.slice d0 l0.length g0) (.slice d1 l1.length g1) (.slice d2 l2.length g2) (.slice d3 l3.length g3) 24
  rw [World.size_alloc] at D0
  have L0 : Below w.heap.size w ((w.alloc (.cells #[.slice a0 t.length c0, .slice a1 hv.length c1] 41)).alloc (.cells #[.slice d0 l0.length g0, .slice d1 l1.length g1, .slice d2 l2.length g2, .slice d3 l3.length g3] 24)) := ((Below.refl _ _).alloc (Nat.le_refl _) _).alloc (by simp) _
  go_enter Try.func18, Try.ntmps18
  go_wp2_with fail
  generalize ((w.alloc (.cells #[.slice a0 t.length c0, .slice a1 hv.length c1] 41)).alloc (.cells #[.slice d0 l0.length g0, .slice d1 l1.length g1, .slice d2 l2.length g2, .slice d3 l3.length g3] 24)) = W0 at *
  refine (szState_any _ _ _ _ _ _ _ _ m0 m1 (by omega) (by omega)).mono ?_
  rintro e w1 ⟨rfl, hb⟩
  have A1 := A0.keep hb; have D1 := D0.below hb D0.lt; have L1 := L0.trans (hb.mono L0.size)
  clear hb A0 D0 L0
  by_cases hT : 1048576 < t.length + hv.length
  · rw [show szI ((t.length : Int) + hv.length) 1048576 = -1 by unfold szI; rw [if_pos (by omega)]]
    go_wp2
    go_ret
    exact ⟨rfl, L1⟩
  have n0 : t.length ≤ 1048576 := by omega
  have n1 : hv.length ≤ 1048576 := by omega
  obtain ⟨left, hl, hl0, hl1⟩ : ∃ left : Int, szI ((t.length : Int) + hv.length) 1048576 = left ∧ ¬ left < 0 ∧ left ≤ 1048576 := ⟨_, rfl, by unfold szI; rw [if_neg (by omega)]; omega, by unfold szI; rw [if_neg (by omega)]; omega⟩
  rw [hl]
  clear hl hT
  have x0 := D1.c0; have x1 := D1.c1; have x2 := D1.c2; have x3 := D1.c3
  go_wp2_with fail
  refine (Q.szAsn_any _ _ _ _ _ _ _ _ _ _ _ _ _ _ u0 u1 u2 u3 (by omega) hl1).mono ?_
  rintro e w2 ⟨rfl, hb⟩
  have A2 := A1.keep hb; have D2 := D1.below hb D1.lt; have L2 := L1.trans (hb.mono L1.size)
  clear hb A1 D1 L1 x0 x1 x2 x3
  by_cases hT : left < (l0.length : Int) + l1.length + l2.length + l3.length
  · rw [show Q.szI ((l0.length : Int) + l1.length + l2.length + l3.length) left = -1 by unfold Q.szI; rw [if_pos (by omega)]]
    go_wp2
    go_ret
    exact ⟨rfl, L2⟩
  have j0 : l0.length ≤ 1048576 := by omega
  have j1 : l1.length ≤ 1048576 := by omega
  have j2 : l2.length ≤ 1048576 := by omega
  have j3 : l3.length ≤ 1048576 := by omega
  obtain ⟨left2, hl2, hl3⟩ : ∃ left2 : Int, Q.szI ((l0.length : Int) + l1.length + l2.length + l3.length) left = left2 ∧ ¬ left2 < 0 := ⟨_, rfl, by unfold Q.szI; rw [if_neg (by omega)]; omega⟩
  rw [hl2]
  clear hl2 hT hl1
  have hS0 : w2.drew.cell? ⟨w.heap.size, 0, none⟩ = some (.slice a0 t.length c0) ∧ w2.drew.cell? ⟨w.heap.size, 1, none⟩ = some (.slice a1 hv.length c1) ∧ w2.drew.cell? ⟨w.heap.size + 1, 0, none⟩ = some (.slice d0 l0.length g0) ∧ w2.drew.cell? ⟨w.heap.size + 1, 1, none⟩ = some (.slice d1 l1.length g1) ∧ w2.drew.cell? ⟨w.heap.size + 1, 2, none⟩ = some (.slice d2 l2.length g2) ∧ w2.drew.cell? ⟨w.heap.size + 1, 3, none⟩ = some (.slice d3 l3.length g3) := ⟨A2.c0, A2.c1, D2.c0, D2.c1, D2.c2, D2.c3⟩
  have L3 := L2.drew
  clear A2 D2 L2
  go_wp2
  go_region_held3 (fun W => W.cell? ⟨w.heap.size, 0, none⟩ = some (.slice a0 t.length c0) ∧ W.cell? ⟨w.heap.size, 1, none⟩ = some (.slice a1 hv.length c1) ∧ W.cell? ⟨w.heap.size + 1, 0, none⟩ = some (.slice d0 l0.length g0) ∧ W.cell? ⟨w.heap.size + 1, 1, none⟩ = some (.slice d1 l1.length g1) ∧ W.cell? ⟨w.heap.size + 1, 2, none⟩ = some (.slice d2 l2.length g2) ∧ W.cell? ⟨w.heap.size + 1, 3, none⟩ = some (.slice d3 l3.length g3))
    (first | exact hS0 | assumption | (refine ⟨?_, ?_, ?_, ?_, ?_, ?_⟩ <;> assumption))
    (first
      | (go_at_call 32; refine (toState_any _ _ _ _ _ _ _ n0 n1 (r0.below L3 (Nat.le_refl _)) (r1.below L3 (Nat.le_refl _))).mono ?_; rintro e z1 ⟨b0, b1, rfl, -, -, o0, o1, h1⟩; have k1 : z1.cell? ⟨w.heap.size, 0, none⟩ = some (.slice a0 t.length c0) ∧ z1.cell? ⟨w.heap.size, 1, none⟩ = some (.slice a1 hv.length c1) ∧ z1.cell? ⟨w.heap.size + 1, 0, none⟩ = some (.slice d0 l0.length g0) ∧ z1.cell? ⟨w.heap.size + 1, 1, none⟩ = some (.slice d1 l1.length g1) ∧ z1.cell? ⟨w.heap.size + 1, 2, none⟩ = some (.slice d2 l2.length g2) ∧ z1.cell? ⟨w.heap.size + 1, 3, none⟩ = some (.slice d3 l3.length g3) := ⟨cell_keep hS0.1 h1, cell_keep hS0.2.1 h1, cell_keep hS0.2.2.1 h1, cell_keep hS0.2.2.2.1 h1, cell_keep hS0.2.2.2.2.1 h1, cell_keep hS0.2.2.2.2.2 h1⟩; have L4 := L3.trans (h1.mono L3.size))
      | (go_at_call 21; refine (Q.toAsn_any _ _ _ _ _ _ _ _ _ _ _ _ _ j0 j1 j2 j3 (v0.below L4 (Nat.le_refl _)) (v1.below L4 (Nat.le_refl _)) (v2.below L4 (Nat.le_refl _)) (v3.below L4 (Nat.le_refl _))).mono ?_; rintro e z2 ⟨y0, y1, y2, y3, rfl, -, -, -, -, p0, p1, p2, p3, h2⟩; have k2 : z2.cell? ⟨w.heap.size, 0, none⟩ = some (.slice a0 t.length c0) ∧ z2.cell? ⟨w.heap.size, 1, none⟩ = some (.slice a1 hv.length c1) ∧ z2.cell? ⟨w.heap.size + 1, 0, none⟩ = some (.slice d0 l0.length g0) ∧ z2.cell? ⟨w.heap.size + 1, 1, none⟩ = some (.slice d1 l1.length g1) ∧ z2.cell? ⟨w.heap.size + 1, 2, none⟩ = some (.slice d2 l2.length g2) ∧ z2.cell? ⟨w.heap.size + 1, 3, none⟩ = some (.slice d3 l3.length g3) := ⟨cell_keep k1.1 h2, cell_keep k1.2.1 h2, cell_keep k1.2.2.1 h2, cell_keep k1.2.2.2.1 h2, cell_keep k1.2.2.2.2.1 h2, cell_keep k1.2.2.2.2.2 h2⟩; have L5 := L4.trans (h2.mono L4.size); replace o0 := o0.keep h2; replace o1 := o1.keep h2)
      | (go_at_call 63; refine (sLengths_any _ _ _ _ _ _ _ _ _ _ _ _ _ _ _ _ _ _ _ n0 n1 j0 j1 j2 j3 o0 o1 p0 p1 p2 p3).mono ?_; rintro e z3 ⟨aw, cw, rfl, W0, h3⟩; have k3 : z3.cell? ⟨w.heap.size, 0, none⟩ = some (.slice a0 t.length c0) ∧ z3.cell? ⟨w.heap.size, 1, none⟩ = some (.slice a1 hv.length c1) ∧ z3.cell? ⟨w.heap.size + 1, 0, none⟩ = some (.slice d0 l0.length g0) ∧ z3.cell? ⟨w.heap.size + 1, 1, none⟩ = some (.slice d1 l1.length g1) ∧ z3.cell? ⟨w.heap.size + 1, 2, none⟩ = some (.slice d2 l2.length g2) ∧ z3.cell? ⟨w.heap.size + 1, 3, none⟩ = some (.slice d3 l3.length g3) := ⟨cell_keep k2.1 h3, cell_keep k2.2.1 h3, cell_keep k2.2.2.1 h3, cell_keep k2.2.2.2.1 h3, cell_keep k2.2.2.2.2.1 h3, cell_keep k2.2.2.2.2.2 h3⟩; have L6 := L5.trans (h3.mono L5.size)))
  all_goals
    have KK := k3
    have L := L6
    clear hS0 k1 k2 k3 L3 L4 L5 L6 h1 h2 h3 o0 o1 p0 p1 p2 p3
    have V3 : (lenO t hv l0 l1 l2 l3).length ≤ 1048576 := Nat.le_trans (lenO_le _ _ _ _ _ _) j3
    have hlN : w.heap.size + 1 < z3.heap.size := World.block_lt_of_cell? _ _ KK.2.2.1
    have SW : z3.heap.size ≤ z3.heap.size := Nat.le_refl _
    have WW := W0
    clear W0
    generalize z2.heap.size = NW at *
    generalize hV : lenO t hv l0 l1 l2 l3 = l at *
    have HV : Hid (lenO t hv l0 l1 l2 l3 = l) := hV
    clear hV
    generalize hn : l.length = n at *
    have HN : Hid (l.length = n) := hn
    clear hn
    have s0 := KK.1; have s1 := KK.2.1
    go_wp2_with fail
    clear s0 s1
    refine (toState_any _ _ _ _ _ _ _ n0 n1 (by exact r0.below L (Nat.le_refl _)) (by exact r1.below L (Nat.le_refl _))).mono ?_
    rintro e w4 ⟨e0, e1, rfl, ge0, ge1, o0, o1, hb⟩
    have gb : e1 < w4.heap.size := o1.1
    replace KK := (And.intro (cell_keep KK.1 hb) (And.intro (cell_keep KK.2.1 hb) (And.intro (cell_keep KK.2.2.1 hb) (And.intro (cell_keep KK.2.2.2.1 hb) (And.intro (cell_keep KK.2.2.2.2.1 hb) (cell_keep KK.2.2.2.2.2 hb))))))
    replace WW := WW.below hb SW; replace SW := Nat.le_trans SW hb.size
    replace L := L.trans (hb.mono L.size)
    clear hb
    have X := Box.new w4 (.slice (some ⟨e0, 0, none⟩) t.length t.length) (.slice (some ⟨e1, 0, none⟩) hv.length hv.length) 44
    have al : Below w4.heap.size w4 (w4.alloc (.cells #[.slice (some ⟨e0, 0, none⟩) t.length t.length, .slice (some ⟨e1, 0, none⟩) hv.length hv.length] 44)) := (Below.refl _ _).alloc (Nat.le_refl _) _
    replace KK := (And.intro (cell_keep KK.1 al) (And.intro (cell_keep KK.2.1 al) (And.intro (cell_keep KK.2.2.1 al) (And.intro (cell_keep KK.2.2.2.1 al) (And.intro (cell_keep KK.2.2.2.2.1 al) (cell_keep KK.2.2.2.2.2 al))))))
    replace o0 := o0.keep al; replace o1 := o1.keep al
    replace WW := WW.below al SW; replace SW := Nat.le_trans SW al.size
    replace L := L.trans (al.mono L.size)
    clear al
    have s2 := KK.2.2.1; have s3 := KK.2.2.2.1; have s4 := KK.2.2.2.2.1; have s5 := KK.2.2.2.2.2
    go_wp2_with fail
    clear s2 s3 s4 s5
    refine (Q.toAsn_any _ _ _ _ _ _ _ _ _ _ _ _ _ j0 j1 j2 j3 (by exact v0.below L (Nat.le_refl _)) (by exact v1.below L (Nat.le_refl _)) (by exact v2.below L (Nat.le_refl _)) (by exact v3.below L (Nat.le_refl _))).mono ?_
    rintro e w5 ⟨x0, x1, x2, x3, rfl, gx0, gx1, gx2, gx3, p0, p1, p2, p3, hb⟩
    have xlt := X.lt
    rw [World.size_alloc] at gx0
    replace KK := (And.intro (cell_keep KK.1 hb) (And.intro (cell_keep KK.2.1 hb) (And.intro (cell_keep KK.2.2.1 hb) (And.intro (cell_keep KK.2.2.2.1 hb) (And.intro (cell_keep KK.2.2.2.2.1 hb) (cell_keep KK.2.2.2.2.2 hb))))))
    replace o0 := o0.keep hb; replace o1 := o1.keep hb
    replace X := X.keep hb
    replace WW := WW.below hb SW; replace SW := Nat.le_trans SW hb.size
    replace L := L.trans (hb.mono L.size)
    clear hb
    have gx4 := p3.1
    have Y := Q.Box.new w5 (.slice (some ⟨x0, 0, none⟩) l0.length l0.length) (.slice (some ⟨x1, 0, none⟩) l1.length l1.length) (.slice (some ⟨x2, 0, none⟩) l2.length l2.length) (.slice (some ⟨x3, 0, none⟩) l3.length l3.length) 28
    have al : Below w5.heap.size w5 (w5.alloc (.cells #[.slice (some ⟨x0, 0, none⟩) l0.length l0.length, .slice (some ⟨x1, 0, none⟩) l1.length l1.length, .slice (some ⟨x2, 0, none⟩) l2.length l2.length, .slice (some ⟨x3, 0, none⟩) l3.length l3.length] 28)) := (Below.refl _ _).alloc (Nat.le_refl _) _
    replace KK := (And.intro (cell_keep KK.1 al) (And.intro (cell_keep KK.2.1 al) (And.intro (cell_keep KK.2.2.1 al) (And.intro (cell_keep KK.2.2.2.1 al) (And.intro (cell_keep KK.2.2.2.2.1 al) (cell_keep KK.2.2.2.2.2 al))))))
    replace o0 := o0.keep al; replace o1 := o1.keep al
    replace p0 := p0.below al p0.1; replace p1 := p1.below al p1.1; replace p2 := p2.below al p2.1; replace p3 := p3.below al p3.1
    replace X := X.keep al
    replace WW := WW.below al SW; replace SW := Nat.le_trans SW al.size
    replace L := L.trans (al.mono L.size)
    clear al
    generalize w4.heap.size = N4 at *
    have y0 := X.c0; have y1 := X.c1
    go_wp2_with fail
    clear y0 y1
    refine (iLengths_any _ _ _ _ _ _ _ _ _ _ _ _ _ _ _ _ _ _ _ n0 n1 j0 j1 j2 j3 (by exact o0) (by exact o1) (by exact p0) (by exact p1) (by exact p2) (by exact p3)).mono ?_
    rintro e w6 ⟨ag, cg, rfl, G, hb⟩
    generalize w5.heap.size = N5 at *
    rw [HV.out, HN.out] at G
    rw [HV.out, HN.out]
    have SG : w6.heap.size ≤ w6.heap.size := Nat.le_refl _
    have NG := Y.lt
    replace KK := (And.intro (cell_keep KK.1 hb) (And.intro (cell_keep KK.2.1 hb) (And.intro (cell_keep KK.2.2.1 hb) (And.intro (cell_keep KK.2.2.2.1 hb) (And.intro (cell_keep KK.2.2.2.2.1 hb) (cell_keep KK.2.2.2.2.2 hb))))))
    replace o0 := o0.keep hb; replace o1 := o1.keep hb
    replace p0 := p0.below hb p0.1; replace p1 := p1.below hb p1.1; replace p2 := p2.below hb p2.1; replace p3 := p3.below hb p3.1
    replace X := X.keep hb
    replace Y := Y.below hb Y.lt
    replace WW := WW.below hb SW; replace SW := Nat.le_trans SW hb.size
    replace L := L.trans (hb.mono L.size)
    clear hb
    go_wp2_with fail
    refine (eqIntS_rows _ _ _ _ _ _ _ _ _ _ _ V3 (by exact G) (by exact WW)).mono ?_
    rintro e w7 ⟨rfl, hb⟩
    replace KK := (And.intro (cell_keep KK.1 hb) (And.intro (cell_keep KK.2.1 hb) (And.intro (cell_keep KK.2.2.1 hb) (And.intro (cell_keep KK.2.2.2.1 hb) (And.intro (cell_keep KK.2.2.2.2.1 hb) (cell_keep KK.2.2.2.2.2 hb))))))
    replace o0 := o0.keep hb; replace o1 := o1.keep hb
    replace p0 := p0.below hb p0.1; replace p1 := p1.below hb p1.1; replace p2 := p2.below hb p2.1; replace p3 := p3.below hb p3.1
    replace X := X.keep hb
    replace Y := Y.below hb Y.lt
    replace WW := WW.below hb SW; replace SW := Nat.le_trans SW hb.size
    replace G := G.below hb SG; replace SG := Nat.le_trans SG hb.size
    replace L := L.trans (hb.mono L.size)
    clear hb
    have y0 := X.c0; have y1 := X.c1
    have s0 := KK.1; have s1 := KK.2.1
    go_wp2_with fail
    go_region_with (first
      | (go_at_call 32; refine (toState_any _ _ _ _ _ _ _ n0 n1 ?_ ?_).mono ?_; exact r0.below L.drew (Nat.le_refl _); exact r1.below L.drew (Nat.le_refl _); rintro e w8 ⟨k0, k1, rfl, -, -, q0, q1, hb8⟩; have X7 := X.drew.below hb8 X.lt; have z0 := X7.c0; have z1' := X7.c1; clear X7)
      | (go_at_call 34; refine (eqState_rows 0 w8.heap.size 0 w8.heap.size 0 w8.heap.size 0 w8.heap.size _ _ _ _ _ _ _ _ _ _ t hv _ n0 n1 ?_ ?_ ?_ ?_ (Nat.le_refl _) (Nat.le_refl _) (Nat.le_refl _) (Nat.le_refl _)).mono ?_; exact IntIn.ofOwn (o0.drew.below hb8 o0.1) rfl (Nat.zero_le _) (o0.drew.below hb8 o0.1).1; exact IntIn.ofOwn (o1.drew.below hb8 o1.1) rfl (Nat.zero_le _) (o1.drew.below hb8 o1.1).1; exact IntIn.ofOwn q0 rfl (Nat.zero_le _) q0.1; exact IntIn.ofOwn q1 rfl (Nat.zero_le _) q1.1; rintro e w9 ⟨rfl, hb9⟩))
    all_goals
      have hb : Below w7.heap.size w7 w9 := ((Below.refl _ _).drew.trans hb8).trans (hb9.mono (by have := hb8.size; simpa using this))
      clear s0 s1 y0 y1 z0 z1' q0 q1 hb8 hb9
      replace KK := (And.intro (cell_keep KK.1 hb) (And.intro (cell_keep KK.2.1 hb) (And.intro (cell_keep KK.2.2.1 hb) (And.intro (cell_keep KK.2.2.2.1 hb) (And.intro (cell_keep KK.2.2.2.2.1 hb) (cell_keep KK.2.2.2.2.2 hb))))))
      replace o0 := o0.keep hb; replace o1 := o1.keep hb
      replace p0 := p0.below hb p0.1; replace p1 := p1.below hb p1.1; replace p2 := p2.below hb p2.1; replace p3 := p3.below hb p3.1
      replace X := X.keep hb
      replace Y := Y.below hb Y.lt
      replace WW := WW.below hb SW; replace SW := Nat.le_trans SW hb.size
      replace G := G.below hb SG; replace SG := Nat.le_trans SG hb.size
      replace L := L.trans (hb.mono L.size)
      clear hb
      have hT0 : w9.drew.cell? ⟨N5, 0, none⟩ = some (.slice (some ⟨x0, 0, none⟩) l0.length l0.length) ∧ w9.drew.cell? ⟨N5, 1, none⟩ = some (.slice (some ⟨x1, 0, none⟩) l1.length l1.length) ∧ w9.drew.cell? ⟨N5, 2, none⟩ = some (.slice (some ⟨x2, 0, none⟩) l2.length l2.length) ∧ w9.drew.cell? ⟨N5, 3, none⟩ = some (.slice (some ⟨x3, 0, none⟩) l3.length l3.length) ∧ w9.drew.cell? ⟨w.heap.size + 1, 0, none⟩ = some (.slice d0 l0.length g0) ∧ w9.drew.cell? ⟨w.heap.size + 1, 1, none⟩ = some (.slice d1 l1.length g1) ∧ w9.drew.cell? ⟨w.heap.size + 1, 2, none⟩ = some (.slice d2 l2.length g2) ∧ w9.drew.cell? ⟨w.heap.size + 1, 3, none⟩ = some (.slice d3 l3.length g3) := And.intro Y.c0 (And.intro Y.c1 (And.intro Y.c2 (And.intro Y.c3 KK.2.2)))
      have L9 := L.drew
      go_wp2
      go_region_held3 (fun W => W.cell? ⟨N5, 0, none⟩ = some (.slice (some ⟨x0, 0, none⟩) l0.length l0.length) ∧ W.cell? ⟨N5, 1, none⟩ = some (.slice (some ⟨x1, 0, none⟩) l1.length l1.length) ∧ W.cell? ⟨N5, 2, none⟩ = some (.slice (some ⟨x2, 0, none⟩) l2.length l2.length) ∧ W.cell? ⟨N5, 3, none⟩ = some (.slice (some ⟨x3, 0, none⟩) l3.length l3.length) ∧ W.cell? ⟨w.heap.size + 1, 0, none⟩ = some (.slice d0 l0.length g0) ∧ W.cell? ⟨w.heap.size + 1, 1, none⟩ = some (.slice d1 l1.length g1) ∧ W.cell? ⟨w.heap.size + 1, 2, none⟩ = some (.slice d2 l2.length g2) ∧ W.cell? ⟨w.heap.size + 1, 3, none⟩ = some (.slice d3 l3.length g3))
        (first | exact hT0 | assumption | (refine ⟨?_, ?_, ?_, ?_, ?_, ?_, ?_, ?_⟩ <;> assumption))
        (first
          | (go_at_call 21; refine (Q.toAsn_any _ _ _ _ _ _ _ _ _ _ _ _ _ j0 j1 j2 j3 (v0.below L9 (Nat.le_refl _)) (v1.below L9 (Nat.le_refl _)) (v2.below L9 (Nat.le_refl _)) (v3.below L9 (Nat.le_refl _))).mono ?_; rintro e w10 ⟨f0, f1, f2, f3, rfl, -, -, -, -, q0, q1, q2, q3, hb10⟩; have kT : w10.cell? ⟨N5, 0, none⟩ = some (.slice (some ⟨x0, 0, none⟩) l0.length l0.length) ∧ w10.cell? ⟨N5, 1, none⟩ = some (.slice (some ⟨x1, 0, none⟩) l1.length l1.length) ∧ w10.cell? ⟨N5, 2, none⟩ = some (.slice (some ⟨x2, 0, none⟩) l2.length l2.length) ∧ w10.cell? ⟨N5, 3, none⟩ = some (.slice (some ⟨x3, 0, none⟩) l3.length l3.length) ∧ w10.cell? ⟨w.heap.size + 1, 0, none⟩ = some (.slice d0 l0.length g0) ∧ w10.cell? ⟨w.heap.size + 1, 1, none⟩ = some (.slice d1 l1.length g1) ∧ w10.cell? ⟨w.heap.size + 1, 2, none⟩ = some (.slice d2 l2.length g2) ∧ w10.cell? ⟨w.heap.size + 1, 3, none⟩ = some (.slice d3 l3.length g3) := (And.intro (cell_keep hT0.1 hb10) (And.intro (cell_keep hT0.2.1 hb10) (And.intro (cell_keep hT0.2.2.1 hb10) (And.intro (cell_keep hT0.2.2.2.1 hb10) (And.intro (cell_keep hT0.2.2.2.2.1 hb10) (And.intro (cell_keep hT0.2.2.2.2.2.1 hb10) (And.intro (cell_keep hT0.2.2.2.2.2.2.1 hb10) (cell_keep hT0.2.2.2.2.2.2.2 hb10)))))))))
          | (go_at_call 23; refine (Q.eqAsn_same _ _ _ _ _ _ _ _ _ _ _ _ _ _ _ _ _ _ _ _ _ j0 j1 j2 j3 (p0.drew.below hb10 p0.1).row (p1.drew.below hb10 p1.1).row (p2.drew.below hb10 p2.1).row (p3.drew.below hb10 p3.1).row q0.row q1.row q2.row q3.row).mono ?_; rintro e w11 ⟨rfl, hb11⟩; have kU : w11.cell? ⟨N5, 0, none⟩ = some (.slice (some ⟨x0, 0, none⟩) l0.length l0.length) ∧ w11.cell? ⟨N5, 1, none⟩ = some (.slice (some ⟨x1, 0, none⟩) l1.length l1.length) ∧ w11.cell? ⟨N5, 2, none⟩ = some (.slice (some ⟨x2, 0, none⟩) l2.length l2.length) ∧ w11.cell? ⟨N5, 3, none⟩ = some (.slice (some ⟨x3, 0, none⟩) l3.length l3.length) ∧ w11.cell? ⟨w.heap.size + 1, 0, none⟩ = some (.slice d0 l0.length g0) ∧ w11.cell? ⟨w.heap.size + 1, 1, none⟩ = some (.slice d1 l1.length g1) ∧ w11.cell? ⟨w.heap.size + 1, 2, none⟩ = some (.slice d2 l2.length g2) ∧ w11.cell? ⟨w.heap.size + 1, 3, none⟩ = some (.slice d3 l3.length g3) := (And.intro (cell_keep kT.1 hb11) (And.intro (cell_keep kT.2.1 hb11) (And.intro (cell_keep kT.2.2.1 hb11) (And.intro (cell_keep kT.2.2.2.1 hb11) (And.intro (cell_keep kT.2.2.2.2.1 hb11) (And.intro (cell_keep kT.2.2.2.2.2.1 hb11) (And.intro (cell_keep kT.2.2.2.2.2.2.1 hb11) (cell_keep kT.2.2.2.2.2.2.2 hb11))))))))))
      all_goals
        have hb : Below w9.heap.size w9 w11 := ((Below.refl _ _).drew.trans hb10).trans (hb11.mono (by have := hb10.size; simpa using this))
        clear hT0 kT kU L9 q0 q1 q2 q3 hb10 hb11
        replace KK := (And.intro (cell_keep KK.1 hb) (And.intro (cell_keep KK.2.1 hb) (And.intro (cell_keep KK.2.2.1 hb) (And.intro (cell_keep KK.2.2.2.1 hb) (And.intro (cell_keep KK.2.2.2.2.1 hb) (cell_keep KK.2.2.2.2.2 hb))))))
        replace o0 := o0.keep hb; replace o1 := o1.keep hb
        replace p0 := p0.below hb p0.1; replace p1 := p1.below hb p1.1; replace p2 := p2.below hb p2.1; replace p3 := p3.below hb p3.1
        replace X := X.keep hb
        replace Y := Y.below hb Y.lt
        replace WW := WW.below hb SW; replace SW := Nat.le_trans SW hb.size
        replace G := G.below hb SG; replace SG := Nat.le_trans SG hb.size
        replace L := L.trans (hb.mono L.size)
        clear hb
        have y0 := X.c0; have y1 := X.c1
        go_wp2_with fail
        clear y0 y1
        refine (markState_any e0 e1 (e1 + 1) _ _ _ _ _ _ t hv _ _ (by omega) (by omega) (by omega) (by omega) (by omega) (by omega) (by have := o1.1; omega) (by exact IntIn.ofOwn o0 rfl (Nat.le_refl _) ge1) (by exact IntIn.ofOwn o1 rfl (Nat.le_refl _) (by omega))).mono ?_
        rintro e w12 ⟨rfl, -, -, ho⟩
        replace p0 := p0.plain ho (by omega); replace p1 := p1.plain ho (by omega); replace p2 := p2.plain ho (by omega); replace p3 := p3.plain ho (by omega)
        replace Y := Y.plain ho (by have := Y.lt; omega)
        replace KK := And.intro (cell_outS KK.1 ho (by omega)) (And.intro (cell_outS KK.2.1 ho (by omega)) (And.intro (cell_outS KK.2.2.1 ho (by omega)) (And.intro (cell_outS KK.2.2.2.1 ho (by omega)) (And.intro (cell_outS KK.2.2.2.2.1 ho (by omega)) (cell_outS KK.2.2.2.2.2 ho (by omega))))))
        replace WW := WW.out ho (by omega); replace G := G.out ho (by omega)
        replace SW := Nat.le_trans SW ho.size; replace SG := Nat.le_trans SG ho.size
        replace L := L.trans (ho.below (by have := L.size; omega) L.size)
        clear ho X o0 o1
        obtain ⟨K, hK, hK0, hK1⟩ : ∃ K : Int, (1 + (t.length : Int) + hv.length) = K ∧ 0 ≤ K ∧ K ≤ 16777216 := ⟨_, rfl, by omega, by omega⟩
        rw [hK]
        clear hK
        have y0 := Y.c0; have y1 := Y.c1; have y2 := Y.c2; have y3 := Y.c3
        go_wp2_with fail
        clear y0 y1 y2 y3
        refine (Q.markAsnK_any K hK0 hK1 x0 x1 x2 x3 (x3 + 1) _ _ _ _ _ _ _ _ _ _ _ _ l0 l1 l2 l3 _ (by omega) (by omega) (by omega) (by omega) (by omega) (by omega) (by omega) (by omega) (by have := p3.1; omega) (by exact Q.RowIn.ofOwn p0 rfl (Nat.le_refl _) gx1) (by exact Q.RowIn.ofOwn p1 rfl (Nat.le_refl _) gx2) (by exact Q.RowIn.ofOwn p2 rfl (Nat.le_refl _) gx3) (by exact Q.RowIn.ofOwn p3 rfl (Nat.le_refl _) (by omega))).mono ?_
        rintro e w13 ⟨rfl, -, -, -, -, hq⟩
        have ho := hq.plain
        replace KK := And.intro (cell_outS KK.1 ho (by omega)) (And.intro (cell_outS KK.2.1 ho (by omega)) (And.intro (cell_outS KK.2.2.1 ho (by omega)) (And.intro (cell_outS KK.2.2.2.1 ho (by omega)) (And.intro (cell_outS KK.2.2.2.2.1 ho (by omega)) (cell_outS KK.2.2.2.2.2 ho (by omega))))))
        replace WW := WW.out ho (by omega); replace G := G.out ho (by omega)
        replace SW := Nat.le_trans SW ho.size; replace SG := Nat.le_trans SG ho.size
        replace L := L.trans (ho.below (by have := L.size; omega) L.size)
        clear ho hq Y p0 p1 p2 p3
        obtain ⟨K2, hK2, hK3⟩ : ∃ K2 : Int, (K + 2 * (l0.length : Int) + 2 * l1.length + 2 * l2.length + 2 * l3.length) = K2 ∧ ¬ K2 < 0 := ⟨_, rfl, by omega⟩
        rw [hK2]
        clear hK2
        go_wp2_with fail
        refine (eqIntS_rows _ _ _ _ _ _ _ _ _ _ _ V3 (by exact G) (by exact WW)).mono ?_
        rintro e w14 ⟨rfl, hb⟩
        replace KK := (And.intro (cell_keep KK.1 hb) (And.intro (cell_keep KK.2.1 hb) (And.intro (cell_keep KK.2.2.1 hb) (And.intro (cell_keep KK.2.2.2.1 hb) (And.intro (cell_keep KK.2.2.2.2.1 hb) (cell_keep KK.2.2.2.2.2 hb))))))
        replace WW := WW.below hb SW; replace SW := Nat.le_trans SW hb.size
        replace G := G.below hb SG; replace SG := Nat.le_trans SG hb.size
        replace L := L.trans (hb.mono L.size)
        clear hb
        go_wp2_with fail
        refine (markIntS_any _ _ _ _ _ _ _ _ (by omega) (by omega) (by omega) (by exact G)).mono ?_
        rintro e w15 ⟨rfl, G2, ho⟩
        replace KK := And.intro (cell_outS KK.1 ho (by omega)) (And.intro (cell_outS KK.2.1 ho (by omega)) (And.intro (cell_outS KK.2.2.1 ho (by omega)) (And.intro (cell_outS KK.2.2.2.1 ho (by omega)) (And.intro (cell_outS KK.2.2.2.2.1 ho (by omega)) (cell_outS KK.2.2.2.2.2 ho (by omega))))))
        replace WW := WW.out ho (by omega)
        replace SW := Nat.le_trans SW ho.size; replace SG := Nat.le_trans SG ho.size
        replace L := L.trans (ho.below (by have := L.size; omega) L.size)
        clear ho G
        have M0 : ¬ ((1 : Int) + 1 * (n : Int) < 0) := by omega
        go_wp2_with fail
        refine (heldIntS_any _ _ _ _ _ _ _ (by omega) (by omega) (by omega) (by exact G2)).mono ?_
        rintro e wx' ⟨rfl, rfl⟩
        have G := G2
        clear G2
        have hS0 : wx'.drew.cell? ⟨w.heap.size, 0, none⟩ = some (.slice a0 t.length c0) ∧ wx'.drew.cell? ⟨w.heap.size, 1, none⟩ = some (.slice a1 hv.length c1) ∧ wx'.drew.cell? ⟨w.heap.size + 1, 0, none⟩ = some (.slice d0 l0.length g0) ∧ wx'.drew.cell? ⟨w.heap.size + 1, 1, none⟩ = some (.slice d1 l1.length g1) ∧ wx'.drew.cell? ⟨w.heap.size + 1, 2, none⟩ = some (.slice d2 l2.length g2) ∧ wx'.drew.cell? ⟨w.heap.size + 1, 3, none⟩ = some (.slice d3 l3.length g3) := KK
        have L3 := L.drew
        have dr : Below wx'.heap.size wx' wx'.drew := (Below.refl _ _).drew
        replace WW := WW.below dr SW; replace G := G.below dr SG
        replace SW : z3.heap.size ≤ wx'.drew.heap.size := SW
        replace SG : w6.heap.size ≤ wx'.drew.heap.size := SG
        go_wp2
        go_region_held3 (fun W => W.cell? ⟨w.heap.size, 0, none⟩ = some (.slice a0 t.length c0) ∧ W.cell? ⟨w.heap.size, 1, none⟩ = some (.slice a1 hv.length c1) ∧ W.cell? ⟨w.heap.size + 1, 0, none⟩ = some (.slice d0 l0.length g0) ∧ W.cell? ⟨w.heap.size + 1, 1, none⟩ = some (.slice d1 l1.length g1) ∧ W.cell? ⟨w.heap.size + 1, 2, none⟩ = some (.slice d2 l2.length g2) ∧ W.cell? ⟨w.heap.size + 1, 3, none⟩ = some (.slice d3 l3.length g3))
          (first | exact hS0 | assumption | (refine ⟨?_, ?_, ?_, ?_, ?_, ?_⟩ <;> assumption))
          (first
            | (go_at_call 32; refine (toState_any _ _ _ _ _ _ _ n0 n1 (r0.below L3 (Nat.le_refl _)) (r1.below L3 (Nat.le_refl _))).mono ?_; rintro e z4 ⟨b0, b1, rfl, -, -, o0, o1, h1⟩; have k1 : z4.cell? ⟨w.heap.size, 0, none⟩ = some (.slice a0 t.length c0) ∧ z4.cell? ⟨w.heap.size, 1, none⟩ = some (.slice a1 hv.length c1) ∧ z4.cell? ⟨w.heap.size + 1, 0, none⟩ = some (.slice d0 l0.length g0) ∧ z4.cell? ⟨w.heap.size + 1, 1, none⟩ = some (.slice d1 l1.length g1) ∧ z4.cell? ⟨w.heap.size + 1, 2, none⟩ = some (.slice d2 l2.length g2) ∧ z4.cell? ⟨w.heap.size + 1, 3, none⟩ = some (.slice d3 l3.length g3) := (And.intro (cell_keep hS0.1 h1) (And.intro (cell_keep hS0.2.1 h1) (And.intro (cell_keep hS0.2.2.1 h1) (And.intro (cell_keep hS0.2.2.2.1 h1) (And.intro (cell_keep hS0.2.2.2.2.1 h1) (cell_keep hS0.2.2.2.2.2 h1)))))); have L4 := L3.trans (h1.mono L3.size))
            | (go_at_call 21; refine (Q.toAsn_any _ _ _ _ _ _ _ _ _ _ _ _ _ j0 j1 j2 j3 (v0.below L4 (Nat.le_refl _)) (v1.below L4 (Nat.le_refl _)) (v2.below L4 (Nat.le_refl _)) (v3.below L4 (Nat.le_refl _))).mono ?_; rintro e z5 ⟨y0, y1, y2, y3, rfl, -, -, -, -, p0, p1, p2, p3, h2⟩; have k2 : z5.cell? ⟨w.heap.size, 0, none⟩ = some (.slice a0 t.length c0) ∧ z5.cell? ⟨w.heap.size, 1, none⟩ = some (.slice a1 hv.length c1) ∧ z5.cell? ⟨w.heap.size + 1, 0, none⟩ = some (.slice d0 l0.length g0) ∧ z5.cell? ⟨w.heap.size + 1, 1, none⟩ = some (.slice d1 l1.length g1) ∧ z5.cell? ⟨w.heap.size + 1, 2, none⟩ = some (.slice d2 l2.length g2) ∧ z5.cell? ⟨w.heap.size + 1, 3, none⟩ = some (.slice d3 l3.length g3) := (And.intro (cell_keep k1.1 h2) (And.intro (cell_keep k1.2.1 h2) (And.intro (cell_keep k1.2.2.1 h2) (And.intro (cell_keep k1.2.2.2.1 h2) (And.intro (cell_keep k1.2.2.2.2.1 h2) (cell_keep k1.2.2.2.2.2 h2)))))); have L5 := L4.trans (h2.mono L4.size); replace o0 := o0.keep h2; replace o1 := o1.keep h2)
            | (go_at_call 64; refine (iLengths_any _ _ _ _ _ _ _ _ _ _ _ _ _ _ _ _ _ _ _ n0 n1 j0 j1 j2 j3 o0 o1 p0 p1 p2 p3).mono ?_; rintro e z6 ⟨ah, ch, rfl, HH, h3⟩; have k3 : z6.cell? ⟨w.heap.size, 0, none⟩ = some (.slice a0 t.length c0) ∧ z6.cell? ⟨w.heap.size, 1, none⟩ = some (.slice a1 hv.length c1) ∧ z6.cell? ⟨w.heap.size + 1, 0, none⟩ = some (.slice d0 l0.length g0) ∧ z6.cell? ⟨w.heap.size + 1, 1, none⟩ = some (.slice d1 l1.length g1) ∧ z6.cell? ⟨w.heap.size + 1, 2, none⟩ = some (.slice d2 l2.length g2) ∧ z6.cell? ⟨w.heap.size + 1, 3, none⟩ = some (.slice d3 l3.length g3) := (And.intro (cell_keep k2.1 h3) (And.intro (cell_keep k2.2.1 h3) (And.intro (cell_keep k2.2.2.1 h3) (And.intro (cell_keep k2.2.2.2.1 h3) (And.intro (cell_keep k2.2.2.2.2.1 h3) (cell_keep k2.2.2.2.2.2 h3)))))); have L6 := L5.trans (h3.mono L5.size)))
        all_goals
          have hb : Below wx'.drew.heap.size wx'.drew z6 := (h1.trans (h2.mono h1.size)).trans (h3.mono (h1.trans (h2.mono h1.size)).size)
          rw [HV.out, HN.out] at HH
          rw [HV.out, HN.out]
          replace WW := WW.below hb SW; replace G := G.below hb SG
          replace SG := Nat.le_trans SG hb.size
          clear hS0 k1 k2 k3 L3 L4 L5 h1 h2 h3 o0 o1 p0 p1 p2 p3 hb KK L
          go_wp2_with fail
          refine (eqIntS_rows _ _ _ _ _ _ _ _ _ _ _ V3 (by exact HH) (by exact WW)).mono ?_
          rintro e w19 ⟨rfl, hb⟩
          have L7 := L6.trans (hb.mono L6.size)
          replace G := G.below hb SG
          clear hb L6 WW HH
          go_wp2_with fail
          refine (heldIntS_any _ _ _ _ _ _ _ (by omega) (by omega) (by omega) (by exact G)).mono ?_
          rintro e wy ⟨rfl, rfl⟩
          go_wp2
          go_ret
          exact ⟨rfl, L7⟩

end Go.Proofs.Ytmaimklfldeimaa.lengths
