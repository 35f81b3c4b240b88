/-
  The contracts of spec.Star and impl.Star.
-/
import Derived.Test.YtmiiebmnjijhoaaSr
import Derived.Test.YtmiiebmnjijhoaaFi
namespace Go.Proofs.Ytmiiebmnjijhoaa
open Go.RowKit
set_option linter.unusedVariables false

def starB (l0 l1 l2 l3 k0 k1 k2 k3 : List (Int × Int)) : Bool := asnB l0 l1 l2 l3 && asnB k0 k1 k2 k3 && asnB (l0 ++ k0) (l1 ++ k1) (l2 ++ k2) (l3 ++ k3)

theorem asnB_len {l0 l1 l2 l3 : List (Int × Int)} (h : asnB l0 l1 l2 l3 = true) : l0.length ≤ 12 ∧ l1.length ≤ 12 ∧ l2.length ≤ 6 ∧ l3.length ≤ 6 := by
  unfold asnB at h
  simp only [Bool.and_eq_true, decide_eq_true_eq] at h
  obtain ⟨⟨⟨⟨⟨⟨a, b⟩, c⟩, d⟩, e⟩, f⟩, g⟩ := h
  exact ⟨by omega, by omega, by omega, by omega⟩

theorem l1star_len (b0 b1 b2 b3 c0 c1 c2 c3 d0 d1 d2 d3 f0 f1 f2 f3 : Nat) (l0 l1 l2 l3 k0 k1 k2 k3 : List (Int × Int)) (w : World) (n0 : l0.length ≤ 1048576) (n1 : l1.length ≤ 1048576) (n2 : l2.length ≤ 1048576) (n3 : l3.length ≤ 1048576) (j0 : k0.length ≤ 1048576) (j1 : k1.length ≤ 1048576) (j2 : k2.length ≤ 1048576) (j3 : k3.length ≤ 1048576) (o0 : Own w b0 l0.length l0 l0.length) (o1 : Own w b1 l1.length l1 l1.length) (o2 : Own w b2 l2.length l2 l2.length) (o3 : Own w b3 l3.length l3 l3.length) (p0 : Own w d0 k0.length k0 k0.length) (p1 : Own w d1 k1.length k1 k1.length) (p2 : Own w d2 k2.length k2 k2.length) (p3 : Own w d3 k3.length k3 k3.length) :
    Calls Try.prog 109 #[.agg #[.slice (some ⟨b0, 0, none⟩) l0.length c0, .slice (some ⟨b1, 0, none⟩) l1.length c1, .slice (some ⟨b2, 0, none⟩) l2.length c2, .slice (some ⟨b3, 0, none⟩) l3.length c3], .agg #[.slice (some ⟨d0, 0, none⟩) k0.length f0, .slice (some ⟨d1, 0, none⟩) k1.length f1, .slice (some ⟨d2, 0, none⟩) k2.length f2, .slice (some ⟨d3, 0, none⟩) k3.length f3]] w fun e w' => ∃ a0 a1 a2 a3 e0 e1 e2 e3, e = .returned (.agg #[.slice a0 (l0 ++ k0).length e0, .slice a1 (l1 ++ k1).length e1, .slice a2 (l2 ++ k2).length e2, .slice a3 (l3 ++ k3).length e3]) ∧ Seen w' w.heap.size w'.heap.size a0 a1 a2 a3 (l0 ++ k0).length (l1 ++ k1).length (l2 ++ k2).length (l3 ++ k3).length (l0 ++ k0) (l1 ++ k1) (l2 ++ k2) (l3 ++ k3) ∧ Below w.heap.size w w' := by
  refine (l1star_any b0 b1 b2 b3 c0 c1 c2 c3 d0 d1 d2 d3 f0 f1 f2 f3 l0 l1 l2 l3 k0 k1 k2 k3 w n0 n1 n2 n3 j0 j1 j2 j3 o0 o1 o2 o3 p0 p1 p2 p3).mono ?_
  rintro e w' ⟨a0, a1, a2, a3, e0, e1, e2, e3, rfl, t0, t1, t2, t3, hb⟩
  refine ⟨a0, a1, a2, a3, e0, e1, e2, e3, by simp only [List.length_append], ?_, hb⟩
  simp only [List.length_append]
  exact ⟨t0, t1, t2, t3⟩

set_option maxHeartbeats 8000000 in
theorem sStar_any (b0 b1 b2 b3 c0 c1 c2 c3 d0 d1 d2 d3 f0 f1 f2 f3 : Nat) (l0 l1 l2 l3 k0 k1 k2 k3 : List (Int × Int)) (w : World) (n0 : l0.length ≤ 1048576) (n1 : l1.length ≤ 1048576) (n2 : l2.length ≤ 1048576) (n3 : l3.length ≤ 1048576) (j0 : k0.length ≤ 1048576) (j1 : k1.length ≤ 1048576) (j2 : k2.length ≤ 1048576) (j3 : k3.length ≤ 1048576) (o0 : Own w b0 l0.length l0 l0.length) (o1 : Own w b1 l1.length l1 l1.length) (o2 : Own w b2 l2.length l2 l2.length) (o3 : Own w b3 l3.length l3 l3.length) (p0 : Own w d0 k0.length k0 k0.length) (p1 : Own w d1 k1.length k1 k1.length) (p2 : Own w d2 k2.length k2 k2.length) (p3 : Own w d3 k3.length k3 k3.length) :
    Calls Try.prog 37 #[.agg #[.slice (some ⟨b0, 0, none⟩) l0.length c0, .slice (some ⟨b1, 0, none⟩) l1.length c1, .slice (some ⟨b2, 0, none⟩) l2.length c2, .slice (some ⟨b3, 0, none⟩) l3.length c3], .agg #[.slice (some ⟨d0, 0, none⟩) k0.length f0, .slice (some ⟨d1, 0, none⟩) k1.length f1, .slice (some ⟨d2, 0, none⟩) k2.length f2, .slice (some ⟨d3, 0, none⟩) k3.length f3]] w fun e w' => ∃ p0 p1 p2 p3 q0 q1 q2 q3, e = .returned (.tuple #[.agg #[.slice p0 (okL (starB l0 l1 l2 l3 k0 k1 k2 k3) (l0 ++ k0)).length q0, .slice p1 (okL (starB l0 l1 l2 l3 k0 k1 k2 k3) (l1 ++ k1)).length q1, .slice p2 (okL (starB l0 l1 l2 l3 k0 k1 k2 k3) (l2 ++ k2)).length q2, .slice p3 (okL (starB l0 l1 l2 l3 k0 k1 k2 k3) (l3 ++ k3)).length q3], .bool (starB l0 l1 l2 l3 k0 k1 k2 k3)]) ∧ Seen w' w.heap.size w'.heap.size p0 p1 p2 p3 (okL (starB l0 l1 l2 l3 k0 k1 k2 k3) (l0 ++ k0)).length (okL (starB l0 l1 l2 l3 k0 k1 k2 k3) (l1 ++ k1)).length (okL (starB l0 l1 l2 l3 k0 k1 k2 k3) (l2 ++ k2)).length (okL (starB l0 l1 l2 l3 k0 k1 k2 k3) (l3 ++ k3)).length (okL (starB l0 l1 l2 l3 k0 k1 k2 k3) (l0 ++ k0)) (okL (starB l0 l1 l2 l3 k0 k1 k2 k3) (l1 ++ k1)) (okL (starB l0 l1 l2 l3 k0 k1 k2 k3) (l2 ++ k2)) (okL (starB l0 l1 l2 l3 k0 k1 k2 k3) (l3 ++ k3)) ∧ Below w.heap.size w w' := by
  have A0 := ((Box.new w (.slice (some ⟨b0, 0, none⟩) l0.length c0) (.slice (some ⟨b1, 0, none⟩) l1.length c1) (.slice (some ⟨b2, 0, none⟩) l2.length c2) (.slice (some ⟨b3, 0, none⟩) l3.length c3) 28).alloc (.cells #[.slice (some ⟨d0, 0, none⟩) k0.length f0, .slice (some ⟨d1, 0, none⟩) k1.length f1, .slice (some ⟨d2, 0, none⟩) k2.length f2, .slice (some ⟨d3, 0, none⟩) k3.length f3] 28)).alloc (.cells #[.slice none 0 0, .slice none 0 0, .slice none 0 0, .slice none 0 0] 28)
  have D0 := (Box.new (w.alloc (.cells #[.slice (some ⟨b0, 0, none⟩) l0.length c0, .slice (some ⟨b1, 0, none⟩) l1.length c1, .slice (some ⟨b2, 0, none⟩) l2.length c2, .slice (some ⟨b3, 0, none⟩) l3.length c3] 28)) (.slice (some ⟨d0, 0, none⟩) k0.length f0) (.slice (some ⟨d1, 0, none⟩) k1.length f1) (.slice (some ⟨d2, 0, none⟩) k2.length f2) (.slice (some ⟨d3, 0, none⟩) k3.length f3) 28).alloc (.cells #[.slice none 0 0, .slice none 0 0, .slice none 0 0, .slice none 0 0] 28)
  have R0 := Box.new ((w.alloc (.cells #[.slice (some ⟨b0, 0, none⟩) l0.length c0, .slice (some ⟨b1, 0, none⟩) l1.length c1, .slice (some ⟨b2, 0, none⟩) l2.length c2, .slice (some ⟨b3, 0, none⟩) l3.length c3] 28)).alloc (.cells #[.slice (some ⟨d0, 0, none⟩) k0.length f0, .slice (some ⟨d1, 0, none⟩) k1.length f1, .slice (some ⟨d2, 0, none⟩) k2.length f2, .slice (some ⟨d3, 0, none⟩) k3.length f3] 28)) (.slice none 0 0) (.slice none 0 0) (.slice none 0 0) (.slice none 0 0) 28
  rw [World.size_alloc] at D0 R0
  rw [World.size_alloc] at R0
  have L0 : Below w.heap.size w (((w.alloc (.cells #[.slice (some ⟨b0, 0, none⟩) l0.length c0, .slice (some ⟨b1, 0, none⟩) l1.length c1, .slice (some ⟨b2, 0, none⟩) l2.length c2, .slice (some ⟨b3, 0, none⟩) l3.length c3] 28)).alloc (.cells #[.slice (some ⟨d0, 0, none⟩) k0.length f0, .slice (some ⟨d1, 0, none⟩) k1.length f1, .slice (some ⟨d2, 0, none⟩) k2.length f2, .slice (some ⟨d3, 0, none⟩) k3.length f3] 28)).alloc (.cells #[.slice none 0 0, .slice none 0 0, .slice none 0 0, .slice none 0 0] 28)) := (((Below.refl _ _).alloc (Nat.le_refl _) _).alloc (by simp) _).alloc (by simp; omega) _
  replace o0 := o0.below L0 o0.1; replace o1 := o1.below L0 o1.1; replace o2 := o2.below L0 o2.1; replace o3 := o3.below L0 o3.1; replace p0 := p0.below L0 p0.1; replace p1 := p1.below L0 p1.1; replace p2 := p2.below L0 p2.1; replace p3 := p3.below L0 p3.1
  go_enter Try.func37, Try.ntmps37
  go_wp2_with fail
  refine (sAsnOk_any _ _ _ _ _ _ _ _ _ _ _ _ _ n0 n1 n2 n3 (by exact o0.row) (by exact o1.row) (by exact o2.row) (by exact o3.row)).mono ?_
  rintro e w1 ⟨rfl, hb⟩
  replace A0 := A0.below hb A0.lt; replace D0 := D0.below hb D0.lt; replace R0 := R0.below hb R0.lt; replace o0 := o0.below hb o0.1
  replace o1 := o1.below hb o1.1; replace o2 := o2.below hb o2.1; replace o3 := o3.below hb o3.1; replace p0 := p0.below hb p0.1
  replace p1 := p1.below hb p1.1; replace p2 := p2.below hb p2.1; replace p3 := p3.below hb p3.1; replace L0 := L0.trans (hb.mono L0.size)
  clear hb
  have A0c0 := A0.c0; have A0c1 := A0.c1; have A0c2 := A0.c2; have A0c3 := A0.c3; have D0c0 := D0.c0; have D0c1 := D0.c1; have D0c2 := D0.c2; have D0c3 := D0.c3
  cases h1 : asnB l0 l1 l2 l3
  · have HE : Hid ((starB l0 l1 l2 l3 k0 k1 k2 k3) = false) := by show (starB l0 l1 l2 l3 k0 k1 k2 k3) = false; unfold starB; rw [h1]; simp
    obtain ⟨F, FO⟩ := R0.fill (.slice none 0 0) (.slice none 0 0) (.slice none 0 0) (.slice none 0 0)
    have j0' := R0.c0; have j1' := R0.c1; have j2' := R0.c2; have j3' := R0.c3
    have g0 := R0.f0; have g1 := R0.f1; have g2 := R0.f2; have g3 := R0.f3
    go_wp2
    have i0 := F.c0; have i1 := F.c1; have i2 := F.c2; have i3 := F.c3
    refine bodyPost_ret (v := .tuple #[.agg #[.slice none 0 0, .slice none 0 0, .slice none 0 0, .slice none 0 0], .bool false]) ?_ rfl ⟨none, none, none, none, 0, 0, 0, 0, by rw [HE.out]; rfl, ?_, ?_⟩
    · simp [results, Try.results37, go_sem, i0, i1, i2, i3]
    · rw [HE.out]; exact Seen.none _ _ _
    · exact L0.trans (FO.below (by omega) L0.size)
  go_wp2_with fail
  clear A0c0 A0c1 A0c2 A0c3 D0c0 D0c1 D0c2 D0c3
  refine (sAsnOk_any _ _ _ _ _ _ _ _ _ _ _ _ _ j0 j1 j2 j3 (by exact p0.row) (by exact p1.row) (by exact p2.row) (by exact p3.row)).mono ?_
  rintro e w2 ⟨rfl, hb⟩
  replace A0 := A0.below hb A0.lt; replace D0 := D0.below hb D0.lt; replace R0 := R0.below hb R0.lt; replace o0 := o0.below hb o0.1
  replace o1 := o1.below hb o1.1; replace o2 := o2.below hb o2.1; replace o3 := o3.below hb o3.1; replace p0 := p0.below hb p0.1
  replace p1 := p1.below hb p1.1; replace p2 := p2.below hb p2.1; replace p3 := p3.below hb p3.1; replace L0 := L0.trans (hb.mono L0.size)
  clear hb
  have A0c0 := A0.c0; have A0c1 := A0.c1; have A0c2 := A0.c2; have A0c3 := A0.c3; have D0c0 := D0.c0; have D0c1 := D0.c1; have D0c2 := D0.c2; have D0c3 := D0.c3
  cases h2 : asnB k0 k1 k2 k3
  · have HE : Hid ((starB l0 l1 l2 l3 k0 k1 k2 k3) = false) := by show (starB l0 l1 l2 l3 k0 k1 k2 k3) = false; unfold starB; rw [h1, h2]; simp
    obtain ⟨F, FO⟩ := R0.fill (.slice none 0 0) (.slice none 0 0) (.slice none 0 0) (.slice none 0 0)
    have j0' := R0.c0; have j1' := R0.c1; have j2' := R0.c2; have j3' := R0.c3
    have g0 := R0.f0; have g1 := R0.f1; have g2 := R0.f2; have g3 := R0.f3
    go_wp2
    have i0 := F.c0; have i1 := F.c1; have i2 := F.c2; have i3 := F.c3
    refine bodyPost_ret (v := .tuple #[.agg #[.slice none 0 0, .slice none 0 0, .slice none 0 0, .slice none 0 0], .bool false]) ?_ rfl ⟨none, none, none, none, 0, 0, 0, 0, by rw [HE.out]; rfl, ?_, ?_⟩
    · simp [results, Try.results37, go_sem, i0, i1, i2, i3]
    · rw [HE.out]; exact Seen.none _ _ _
    · exact L0.trans (FO.below (by omega) L0.size)
  obtain ⟨y0, y1, y2, y3⟩ := asnB_len h1
  obtain ⟨z0, z1, z2, z3⟩ := asnB_len h2
  have H1 : Hid (asnB l0 l1 l2 l3 = true) := h1
  have H2 : Hid (asnB k0 k1 k2 k3 = true) := h2
  clear h1 h2
  have zR := R0.lt
  go_wp2_with fail
  clear A0c0 A0c1 A0c2 A0c3 D0c0 D0c1 D0c2 D0c3
  refine (l1star_len _ _ _ _ _ _ _ _ _ _ _ _ _ _ _ _ _ _ _ _ _ _ _ _ _ n0 n1 n2 n3 j0 j1 j2 j3 (by exact o0) (by exact o1) (by exact o2) (by exact o3) (by exact p0) (by exact p1) (by exact p2) (by exact p3)).mono ?_
  rintro e w3 ⟨a0, a1, a2, a3, e0, e1, e2, e3, rfl, T, hb⟩
  replace A0 := A0.below hb A0.lt; replace D0 := D0.below hb D0.lt; replace R0 := R0.below hb R0.lt; replace o0 := o0.below hb o0.1
  replace o1 := o1.below hb o1.1; replace o2 := o2.below hb o2.1; replace o3 := o3.below hb o3.1; replace p0 := p0.below hb p0.1
  replace p1 := p1.below hb p1.1; replace p2 := p2.below hb p2.1; replace p3 := p3.below hb p3.1; replace L0 := L0.trans (hb.mono L0.size)
  clear hb
  have Z0 : (l0 ++ k0).length ≤ 1048576 := by rw [List.length_append]; omega
  obtain ⟨x0, hx0⟩ : ∃ x, l0 ++ k0 = x := ⟨_, rfl⟩
  rw [hx0] at T Z0 ⊢
  have HX0 : Hid (l0 ++ k0 = x0) := hx0
  clear hx0
  have Z1 : (l1 ++ k1).length ≤ 1048576 := by rw [List.length_append]; omega
  obtain ⟨x1, hx1⟩ : ∃ x, l1 ++ k1 = x := ⟨_, rfl⟩
  rw [hx1] at T Z1 ⊢
  have HX1 : Hid (l1 ++ k1 = x1) := hx1
  clear hx1
  have Z2 : (l2 ++ k2).length ≤ 1048576 := by rw [List.length_append]; omega
  obtain ⟨x2, hx2⟩ : ∃ x, l2 ++ k2 = x := ⟨_, rfl⟩
  rw [hx2] at T Z2 ⊢
  have HX2 : Hid (l2 ++ k2 = x2) := hx2
  clear hx2
  have Z3 : (l3 ++ k3).length ≤ 1048576 := by rw [List.length_append]; omega
  obtain ⟨x3, hx3⟩ : ∃ x, l3 ++ k3 = x := ⟨_, rfl⟩
  rw [hx3] at T Z3 ⊢
  have HX3 : Hid (l3 ++ k3 = x3) := hx3
  clear hx3
  have X0 := Box.new w3 (.slice a0 x0.length e0) (.slice a1 x1.length e1) (.slice a2 x2.length e2) (.slice a3 x3.length e3) 28
  have al : Below w3.heap.size w3 (w3.alloc (.cells #[.slice a0 x0.length e0, .slice a1 x1.length e1, .slice a2 x2.length e2, .slice a3 x3.length e3] 28)) := (Below.refl _ _).alloc (Nat.le_refl _) _
  replace A0 := A0.below al A0.lt; replace D0 := D0.below al D0.lt; replace R0 := R0.below al R0.lt; replace o0 := o0.below al o0.1
  replace o1 := o1.below al o1.1; replace o2 := o2.below al o2.1; replace o3 := o3.below al o3.1; replace p0 := p0.below al p0.1
  replace p1 := p1.below al p1.1; replace p2 := p2.below al p2.1; replace p3 := p3.below al p3.1; replace L0 := L0.trans (al.mono L0.size)
  replace T := T.below al (by omega)
  clear al
  have za : (w3.alloc (.cells #[.slice a0 x0.length e0, .slice a1 x1.length e1, .slice a2 x2.length e2, .slice a3 x3.length e3] 28)).heap.size = w3.heap.size + 1 := by simp
  go_wp2_with fail
  refine (sAsnOk_any _ _ _ _ _ _ _ _ _ _ _ _ _ Z0 Z1 Z2 Z3 (by exact T.1.row) (by exact T.2.1.row) (by exact T.2.2.1.row) (by exact T.2.2.2.row)).mono ?_
  rintro e w4 ⟨rfl, hb⟩
  replace A0 := A0.below hb A0.lt; replace D0 := D0.below hb D0.lt; replace R0 := R0.below hb R0.lt; replace o0 := o0.below hb o0.1
  replace o1 := o1.below hb o1.1; replace o2 := o2.below hb o2.1; replace o3 := o3.below hb o3.1; replace p0 := p0.below hb p0.1
  replace p1 := p1.below hb p1.1; replace p2 := p2.below hb p2.1; replace p3 := p3.below hb p3.1; replace L0 := L0.trans (hb.mono L0.size)
  replace T := T.below hb (by omega); replace X0 := X0.below hb X0.lt
  have zb := hb.size
  clear hb
  have X0c0 := X0.c0; have X0c1 := X0.c1; have X0c2 := X0.c2; have X0c3 := X0.c3
  cases h3 : asnB x0 x1 x2 x3
  · have HE : Hid ((starB l0 l1 l2 l3 k0 k1 k2 k3) = false) := by show (starB l0 l1 l2 l3 k0 k1 k2 k3) = false; unfold starB; rw [H1.out, H2.out, HX0.out, HX1.out, HX2.out, HX3.out, h3]; simp
    obtain ⟨F, FO⟩ := R0.fill (.slice none 0 0) (.slice none 0 0) (.slice none 0 0) (.slice none 0 0)
    have j0' := R0.c0; have j1' := R0.c1; have j2' := R0.c2; have j3' := R0.c3
    have g0 := R0.f0; have g1 := R0.f1; have g2 := R0.f2; have g3 := R0.f3
    go_wp2
    have i0 := F.c0; have i1 := F.c1; have i2 := F.c2; have i3 := F.c3
    refine bodyPost_ret (v := .tuple #[.agg #[.slice none 0 0, .slice none 0 0, .slice none 0 0, .slice none 0 0], .bool false]) ?_ rfl ⟨none, none, none, none, 0, 0, 0, 0, by rw [HE.out]; rfl, ?_, ?_⟩
    · simp [results, Try.results37, go_sem, i0, i1, i2, i3]
    · rw [HE.out]; exact Seen.none _ _ _
    · exact L0.trans (FO.below (by omega) L0.size)
  have HE : Hid ((starB l0 l1 l2 l3 k0 k1 k2 k3) = true) := by show (starB l0 l1 l2 l3 k0 k1 k2 k3) = true; unfold starB; rw [H1.out, H2.out, HX0.out, HX1.out, HX2.out, HX3.out, h3]; rfl
  clear h3
  obtain ⟨F, FO⟩ := R0.fill (.slice a0 x0.length e0) (.slice a1 x1.length e1) (.slice a2 x2.length e2) (.slice a3 x3.length e3)
  have j0' := R0.c0; have j1' := R0.c1; have j2' := R0.c2; have j3' := R0.c3
  have g0 := R0.f0; have g1 := R0.f1; have g2 := R0.f2; have g3 := R0.f3
  go_wp2
  have i0 := F.c0; have i1 := F.c1; have i2 := F.c2; have i3 := F.c3
  have fz := FO.size
  refine bodyPost_ret (v := .tuple #[.agg #[.slice a0 x0.length e0, .slice a1 x1.length e1, .slice a2 x2.length e2, .slice a3 x3.length e3], .bool true]) ?_ rfl ⟨a0, a1, a2, a3, e0, e1, e2, e3, by rw [HE.out, HX0.out, HX1.out, HX2.out, HX3.out]; rfl, ?_, ?_⟩
  · simp [results, Try.results37, go_sem, i0, i1, i2, i3]
  · rw [HE.out, HX0.out, HX1.out, HX2.out, HX3.out]; exact (T.out FO (.inr (by omega))).mono (by have := L0.size; omega) (by omega)
  · exact L0.trans (FO.below (by omega) L0.size)

theorem PRow.out1 {lo hi : Nat} {w w' : World} {b off : Nat} {l : List (Int × Int)} (h : PRow w (some ⟨b, off, none⟩) l) (ho : Out lo hi w w') (hr : b < lo ∨ hi ≤ b) : PRow w' (some ⟨b, off, none⟩) l := by
  rcases h with h | ⟨b', off', e, hlt, hc⟩
  · exact .inl h
  · injection e with e; injection e with e1 e2; subst e1; subst e2
    have e : ∀ o, w'.cell? ⟨b, o, none⟩ = w.cell? ⟨b, o, none⟩ := fun o => World.cell?_of_block (w := w) (ho.block b hlt hr)
    refine .inr ⟨b, off, rfl, Nat.lt_of_lt_of_le hlt ho.size, fun i hi => ?_⟩
    rw [e, e]; exact hc i hi

set_option maxHeartbeats 8000000 in
theorem iStar_any (b0 b1 b2 b3 c0 c1 c2 c3 d0 d1 d2 d3 f0 f1 f2 f3 : Nat) (l0 l1 l2 l3 k0 k1 k2 k3 : List (Int × Int)) (w : World) (n0 : l0.length ≤ 1048576) (n1 : l1.length ≤ 1048576) (n2 : l2.length ≤ 1048576) (n3 : l3.length ≤ 1048576) (j0 : k0.length ≤ 1048576) (j1 : k1.length ≤ 1048576) (j2 : k2.length ≤ 1048576) (j3 : k3.length ≤ 1048576) (o0 : Own w b0 l0.length l0 l0.length) (o1 : Own w b1 l1.length l1 l1.length) (o2 : Own w b2 l2.length l2 l2.length) (o3 : Own w b3 l3.length l3 l3.length) (p0 : Own w d0 k0.length k0 k0.length) (p1 : Own w d1 k1.length k1 k1.length) (p2 : Own w d2 k2.length k2 k2.length) (p3 : Own w d3 k3.length k3 k3.length) :
    Calls Try.prog 38 #[.agg #[.slice (some ⟨b0, 0, none⟩) l0.length c0, .slice (some ⟨b1, 0, none⟩) l1.length c1, .slice (some ⟨b2, 0, none⟩) l2.length c2, .slice (some ⟨b3, 0, none⟩) l3.length c3], .agg #[.slice (some ⟨d0, 0, none⟩) k0.length f0, .slice (some ⟨d1, 0, none⟩) k1.length f1, .slice (some ⟨d2, 0, none⟩) k2.length f2, .slice (some ⟨d3, 0, none⟩) k3.length f3]] w fun e w' => ∃ p0 p1 p2 p3 q0 q1 q2 q3, e = .returned (.tuple #[.agg #[.slice p0 (okL (starB l0 l1 l2 l3 k0 k1 k2 k3) (l0 ++ k0)).length q0, .slice p1 (okL (starB l0 l1 l2 l3 k0 k1 k2 k3) (l1 ++ k1)).length q1, .slice p2 (okL (starB l0 l1 l2 l3 k0 k1 k2 k3) (l2 ++ k2)).length q2, .slice p3 (okL (starB l0 l1 l2 l3 k0 k1 k2 k3) (l3 ++ k3)).length q3], .bool (starB l0 l1 l2 l3 k0 k1 k2 k3)]) ∧ Four w' w.heap.size w'.heap.size p0 p1 p2 p3 (okL (starB l0 l1 l2 l3 k0 k1 k2 k3) (l0 ++ k0)).length (okL (starB l0 l1 l2 l3 k0 k1 k2 k3) (l1 ++ k1)).length (okL (starB l0 l1 l2 l3 k0 k1 k2 k3) (l2 ++ k2)).length (okL (starB l0 l1 l2 l3 k0 k1 k2 k3) (l3 ++ k3)).length (okL (starB l0 l1 l2 l3 k0 k1 k2 k3) (l0 ++ k0)) (okL (starB l0 l1 l2 l3 k0 k1 k2 k3) (l1 ++ k1)) (okL (starB l0 l1 l2 l3 k0 k1 k2 k3) (l2 ++ k2)) (okL (starB l0 l1 l2 l3 k0 k1 k2 k3) (l3 ++ k3)) ∧ Below w.heap.size w w' := by
  have A0 := ((Box.new w (.slice (some ⟨b0, 0, none⟩) l0.length c0) (.slice (some ⟨b1, 0, none⟩) l1.length c1) (.slice (some ⟨b2, 0, none⟩) l2.length c2) (.slice (some ⟨b3, 0, none⟩) l3.length c3) 28).alloc (.cells #[.slice (some ⟨d0, 0, none⟩) k0.length f0, .slice (some ⟨d1, 0, none⟩) k1.length f1, .slice (some ⟨d2, 0, none⟩) k2.length f2, .slice (some ⟨d3, 0, none⟩) k3.length f3] 28)).alloc (.cells #[.slice none 0 0, .slice none 0 0, .slice none 0 0, .slice none 0 0] 28)
  have D0 := (Box.new (w.alloc (.cells #[.slice (some ⟨b0, 0, none⟩) l0.length c0, .slice (some ⟨b1, 0, none⟩) l1.length c1, .slice (some ⟨b2, 0, none⟩) l2.length c2, .slice (some ⟨b3, 0, none⟩) l3.length c3] 28)) (.slice (some ⟨d0, 0, none⟩) k0.length f0) (.slice (some ⟨d1, 0, none⟩) k1.length f1) (.slice (some ⟨d2, 0, none⟩) k2.length f2) (.slice (some ⟨d3, 0, none⟩) k3.length f3) 28).alloc (.cells #[.slice none 0 0, .slice none 0 0, .slice none 0 0, .slice none 0 0] 28)
  have R0 := Box.new ((w.alloc (.cells #[.slice (some ⟨b0, 0, none⟩) l0.length c0, .slice (some ⟨b1, 0, none⟩) l1.length c1, .slice (some ⟨b2, 0, none⟩) l2.length c2, .slice (some ⟨b3, 0, none⟩) l3.length c3] 28)).alloc (.cells #[.slice (some ⟨d0, 0, none⟩) k0.length f0, .slice (some ⟨d1, 0, none⟩) k1.length f1, .slice (some ⟨d2, 0, none⟩) k2.length f2, .slice (some ⟨d3, 0, none⟩) k3.length f3] 28)) (.slice none 0 0) (.slice none 0 0) (.slice none 0 0) (.slice none 0 0) 28
  rw [World.size_alloc] at D0 R0
  rw [World.size_alloc] at R0
  have L0 : Below w.heap.size w (((w.alloc (.cells #[.slice (some ⟨b0, 0, none⟩) l0.length c0, .slice (some ⟨b1, 0, none⟩) l1.length c1, .slice (some ⟨b2, 0, none⟩) l2.length c2, .slice (some ⟨b3, 0, none⟩) l3.length c3] 28)).alloc (.cells #[.slice (some ⟨d0, 0, none⟩) k0.length f0, .slice (some ⟨d1, 0, none⟩) k1.length f1, .slice (some ⟨d2, 0, none⟩) k2.length f2, .slice (some ⟨d3, 0, none⟩) k3.length f3] 28)).alloc (.cells #[.slice none 0 0, .slice none 0 0, .slice none 0 0, .slice none 0 0] 28)) := (((Below.refl _ _).alloc (Nat.le_refl _) _).alloc (by simp) _).alloc (by simp; omega) _
  have BBX : b0 < w.heap.size ∧ b1 < w.heap.size ∧ b2 < w.heap.size ∧ b3 < w.heap.size ∧ d0 < w.heap.size ∧ d1 < w.heap.size ∧ d2 < w.heap.size ∧ d3 < w.heap.size := ⟨o0.1, o1.1, o2.1, o3.1, p0.1, p1.1, p2.1, p3.1⟩
  replace o0 := o0.below L0 o0.1; replace o1 := o1.below L0 o1.1; replace o2 := o2.below L0 o2.1; replace o3 := o3.below L0 o3.1; replace p0 := p0.below L0 p0.1; replace p1 := p1.below L0 p1.1; replace p2 := p2.below L0 p2.1; replace p3 := p3.below L0 p3.1
  have BB : Hid (b0 < w.heap.size ∧ b1 < w.heap.size ∧ b2 < w.heap.size ∧ b3 < w.heap.size ∧ d0 < w.heap.size ∧ d1 < w.heap.size ∧ d2 < w.heap.size ∧ d3 < w.heap.size) := BBX
  clear BBX
  go_enter Try.func38, Try.ntmps38
  go_wp2_with fail
  refine (iAsnOk_any _ _ _ _ _ _ _ _ _ _ _ _ _ n0 n1 n2 n3 (by exact o0.row) (by exact o1.row) (by exact o2.row) (by exact o3.row)).mono ?_
  rintro e w1 ⟨rfl, hb⟩
  replace A0 := A0.below hb A0.lt; replace D0 := D0.below hb D0.lt; replace R0 := R0.below hb R0.lt; replace o0 := o0.below hb o0.1
  replace o1 := o1.below hb o1.1; replace o2 := o2.below hb o2.1; replace o3 := o3.below hb o3.1; replace p0 := p0.below hb p0.1
  replace p1 := p1.below hb p1.1; replace p2 := p2.below hb p2.1; replace p3 := p3.below hb p3.1; replace L0 := L0.trans (hb.mono L0.size)
  clear hb
  have A0c0 := A0.c0; have A0c1 := A0.c1; have A0c2 := A0.c2; have A0c3 := A0.c3; have D0c0 := D0.c0; have D0c1 := D0.c1; have D0c2 := D0.c2; have D0c3 := D0.c3
  cases h1 : asnB l0 l1 l2 l3
  · have HE : Hid ((starB l0 l1 l2 l3 k0 k1 k2 k3) = false) := by show (starB l0 l1 l2 l3 k0 k1 k2 k3) = false; unfold starB; rw [h1]; simp
    obtain ⟨F, FO⟩ := R0.fill (.slice none 0 0) (.slice none 0 0) (.slice none 0 0) (.slice none 0 0)
    have j0' := R0.c0; have j1' := R0.c1; have j2' := R0.c2; have j3' := R0.c3
    have g0 := R0.f0; have g1 := R0.f1; have g2 := R0.f2; have g3 := R0.f3
    go_wp2
    have i0 := F.c0; have i1 := F.c1; have i2 := F.c2; have i3 := F.c3
    refine bodyPost_ret (v := .tuple #[.agg #[.slice none 0 0, .slice none 0 0, .slice none 0 0, .slice none 0 0], .bool false]) ?_ rfl ⟨none, none, none, none, 0, 0, 0, 0, by rw [HE.out]; rfl, ?_, ?_⟩
    · simp [results, Try.results38, go_sem, i0, i1, i2, i3]
    · rw [HE.out]; exact (Four.none _ w.heap.size).mono (Nat.le_refl _) (by have := FO.size; have := L0.size; omega)
    · exact L0.trans (FO.below (by omega) L0.size)
  go_wp2_with fail
  clear A0c0 A0c1 A0c2 A0c3 D0c0 D0c1 D0c2 D0c3
  refine (iAsnOk_any _ _ _ _ _ _ _ _ _ _ _ _ _ j0 j1 j2 j3 (by exact p0.row) (by exact p1.row) (by exact p2.row) (by exact p3.row)).mono ?_
  rintro e w2 ⟨rfl, hb⟩
  replace A0 := A0.below hb A0.lt; replace D0 := D0.below hb D0.lt; replace R0 := R0.below hb R0.lt; replace o0 := o0.below hb o0.1
  replace o1 := o1.below hb o1.1; replace o2 := o2.below hb o2.1; replace o3 := o3.below hb o3.1; replace p0 := p0.below hb p0.1
  replace p1 := p1.below hb p1.1; replace p2 := p2.below hb p2.1; replace p3 := p3.below hb p3.1; replace L0 := L0.trans (hb.mono L0.size)
  clear hb
  have A0c0 := A0.c0; have A0c1 := A0.c1; have A0c2 := A0.c2; have A0c3 := A0.c3; have D0c0 := D0.c0; have D0c1 := D0.c1; have D0c2 := D0.c2; have D0c3 := D0.c3
  cases h2 : asnB k0 k1 k2 k3
  · have HE : Hid ((starB l0 l1 l2 l3 k0 k1 k2 k3) = false) := by show (starB l0 l1 l2 l3 k0 k1 k2 k3) = false; unfold starB; rw [h1, h2]; simp
    obtain ⟨F, FO⟩ := R0.fill (.slice none 0 0) (.slice none 0 0) (.slice none 0 0) (.slice none 0 0)
    have j0' := R0.c0; have j1' := R0.c1; have j2' := R0.c2; have j3' := R0.c3
    have g0 := R0.f0; have g1 := R0.f1; have g2 := R0.f2; have g3 := R0.f3
    go_wp2
    have i0 := F.c0; have i1 := F.c1; have i2 := F.c2; have i3 := F.c3
    refine bodyPost_ret (v := .tuple #[.agg #[.slice none 0 0, .slice none 0 0, .slice none 0 0, .slice none 0 0], .bool false]) ?_ rfl ⟨none, none, none, none, 0, 0, 0, 0, by rw [HE.out]; rfl, ?_, ?_⟩
    · simp [results, Try.results38, go_sem, i0, i1, i2, i3]
    · rw [HE.out]; exact (Four.none _ w.heap.size).mono (Nat.le_refl _) (by have := FO.size; have := L0.size; omega)
    · exact L0.trans (FO.below (by omega) L0.size)
  obtain ⟨y0, y1, y2, y3⟩ := asnB_len h1
  obtain ⟨z0, z1, z2, z3⟩ := asnB_len h2
  have H1 : Hid (asnB l0 l1 l2 l3 = true) := h1
  have H2 : Hid (asnB k0 k1 k2 k3 = true) := h2
  clear h1 h2
  have zR := R0.lt
  go_wp2_with fail
  clear A0c0 A0c1 A0c2 A0c3 D0c0 D0c1 D0c2 D0c3
  refine (listsOf_any _ _ _ _ _ ⟨_, _, _, rfl⟩ ⟨_, _, _, rfl⟩ ⟨_, _, _, rfl⟩ ⟨_, _, _, rfl⟩).mono ?_
  rintro e wx ⟨rfl, hb⟩
  replace A0 := A0.below hb A0.lt; replace D0 := D0.below hb D0.lt; replace R0 := R0.below hb R0.lt; replace o0 := o0.below hb o0.1
  replace o1 := o1.below hb o1.1; replace o2 := o2.below hb o2.1; replace o3 := o3.below hb o3.1; replace p0 := p0.below hb p0.1
  replace p1 := p1.below hb p1.1; replace p2 := p2.below hb p2.1; replace p3 := p3.below hb p3.1; replace L0 := L0.trans (hb.mono L0.size)
  clear hb
  have WX : w.heap.size + 2 < wx.heap.size := R0.lt
  have V1 := VRow.new wx (.slice (some ⟨b0, 0, none⟩) l0.length c0) (.slice (some ⟨b1, 0, none⟩) l1.length c1) (.slice (some ⟨b2, 0, none⟩) l2.length c2) (.slice (some ⟨b3, 0, none⟩) l3.length c3) 74 (fun j => .slice (some ⟨kindB b0 b1 b2 b3 j, 0, none⟩) (kindL l0 l1 l2 l3 j).length (kindB c0 c1 c2 c3 j)) rfl rfl rfl rfl
  have al : Below wx.heap.size wx (wx.alloc (.cells #[.slice (some ⟨b0, 0, none⟩) l0.length c0, .slice (some ⟨b1, 0, none⟩) l1.length c1, .slice (some ⟨b2, 0, none⟩) l2.length c2, .slice (some ⟨b3, 0, none⟩) l3.length c3] 74)) := (Below.refl _ _).alloc (Nat.le_refl _) _
  replace A0 := A0.below al A0.lt; replace D0 := D0.below al D0.lt; replace R0 := R0.below al R0.lt; replace o0 := o0.below al o0.1
  replace o1 := o1.below al o1.1; replace o2 := o2.below al o2.1; replace o3 := o3.below al o3.1; replace p0 := p0.below al p0.1
  replace p1 := p1.below al p1.1; replace p2 := p2.below al p2.1; replace p3 := p3.below al p3.1; replace L0 := L0.trans (al.mono L0.size)
  clear al
  have D0c0 := D0.c0; have D0c1 := D0.c1; have D0c2 := D0.c2; have D0c3 := D0.c3
  go_wp2_with fail
  clear D0c0 D0c1 D0c2 D0c3
  refine (listsOf_any _ _ _ _ _ ⟨_, _, _, rfl⟩ ⟨_, _, _, rfl⟩ ⟨_, _, _, rfl⟩ ⟨_, _, _, rfl⟩).mono ?_
  rintro e w3 ⟨rfl, hb⟩
  replace A0 := A0.below hb A0.lt; replace D0 := D0.below hb D0.lt; replace R0 := R0.below hb R0.lt; replace o0 := o0.below hb o0.1
  replace o1 := o1.below hb o1.1; replace o2 := o2.below hb o2.1; replace o3 := o3.below hb o3.1; replace p0 := p0.below hb p0.1
  replace p1 := p1.below hb p1.1; replace p2 := p2.below hb p2.1; replace p3 := p3.below hb p3.1; replace L0 := L0.trans (hb.mono L0.size)
  have V3 := V1.below hb V1.1
  clear hb V1
  have zO := V3.1
  have zw := L0.size
  have zwx := WX
  obtain ⟨BO0, BO1, BO2, BO3, DO0, DO1, DO2, DO3⟩ : b0 < wx.heap.size ∧ b1 < wx.heap.size ∧ b2 < wx.heap.size ∧ b3 < wx.heap.size ∧ d0 < wx.heap.size ∧ d1 < wx.heap.size ∧ d2 < wx.heap.size ∧ d3 < wx.heap.size := by obtain ⟨h0, h1, h2, h3, h4, h5, h6, h7⟩ := BB.out; omega
  generalize wx.heap.size = O at *
  have KL : Hid (∀ q : Int, PRow w3 (some ⟨kindB b0 b1 b2 b3 q, 0, none⟩) (kindL l0 l1 l2 l3 q) ∧ (kindL l0 l1 l2 l3 q).length ≤ 1048576 ∧ kindB b0 b1 b2 b3 q < O) := fun q => ⟨(kind_own o0 o1 o2 o3 q).row, kind_le n0 n1 n2 n3 q, kindB_lt BO0 BO1 BO2 BO3 q⟩
  have KK : Hid (∀ q : Int, PRow w3 (some ⟨kindB d0 d1 d2 d3 q, 0, none⟩) (kindL k0 k1 k2 k3 q) ∧ (kindL k0 k1 k2 k3 q).length ≤ 1048576 ∧ kindB d0 d1 d2 d3 q < O) := fun q => ⟨(kind_own p0 p1 p2 p3 q).row, kind_le j0 j1 j2 j3 q, kindB_lt DO0 DO1 DO2 DO3 q⟩
  have KI : Hid (∀ q : Nat, q < 4 → ∀ w : World, (Instr.index 74 (.agg #[.slice (some ⟨d0, 0, none⟩) k0.length f0, .slice (some ⟨d1, 0, none⟩) k1.length f1, .slice (some ⟨d2, 0, none⟩) k2.length f2, .slice (some ⟨d3, 0, none⟩) k3.length f3]) (.int .i64 q)).run Try.prog w = .ok (.slice (some ⟨kindB d0 d1 d2 d3 q, 0, none⟩) (kindL k0 k1 k2 k3 q).length (kindB f0 f1 f2 f3 q)) w) := fun q hq w => idxK d0 d1 d2 d3 f0 f1 f2 f3 k0 k1 k2 k3 q hq w
  clear o0 o1 o2 o3 p0 p1 p2 p3 A0 D0 BO0 BO1 BO2 BO3 DO0 DO1 DO2 DO3
  go_wp2
  go_loopw [23] (fun i wr => ∃ q : Nat, q ≤ 4 ∧ i = .int .i64 q ∧ ∃ V H, VRow wr O V ∧ FilI (fun j => .slice (some ⟨kindB b0 b1 b2 b3 j, 0, none⟩) (kindL l0 l1 l2 l3 j).length (kindB c0 c1 c2 c3 j)) (fun j => kindL l0 l1 l2 l3 j ++ kindL k0 k1 k2 k3 j) w3.heap.size wr V H q ∧ Out O (O + 1) w3 wr) (fun i _ => 4 - (intOf i).toNat)
  case atStart => exact ⟨0, Nat.zero_le _, rfl, _, _, V3, FilI.start _ _ _, Out.refl _ _ _⟩
  case round =>
    obtain ⟨q, hq, rfl, V, H, hV, hF, hO⟩ := hrel
    by_cases hlt : q < 4
    · have hix := KI.out q hlt
      obtain ⟨rl, nl, bl⟩ := KL.out q
      obtain ⟨rk, nk, bk⟩ := KK.out q
      have HFS : Hid (∀ (w' : World) (a : Option Addr) (c : Nat), Out O (O + 1) wr w' → RowIn w' wr.heap.size w'.heap.size a (kindL l0 l1 l2 l3 q ++ kindL k0 k1 k2 k3 q).length (kindL l0 l1 l2 l3 q ++ kindL k0 k1 k2 k3 q) → (a = none → c = 0) → ∃ H', FilI (fun j => .slice (some ⟨kindB b0 b1 b2 b3 j, 0, none⟩) (kindL l0 l1 l2 l3 j).length (kindB c0 c1 c2 c3 j)) (fun j => kindL l0 l1 l2 l3 j ++ kindL k0 k1 k2 k3 j) w3.heap.size w' (fun j => if j = q then .slice a (kindL l0 l1 l2 l3 q ++ kindL k0 k1 k2 k3 q).length c else V j) H' (q + 1)) := fun w' a c h1 h2 h3 => ⟨_, FilI.step (c := c) hF zO h1 h2 h3⟩
      have hVq : V q = .slice (some ⟨kindB b0 b1 b2 b3 q, 0, none⟩) (kindL l0 l1 l2 l3 q).length (kindB c0 c1 c2 c3 q) := hF.2.2.2.2 q (Nat.le_refl _) hlt
      have hcO := (hV.2 q hlt).1
      rw [hVq] at hcO
      replace rl := rl.out1 hO (.inl bl); replace rk := rk.out1 hO (.inl bk)
      have hS : O < wr.heap.size := hV.1
      clear hF hVq bl bk
      generalize kindL l0 l1 l2 l3 q = la at *
      generalize kindL k0 k1 k2 k3 q = lb at *
      generalize kindB b0 b1 b2 b3 q = ba at *
      generalize kindB d0 d1 d2 d3 q = bb at *
      generalize kindB c0 c1 c2 c3 q = ca at *
      generalize kindB f0 f1 f2 f3 q = cb at *
      have hk4 : (q : Int) < 4 := by omega
      go_wp2_with fail
      refine (behind_any _ _ _ _ _ _ la lb _ rfl rfl (by omega) (by exact rl) (by exact rk) (by intro e; cases e) (by intro e; cases e)).mono ?_
      rintro e w4 ⟨a, cc, rfl, hr, hz, hb⟩
      have hV4 := hV.below hb hV.1
      have cO := (hV4.2 q hlt).1; have fO := (hV4.2 q hlt).2
      have hV5 := hV4.put q (.slice a (la.length + lb.length) cc)
      have hO4 : Out O (O + 1) wr (w4.setCell ⟨O, q, none⟩ (.slice a (la.length + lb.length) cc)) := (Out.ofBelow hb).trans (Out.set O q w4 _)
      have hr5 := hr.out (Out.set O q w4 (.slice a (la.length + lb.length) cc)) (.inr hS)
      obtain ⟨H', hF'⟩ := HFS.out _ a cc hO4 (by rw [List.length_append]; simpa using hr5) hz
      rw [List.length_append] at hF'
      have HF' := (show Hid (FilI (fun j => .slice (some ⟨kindB b0 b1 b2 b3 j, 0, none⟩) (kindL l0 l1 l2 l3 j).length (kindB c0 c1 c2 c3 j)) (fun j => kindL l0 l1 l2 l3 j ++ kindL k0 k1 k2 k3 j) w3.heap.size (w4.setCell ⟨O, q, none⟩ (.slice a (la.length + lb.length) cc)) (fun j => if j = q then .slice a (la.length + lb.length) cc else V j) H' (q + 1)) from hF')
      have HO5 : Hid (Out O (O + 1) w3 (w4.setCell ⟨O, q, none⟩ (.slice a (la.length + lb.length) cc))) := hO.trans hO4
      have HV5 : Hid (VRow (w4.setCell ⟨O, q, none⟩ (.slice a (la.length + lb.length) cc)) O (fun j => if j = q then .slice a (la.length + lb.length) cc else V j)) := hV5
      clear hF' hr hr5 hb hV4 hV5 hV HFS hO4
      go_wp2
      go_roundw
      case rel => exact ⟨q + 1, by omega, by go_num, _, H', HV5.out, HF'.out, HO5.out⟩
      case measure => simp [intOf]; omega
    · obtain rfl : q = 4 := by omega
      obtain ⟨a0, a1, a2, a3, e0, e1, e2, e3, x0, x1, x2, x3, u0, u1, u2, u3, T⟩ := hF.done hV
      have R4 := R0.out hO (.inl (by omega))
      have L4 := L0.trans (hO.below (by have := L0.size; omega) L0.size)
      have zM := hO.size
      have zL := L0.size
      clear hF hV hO KL KK KI R0 L0
      have s0 : kindL l0 l1 l2 l3 ((0 : Nat) : Int) ++ kindL k0 k1 k2 k3 ((0 : Nat) : Int) = l0 ++ k0 := rfl
      have s1 : kindL l0 l1 l2 l3 ((1 : Nat) : Int) ++ kindL k0 k1 k2 k3 ((1 : Nat) : Int) = l1 ++ k1 := rfl
      have s2 : kindL l0 l1 l2 l3 ((2 : Nat) : Int) ++ kindL k0 k1 k2 k3 ((2 : Nat) : Int) = l2 ++ k2 := rfl
      have s3 : kindL l0 l1 l2 l3 ((3 : Nat) : Int) ++ kindL k0 k1 k2 k3 ((3 : Nat) : Int) = l3 ++ k3 := rfl
      try dsimp only at x0 x1 x2 x3 T
      rw [s0] at x0 T; rw [s1] at x1 T; rw [s2] at x2 T; rw [s3] at x3 T
      clear s0 s1 s2 s3
      have Z0 : (l0 ++ k0).length ≤ 1048576 := by rw [List.length_append]; omega
      obtain ⟨v0, hv0⟩ : ∃ x, l0 ++ k0 = x := ⟨_, rfl⟩
      rw [hv0] at T Z0 x0
      have HX0 : Hid (l0 ++ k0 = v0) := hv0
      clear hv0
      have Z1 : (l1 ++ k1).length ≤ 1048576 := by rw [List.length_append]; omega
      obtain ⟨v1, hv1⟩ : ∃ x, l1 ++ k1 = x := ⟨_, rfl⟩
      rw [hv1] at T Z1 x1
      have HX1 : Hid (l1 ++ k1 = v1) := hv1
      clear hv1
      have Z2 : (l2 ++ k2).length ≤ 1048576 := by rw [List.length_append]; omega
      obtain ⟨v2, hv2⟩ : ∃ x, l2 ++ k2 = x := ⟨_, rfl⟩
      rw [hv2] at T Z2 x2
      have HX2 : Hid (l2 ++ k2 = v2) := hv2
      clear hv2
      have Z3 : (l3 ++ k3).length ≤ 1048576 := by rw [List.length_append]; omega
      obtain ⟨v3, hv3⟩ : ∃ x, l3 ++ k3 = x := ⟨_, rfl⟩
      rw [hv3] at T Z3 x3
      have HX3 : Hid (l3 ++ k3 = v3) := hv3
      clear hv3
      go_wp2_with fail
      refine (asnOf_any _ _ _ _ _ _ _ _ _ _ _ _ _).mono ?_
      rintro e w5 ⟨rfl, hb⟩
      clear x0 x1 x2 x3
      replace R4 := R4.below hb R4.lt; replace L4 := L4.trans (hb.mono L4.size); replace T := T.below hb (by omega)
      have z5 := hb.size
      clear hb
      have X0 := Box.new w5 (.slice a0 v0.length e0) (.slice a1 v1.length e1) (.slice a2 v2.length e2) (.slice a3 v3.length e3) 28
      have al : Below w5.heap.size w5 (w5.alloc (.cells #[.slice a0 v0.length e0, .slice a1 v1.length e1, .slice a2 v2.length e2, .slice a3 v3.length e3] 28)) := (Below.refl _ _).alloc (Nat.le_refl _) _
      replace R4 := R4.below al R4.lt; replace L4 := L4.trans (al.mono L4.size); replace T := T.below al (by omega)
      clear al
      have za : (w5.alloc (.cells #[.slice a0 v0.length e0, .slice a1 v1.length e1, .slice a2 v2.length e2, .slice a3 v3.length e3] 28)).heap.size = w5.heap.size + 1 := by simp
      have TS := T.seen
      go_wp2_with fail
      refine (iAsnOk_any _ _ _ _ _ _ _ _ _ _ _ _ _ Z0 Z1 Z2 Z3 (by exact TS.1.row) (by exact TS.2.1.row) (by exact TS.2.2.1.row) (by exact TS.2.2.2.row)).mono ?_
      rintro e w6 ⟨rfl, hb⟩
      clear TS
      replace R4 := R4.below hb R4.lt; replace L4 := L4.trans (hb.mono L4.size); replace T := T.below hb (by omega); replace X0 := X0.below hb X0.lt
      have zb := hb.size
      clear hb
      have X0c0 := X0.c0; have X0c1 := X0.c1; have X0c2 := X0.c2; have X0c3 := X0.c3
      cases h3 : asnB v0 v1 v2 v3
      · have HE : Hid ((starB l0 l1 l2 l3 k0 k1 k2 k3) = false) := by show (starB l0 l1 l2 l3 k0 k1 k2 k3) = false; unfold starB; rw [H1.out, H2.out, HX0.out, HX1.out, HX2.out, HX3.out, h3]; simp
        obtain ⟨F, FO⟩ := R4.fill (.slice none 0 0) (.slice none 0 0) (.slice none 0 0) (.slice none 0 0)
        have j0' := R4.c0; have j1' := R4.c1; have j2' := R4.c2; have j3' := R4.c3
        have g0 := R4.f0; have g1 := R4.f1; have g2 := R4.f2; have g3 := R4.f3
        go_wp2
        have i0 := F.c0; have i1 := F.c1; have i2 := F.c2; have i3 := F.c3
        refine bodyPost_ret (v := .tuple #[.agg #[.slice none 0 0, .slice none 0 0, .slice none 0 0, .slice none 0 0], .bool false]) ?_ rfl ⟨none, none, none, none, 0, 0, 0, 0, by rw [HE.out]; rfl, ?_, ?_⟩
        · simp [results, Try.results38, go_sem, i0, i1, i2, i3]
        · rw [HE.out]; exact (Four.none _ w.heap.size).mono (Nat.le_refl _) (by have := FO.size; have := L4.size; omega)
        · exact L4.trans (FO.below (by omega) L4.size)
      have HE : Hid ((starB l0 l1 l2 l3 k0 k1 k2 k3) = true) := by show (starB l0 l1 l2 l3 k0 k1 k2 k3) = true; unfold starB; rw [H1.out, H2.out, HX0.out, HX1.out, HX2.out, HX3.out, h3]; rfl
      clear h3
      obtain ⟨F, FO⟩ := R4.fill (.slice a0 v0.length e0) (.slice a1 v1.length e1) (.slice a2 v2.length e2) (.slice a3 v3.length e3)
      have j0' := R4.c0; have j1' := R4.c1; have j2' := R4.c2; have j3' := R4.c3
      have g0 := R4.f0; have g1 := R4.f1; have g2 := R4.f2; have g3 := R4.f3
      go_wp2
      have i0 := F.c0; have i1 := F.c1; have i2 := F.c2; have i3 := F.c3
      have fz := FO.size
      refine bodyPost_ret (v := .tuple #[.agg #[.slice a0 v0.length e0, .slice a1 v1.length e1, .slice a2 v2.length e2, .slice a3 v3.length e3], .bool true]) ?_ rfl ⟨a0, a1, a2, a3, e0, e1, e2, e3, by rw [HE.out, HX0.out, HX1.out, HX2.out, HX3.out]; rfl, ?_, ?_⟩
      · simp [results, Try.results38, go_sem, i0, i1, i2, i3]
      · rw [HE.out, HX0.out, HX1.out, HX2.out, HX3.out]; exact (T.out FO (.inr (by omega))).mono (by omega) (by omega)
      · exact L4.trans (FO.below (by omega) L4.size)

end Go.Proofs.Ytmiiebmnjijhoaa
