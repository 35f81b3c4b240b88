/-
  The contract of spec.Sorted.
-/
import Derived.Test.YtfplloabkceaoaaSL1
import Derived.Test.YtfplloabkceaoaaSIm
import Derived.Test.YtfplloabkceaoaaPu
import Derived.Test.YtfplloabkceaoaaWd
namespace Go.Proofs.Ytfplloabkceaoaa
open Go.RowKit
set_option linter.unusedVariables false

theorem row2 {u0 W u1 : World} {lo : Nat} {a : Option Addr} {n : Nat} {l : List (Int × Int)} (T : RowIn u0 lo u0.heap.size a n l) (h1 : Below u0.heap.size u0 W) (h2 : Below W.heap.size W u1) : RowIn u1 lo u1.heap.size a n l :=
  ((T.below h1 (Nat.le_refl _)).below h2 h1.size).mono (Nat.le_refl _) (Nat.le_trans h1.size h2.size)
theorem asn_small {l0 l1 l2 l3 : List (Int × Int)} (h : asnB l0 l1 l2 l3 = true) : l0.length ≤ 4096 ∧ l1.length ≤ 4096 ∧ l2.length ≤ 4096 ∧ l3.length ≤ 4096 :=
  ⟨Nat.le_trans (kind_small h 0) (by decide), Nat.le_trans (kind_small h 1) (by decide), Nat.le_trans (kind_small h 2) (by decide), Nat.le_trans (kind_small h 3) (by decide)⟩

set_option maxRecDepth 20000 in
set_option maxHeartbeats 8000000 in
theorem sSorted_any (b0 b1 b2 b3 c0 c1 c2 c3 : Nat) (l0 l1 l2 l3 : List (Int × Int)) (w : World) (n0 : l0.length ≤ 1048576) (n1 : l1.length ≤ 1048576) (n2 : l2.length ≤ 1048576) (n3 : l3.length ≤ 1048576) (o0 : Own w b0 l0.length l0 l0.length) (o1 : Own w b1 l1.length l1 l1.length) (o2 : Own w b2 l2.length l2 l2.length) (o3 : Own w b3 l3.length l3 l3.length) :
    Calls Try.prog 55 #[.agg #[.slice (some ⟨b0, 0, none⟩) l0.length c0, .slice (some ⟨b1, 0, none⟩) l1.length c1, .slice (some ⟨b2, 0, none⟩) l2.length c2, .slice (some ⟨b3, 0, none⟩) l3.length c3]] w fun e w' => ∃ p0 p1 p2 p3 q0 q1 q2 q3, e = .returned (.tuple #[.agg #[.slice p0 (okL (asnB l0 l1 l2 l3) (sortP l0)).length q0, .slice p1 (okL (asnB l0 l1 l2 l3) (sortP l1)).length q1, .slice p2 (okL (asnB l0 l1 l2 l3) (sortP l2)).length q2, .slice p3 (okL (asnB l0 l1 l2 l3) (sortP l3)).length q3], .bool (asnB l0 l1 l2 l3)]) ∧ Seen w' w.heap.size w'.heap.size p0 p1 p2 p3 (okL (asnB l0 l1 l2 l3) (sortP l0)).length (okL (asnB l0 l1 l2 l3) (sortP l1)).length (okL (asnB l0 l1 l2 l3) (sortP l2)).length (okL (asnB l0 l1 l2 l3) (sortP l3)).length (okL (asnB l0 l1 l2 l3) (sortP l0)) (okL (asnB l0 l1 l2 l3) (sortP l1)) (okL (asnB l0 l1 l2 l3) (sortP l2)) (okL (asnB l0 l1 l2 l3) (sortP l3)) ∧ Below w.heap.size w w' := by
  have A0 := (Box.new w (.slice (some ⟨b0, 0, none⟩) l0.length c0) (.slice (some ⟨b1, 0, none⟩) l1.length c1) (.slice (some ⟨b2, 0, none⟩) l2.length c2) (.slice (some ⟨b3, 0, none⟩) l3.length c3) 28).alloc (.cells #[.slice none 0 0, .slice none 0 0, .slice none 0 0, .slice none 0 0] 28)
  have R0 := Box.new (w.alloc (.cells #[.slice (some ⟨b0, 0, none⟩) l0.length c0, .slice (some ⟨b1, 0, none⟩) l1.length c1, .slice (some ⟨b2, 0, none⟩) l2.length c2, .slice (some ⟨b3, 0, none⟩) l3.length c3] 28)) (.slice none 0 0) (.slice none 0 0) (.slice none 0 0) (.slice none 0 0) 28
  have L0 : Below w.heap.size w ((w.alloc (.cells #[.slice (some ⟨b0, 0, none⟩) l0.length c0, .slice (some ⟨b1, 0, none⟩) l1.length c1, .slice (some ⟨b2, 0, none⟩) l2.length c2, .slice (some ⟨b3, 0, none⟩) l3.length c3] 28)).alloc (.cells #[.slice none 0 0, .slice none 0 0, .slice none 0 0, .slice none 0 0] 28)) := ((Below.refl _ _).alloc (Nat.le_refl _) _).alloc (by simp) _
  rw [World.size_alloc] at R0
  go_enter Try.func55, Try.ntmps55
  go_wp2_with fail
  refine (sAsnOk_any _ _ _ _ _ _ _ _ _ _ _ _ _ n0 n1 n2 n3 (by exact (o0.below L0 o0.1).row) (by exact (o1.below L0 o1.1).row) (by exact (o2.below L0 o2.1).row) (by exact (o3.below L0 o3.1).row)).mono ?_
  rintro e w1 ⟨rfl, hb⟩
  replace A0 := A0.below hb A0.lt; replace R0 := R0.below hb R0.lt; replace L0 := L0.trans (hb.mono L0.size)
  clear hb
  cases h1 : asnB l0 l1 l2 l3
  · have HE : Hid (asnB l0 l1 l2 l3 = false) := h1
    obtain ⟨F, FO⟩ := R0.fill (.slice none 0 0) (.slice none 0 0) (.slice none 0 0) (.slice none 0 0)
    have j0' := R0.c0; have j1' := R0.c1; have j2' := R0.c2; have j3' := R0.c3
    have g0 := R0.f0; have g1 := R0.f1; have g2 := R0.f2; have g3 := R0.f3
    go_wp2
    have i0 := F.c0; have i1 := F.c1; have i2 := F.c2; have i3 := F.c3
    refine bodyPost_ret (v := .tuple #[.agg #[.slice none 0 0, .slice none 0 0, .slice none 0 0, .slice none 0 0], .bool false]) ?_ rfl ⟨none, none, none, none, 0, 0, 0, 0, by rw [HE.out]; rfl, ?_, ?_⟩
    · simp [results, Try.results55, go_sem, i0, i1, i2, i3]
    · rw [HE.out]; exact Seen.none _ _ _
    · exact L0.trans (FO.below (by omega) L0.size)
  have HE : Hid (asnB l0 l1 l2 l3 = true) := h1
  obtain ⟨z0, z1, z2, z3⟩ := asn_small h1
  clear h1
  have hS0 : Below w.heap.size w w1.drew ∧ Own w1.drew (w.heap.size + 1) 2 [] 0 ∧ w1.drew.cell? ⟨w.heap.size, 0, none⟩ = some (.slice (some ⟨b0, 0, none⟩) l0.length c0) ∧ w1.drew.cell? ⟨w.heap.size, 1, none⟩ = some (.slice (some ⟨b1, 0, none⟩) l1.length c1) ∧ w1.drew.cell? ⟨w.heap.size, 2, none⟩ = some (.slice (some ⟨b2, 0, none⟩) l2.length c2) ∧ w1.drew.cell? ⟨w.heap.size, 3, none⟩ = some (.slice (some ⟨b3, 0, none⟩) l3.length c3) := ⟨L0.drew, (box_own R0).drew, A0.c0, A0.c1, A0.c2, A0.c3⟩
  clear R0 A0 L0
  go_wp2
  go_region_held3 (fun W => Below w.heap.size w W ∧ Own W (w.heap.size + 1) 2 [] 0 ∧ W.cell? ⟨w.heap.size, 0, none⟩ = some (.slice (some ⟨b0, 0, none⟩) l0.length c0) ∧ W.cell? ⟨w.heap.size, 1, none⟩ = some (.slice (some ⟨b1, 0, none⟩) l1.length c1) ∧ W.cell? ⟨w.heap.size, 2, none⟩ = some (.slice (some ⟨b2, 0, none⟩) l2.length c2) ∧ W.cell? ⟨w.heap.size, 3, none⟩ = some (.slice (some ⟨b3, 0, none⟩) l3.length c3))
    (first | exact hS0 | assumption | (refine jS_ad _ ?_; (first | assumption | (refine ⟨?_, ?_, ?_, ?_, ?_, ?_⟩ <;> assumption))) | (refine jS_alloc _ ?_; (first | assumption | (refine ⟨?_, ?_, ?_, ?_, ?_, ?_⟩ <;> assumption))) | (refine jS_store _ _ _ _ ?_; (first | assumption | (refine ⟨?_, ?_, ?_, ?_, ?_, ?_⟩ <;> assumption))) | (refine ⟨?_, ?_, ?_, ?_, ?_, ?_⟩ <;> assumption))
    (first
      | (go_at_call_of 146 (Value.slice (some ⟨b0, 0, none⟩) l0.length c0); refine (l1sorted_any b0 c0 l0 _ z0 (jS_own o0 (by assumption))).mono ?_; rintro e u0 ⟨p0, q0, rfl, t0, h0⟩; have k0 := jS_keep (by assumption) h0; replace t0 := t0.mono (jS_ge (by assumption)) (Nat.le_refl _))
      | (go_at_call_of 146 (Value.slice (some ⟨b1, 0, none⟩) l1.length c1); refine (l1sorted_any b1 c1 l1 _ z1 (jS_own o1 (by assumption))).mono ?_; rintro e u1 ⟨p1, q1, rfl, t1, h1⟩; have k1 := jS_keep (by assumption) h1; replace t1 := t1.mono (jS_ge (by assumption)) (Nat.le_refl _); replace t0 := row2 t0 (by (first | exact Below.refl _ _ | exact (Below.refl _ _).drew)) h1)
      | (go_at_call_of 146 (Value.slice (some ⟨b2, 0, none⟩) l2.length c2); refine (l1sorted_any b2 c2 l2 _ z2 (jS_own o2 (by assumption))).mono ?_; rintro e u2 ⟨p2, q2, rfl, t2, h2⟩; have k2 := jS_keep (by assumption) h2; replace t2 := t2.mono (jS_ge (by assumption)) (Nat.le_refl _); replace t0 := row2 t0 (by (first | exact Below.refl _ _ | exact (Below.refl _ _).drew)) h2; replace t1 := row2 t1 (by (first | exact Below.refl _ _ | exact (Below.refl _ _).drew)) h2)
      | (go_at_call_of 146 (Value.slice (some ⟨b3, 0, none⟩) l3.length c3); refine (l1sorted_any b3 c3 l3 _ z3 (jS_own o3 (by assumption))).mono ?_; rintro e u3 ⟨p3, q3, rfl, t3, h3⟩; have k3 := jS_keep (by assumption) h3; replace t3 := t3.mono (jS_ge (by assumption)) (Nat.le_refl _); replace t0 := row2 t0 (by (first | exact Below.refl _ _ | exact (Below.refl _ _).drew)) h3; replace t1 := row2 t1 (by (first | exact Below.refl _ _ | exact (Below.refl _ _).drew)) h3; replace t2 := row2 t2 (by (first | exact Below.refl _ _ | exact (Below.refl _ _).drew)) h3; obtain ⟨f0, hf0⟩ := (k3.2.1.2.1 0 (by omega)).1; have ff0 := (k3.2.1.2.1 0 (by omega)).2; obtain ⟨f1, hf1⟩ := (k3.2.1.2.1 1 (by omega)).1; have ff1 := (k3.2.1.2.1 1 (by omega)).2; obtain ⟨f2, hf2⟩ := (k3.2.1.2.1 2 (by omega)).1; have ff2 := (k3.2.1.2.1 2 (by omega)).2; obtain ⟨f3, hf3⟩ := (k3.2.1.2.1 3 (by omega)).1; have ff3 := (k3.2.1.2.1 3 (by omega)).2))
  all_goals
    obtain ⟨F, FO⟩ := Own.fill k3.2.1 (.slice p0 l0.length q0) (.slice p1 l1.length q1) (.slice p2 l2.length q2) (.slice p3 l3.length q3)
    have hB := k3.1
    have hy' := FO.size
    clear k0 k1 k2 k3 h0 h1 h2 h3 hS0
    go_wp2
    have i0 := F.c0; have i1 := F.c1; have i2 := F.c2; have i3 := F.c3
    have e0 := sortP_length l0; have e1 := sortP_length l1; have e2 := sortP_length l2; have e3 := sortP_length l3
    refine bodyPost_ret (v := .tuple #[.agg #[.slice p0 l0.length q0, .slice p1 l1.length q1, .slice p2 l2.length q2, .slice p3 l3.length q3], .bool true]) ?_ rfl ⟨p0, p1, p2, p3, q0, q1, q2, q3, by rw [HE.out]; simp only [okL, if_pos, e0, e1, e2, e3], ?_, ?_⟩
    · simp [results, Try.results55, go_sem, i0, i1, i2, i3]
    · rw [HE.out]; simp only [okL, if_pos, e0, e1, e2, e3]
      exact ⟨(t0.out FO (.inr (by omega))).mono (by omega) hy', (t1.out FO (.inr (by omega))).mono (by omega) hy', (t2.out FO (.inr (by omega))).mono (by omega) hy', (t3.out FO (.inr (by omega))).mono (by omega) hy'⟩
    · exact hB.trans (FO.below (by omega) hB.size)

end Go.Proofs.Ytfplloabkceaoaa
