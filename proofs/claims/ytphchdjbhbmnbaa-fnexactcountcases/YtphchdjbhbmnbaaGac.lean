/-
  Plain lemmas and contracts of functions for the other texts of this seat: Subst, SSubst, Pairs, VRow, Bh, Mg.
-/
import Derived.Test.YtphchdjbhbmnbaaGab
import Derived.Deep.RegionHeld3
import Derived.Outline
import Derived.Test.YtphchdjbhbmnbaaGaa
import Derived.Deep.RegionLaw
import Derived.Deep.AppendLies
namespace Go.Proofs.Ytphchdjbhbmnbaa
open Go.RowKit

set_option maxHeartbeats 2000000 in
theorem l1subst_any (b0 b1 b2 b3 : Nat) (c0 c1 c2 c3 : Nat) (l0 l1 l2 l3 : List (Int × Int)) (t by' : Int) (w : World)
    (n0 : l0.length ≤ 1048576) (n1 : l1.length ≤ 1048576) (n2 : l2.length ≤ 1048576) (n3 : l3.length ≤ 1048576)
    (o0 : Own w b0 l0.length l0 l0.length) (o1 : Own w b1 l1.length l1 l1.length) (o2 : Own w b2 l2.length l2 l2.length) (o3 : Own w b3 l3.length l3 l3.length) :
    Calls Try.prog 131 #[.agg #[.slice (some ⟨b0, 0, none⟩) l0.length c0, .slice (some ⟨b1, 0, none⟩) l1.length c1, .slice (some ⟨b2, 0, none⟩) l2.length c2, .slice (some ⟨b3, 0, none⟩) l3.length c3], .int .i64 t, .int .i64 by'] w fun e w' => ∃ p0 p1 p2 p3 q0 q1 q2 q3,
      e = .returned (.agg #[.slice p0 l0.length q0, .slice p1 l1.length q1, .slice p2 l2.length q2, .slice p3 l3.length q3]) ∧
      RowIn w' w.heap.size w'.heap.size p0 l0.length (swapL t by' l0) ∧ RowIn w' w.heap.size w'.heap.size p1 l1.length (swapL t by' l1) ∧ RowIn w' w.heap.size w'.heap.size p2 l2.length (swapL t by' l2) ∧ RowIn w' w.heap.size w'.heap.size p3 l3.length (swapL t by' l3) ∧ Below w.heap.size w w' := by
  have B0 := (Box.new w (.slice (some ⟨b0, 0, none⟩) l0.length c0) (.slice (some ⟨b1, 0, none⟩) l1.length c1) (.slice (some ⟨b2, 0, none⟩) l2.length c2) (.slice (some ⟨b3, 0, none⟩) l3.length c3) 28).alloc (.cells #[.slice none 0 0, .slice none 0 0, .slice none 0 0, .slice none 0 0] 28)
  have R0 := Box.new (w.alloc (.cells #[.slice (some ⟨b0, 0, none⟩) l0.length c0, .slice (some ⟨b1, 0, none⟩) l1.length c1, .slice (some ⟨b2, 0, none⟩) l2.length c2, .slice (some ⟨b3, 0, none⟩) l3.length c3] 28)) (.slice none 0 0) (.slice none 0 0) (.slice none 0 0) (.slice none 0 0) 28
  have L0 : Below w.heap.size w ((w.alloc (.cells #[.slice (some ⟨b0, 0, none⟩) l0.length c0, .slice (some ⟨b1, 0, none⟩) l1.length c1, .slice (some ⟨b2, 0, none⟩) l2.length c2, .slice (some ⟨b3, 0, none⟩) l3.length c3] 28)).alloc (.cells #[.slice none 0 0, .slice none 0 0, .slice none 0 0, .slice none 0 0] 28)) := ((Below.refl _ _).alloc (Nat.le_refl _) _).alloc (by simp) _
  rw [World.size_alloc] at R0
  go_enter Try.func131, Try.ntmps131
  go_wp2
  have S0 : w.heap.size + 1 < ((w.alloc (.cells #[.slice (some ⟨b0, 0, none⟩) l0.length c0, .slice (some ⟨b1, 0, none⟩) l1.length c1, .slice (some ⟨b2, 0, none⟩) l2.length c2, .slice (some ⟨b3, 0, none⟩) l3.length c3] 28)).alloc (.cells #[.slice none 0 0, .slice none 0 0, .slice none 0 0, .slice none 0 0] 28)).heap.size := by simp
  generalize (w.alloc (.cells #[.slice (some ⟨b0, 0, none⟩) l0.length c0, .slice (some ⟨b1, 0, none⟩) l1.length c1, .slice (some ⟨b2, 0, none⟩) l2.length c2, .slice (some ⟨b3, 0, none⟩) l3.length c3] 28)).alloc (.cells #[.slice none 0 0, .slice none 0 0, .slice none 0 0, .slice none 0 0] 28) = W0 at *
  have x0 := B0.c0; have x1 := B0.c1; have x2 := B0.c2; have x3 := B0.c3
  go_region_held3 (fun w' => w'.cell? ⟨w.heap.size, 0, none⟩ = some (.slice (some ⟨b0, 0, none⟩) l0.length c0) ∧ w'.cell? ⟨w.heap.size, 1, none⟩ = some (.slice (some ⟨b1, 0, none⟩) l1.length c1) ∧ w'.cell? ⟨w.heap.size, 2, none⟩ = some (.slice (some ⟨b2, 0, none⟩) l2.length c2) ∧ w'.cell? ⟨w.heap.size, 3, none⟩ = some (.slice (some ⟨b3, 0, none⟩) l3.length c3)) (go_keep)
    (first
      | (go_at_call_of 209 (Value.slice (some ⟨b0, 0, none⟩) l0.length c0); refine (l1swap_any _ _ _ _ _ _ n0 ?_).mono ?_; exact o0.below L0.drew o0.1; rintro e u1 ⟨p0, q0, rfl, t0, h1⟩; have B1 := B0.drew.below h1 B0.lt; have y0 := B1.c0; have y1 := B1.c1; have y2 := B1.c2; have y3 := B1.c3)
      | (go_at_call_of 209 (Value.slice (some ⟨b1, 0, none⟩) l1.length c1); refine (l1swap_any _ _ _ _ _ _ n1 ?_).mono ?_; exact (o1.below L0.drew o1.1).below h1 (o1.below L0.drew o1.1).1; rintro e u2 ⟨p1, q1, rfl, t1, h2⟩; have B2 := B1.below h2 B1.lt; have z0 := B2.c0; have z1 := B2.c1; have z2 := B2.c2; have z3 := B2.c3)
      | (go_at_call_of 209 (Value.slice (some ⟨b2, 0, none⟩) l2.length c2); refine (l1swap_any _ _ _ _ _ _ n2 ?_).mono ?_; exact ((o2.below L0.drew o2.1).below h1 (o2.below L0.drew o2.1).1).below h2 ((o2.below L0.drew o2.1).below h1 (o2.below L0.drew o2.1).1).1; rintro e u3 ⟨p2, q2, rfl, t2, h3⟩; have B3 := B2.below h3 B2.lt; have m0 := B3.c0; have m1 := B3.c1; have m2 := B3.c2; have m3 := B3.c3)
      | (go_at_call_of 209 (Value.slice (some ⟨b3, 0, none⟩) l3.length c3); refine (l1swap_any _ _ _ _ _ _ n3 ?_).mono ?_; exact (((o3.below L0.drew o3.1).below h1 (o3.below L0.drew o3.1).1).below h2 ((o3.below L0.drew o3.1).below h1 (o3.below L0.drew o3.1).1).1).below h3 (((o3.below L0.drew o3.1).below h1 (o3.below L0.drew o3.1).1).below h2 ((o3.below L0.drew o3.1).below h1 (o3.below L0.drew o3.1).1).1).1; rintro e u4 ⟨p3, q3, rfl, t3, h4⟩; have B4 := B3.below h4 B3.lt; have v0 := B4.c0; have v1 := B4.c1; have v2 := B4.c2; have v3 := B4.c3; have R4 := (((R0.drew.below h1 R0.lt).below h2 (R0.drew.below h1 R0.lt).lt).below h3 ((R0.drew.below h1 R0.lt).below h2 (R0.drew.below h1 R0.lt).lt).lt).below h4 (((R0.drew.below h1 R0.lt).below h2 (R0.drew.below h1 R0.lt).lt).below h3 ((R0.drew.below h1 R0.lt).below h2 (R0.drew.below h1 R0.lt).lt).lt).lt; have j0 := R4.c0; have j1 := R4.c1; have j2 := R4.c2; have j3 := R4.c3; have g0 := R4.f0; have g1 := R4.f1; have g2 := R4.f2; have g3 := R4.f3))
  have M0 := L0.drew
  have M1 := M0.trans (h1.mono M0.size); have M2 := M1.trans (h2.mono M1.size); have M3 := M2.trans (h3.mono M2.size); have M4 := M3.trans (h4.mono M3.size)
  have z1' := h1.size; have z2' := h2.size; have z3' := h3.size; have z4' := h4.size
  rw [World.size_drew] at z1' t0
  replace t0 := ((t0.below h2 (Nat.le_refl _)).below h3 z2').below h4 (by omega)
  replace t1 := (t1.below h3 (Nat.le_refl _)).below h4 z3'
  replace t2 := t2.below h4 (Nat.le_refl _)
  obtain ⟨F, FO⟩ := R4.fill (.slice p0 l0.length q0) (.slice p1 l1.length q1) (.slice p2 l2.length q2) (.slice p3 l3.length q3)
  clear B0 B1 B2 B3 B4 R0 L0 M0 M1 M2 M3 h1 h2 h3 h4
  clear x0 x1 x2 x3 y0 y1 y2 y3 z0 z1 z2 z3 m0 m1 m2 m3 v0 v1 v2 v3
  go_wp2
  have i0 := F.c0; have i1 := F.c1; have i2 := F.c2; have i3 := F.c3
  refine bodyPost_ret (v := .agg #[.slice p0 l0.length q0, .slice p1 l1.length q1, .slice p2 l2.length q2, .slice p3 l3.length q3]) ?_ rfl ⟨p0, p1, p2, p3, q0, q1, q2, q3, rfl, ?_, ?_, ?_, ?_, ?_⟩
  · simp [results, Try.results131, go_sem, i0, i1, i2, i3]
  · exact (t0.out FO (by omega)).mono (by omega) (by have := FO.size; omega)
  · exact (t1.out FO (by omega)).mono (by omega) (by have := FO.size; omega)
  · exact (t2.out FO (by omega)).mono (by omega) (by have := FO.size; omega)
  · exact (t3.out FO (by omega)).mono (by omega) (by have := FO.size; omega)
  · exact M4.trans (FO.below (by omega) M4.size)

end Go.Proofs.Ytphchdjbhbmnbaa
namespace Go.Proofs.Ytphchdjbhbmnbaa
open Go.RowKit

def substB (l0 l1 l2 l3 : List (Int × Int)) (t b : Int) : Bool := asnB l0 l1 l2 l3 && tok t && tok b && !(t == 0)
/-- A list where it is so, else nothing. -/
def okL (ok : Bool) (l : List (Int × Int)) : List (Int × Int) := if ok = true then l else []

set_option maxHeartbeats 2000000 in
theorem sSubst_any (b0 b1 b2 b3 : Nat) (c0 c1 c2 c3 : Nat) (l0 l1 l2 l3 : List (Int × Int)) (t by' : Int) (w : World)
    (n0 : l0.length ≤ 1048576) (n1 : l1.length ≤ 1048576) (n2 : l2.length ≤ 1048576) (n3 : l3.length ≤ 1048576)
    (o0 : Own w b0 l0.length l0 l0.length) (o1 : Own w b1 l1.length l1 l1.length) (o2 : Own w b2 l2.length l2 l2.length) (o3 : Own w b3 l3.length l3 l3.length) :
    Calls Try.prog 40 #[.agg #[.slice (some ⟨b0, 0, none⟩) l0.length c0, .slice (some ⟨b1, 0, none⟩) l1.length c1, .slice (some ⟨b2, 0, none⟩) l2.length c2, .slice (some ⟨b3, 0, none⟩) l3.length c3], .int .i64 t, .int .i64 by'] w fun e w' => ∃ p0 p1 p2 p3 q0 q1 q2 q3, e = .returned (.tuple #[.agg #[.slice p0 (okL (substB l0 l1 l2 l3 t by') (swapL t by' l0)).length q0, .slice p1 (okL (substB l0 l1 l2 l3 t by') (swapL t by' l1)).length q1, .slice p2 (okL (substB l0 l1 l2 l3 t by') (swapL t by' l2)).length q2, .slice p3 (okL (substB l0 l1 l2 l3 t by') (swapL t by' l3)).length q3], .bool (substB l0 l1 l2 l3 t by')]) ∧ RowIn w' w.heap.size w'.heap.size p0 (okL (substB l0 l1 l2 l3 t by') (swapL t by' l0)).length (okL (substB l0 l1 l2 l3 t by') (swapL t by' l0)) ∧ RowIn w' w.heap.size w'.heap.size p1 (okL (substB l0 l1 l2 l3 t by') (swapL t by' l1)).length (okL (substB l0 l1 l2 l3 t by') (swapL t by' l1)) ∧ RowIn w' w.heap.size w'.heap.size p2 (okL (substB l0 l1 l2 l3 t by') (swapL t by' l2)).length (okL (substB l0 l1 l2 l3 t by') (swapL t by' l2)) ∧ RowIn w' w.heap.size w'.heap.size p3 (okL (substB l0 l1 l2 l3 t by') (swapL t by' l3)).length (okL (substB l0 l1 l2 l3 t by') (swapL t by' l3)) ∧ Below w.heap.size w w' := by
  have B0 := (Box.new w (.slice (some ⟨b0, 0, none⟩) l0.length c0) (.slice (some ⟨b1, 0, none⟩) l1.length c1) (.slice (some ⟨b2, 0, none⟩) l2.length c2) (.slice (some ⟨b3, 0, none⟩) l3.length c3) 28).alloc (.cells #[.slice none 0 0, .slice none 0 0, .slice none 0 0, .slice none 0 0] 28)
  have R0 := Box.new (w.alloc (.cells #[.slice (some ⟨b0, 0, none⟩) l0.length c0, .slice (some ⟨b1, 0, none⟩) l1.length c1, .slice (some ⟨b2, 0, none⟩) l2.length c2, .slice (some ⟨b3, 0, none⟩) l3.length c3] 28)) (.slice none 0 0) (.slice none 0 0) (.slice none 0 0) (.slice none 0 0) 28
  have L : Below w.heap.size w ((w.alloc (.cells #[.slice (some ⟨b0, 0, none⟩) l0.length c0, .slice (some ⟨b1, 0, none⟩) l1.length c1, .slice (some ⟨b2, 0, none⟩) l2.length c2, .slice (some ⟨b3, 0, none⟩) l3.length c3] 28)).alloc (.cells #[.slice none 0 0, .slice none 0 0, .slice none 0 0, .slice none 0 0] 28)) := ((Below.refl _ _).alloc (Nat.le_refl _) _).alloc (by simp) _
  rw [World.size_alloc] at R0
  go_enter Try.func40, Try.ntmps40
  go_wp2_with fail
  refine (sAsnOk_any _ _ _ _ _ _ _ _ _ _ _ _ _ n0 n1 n2 n3 (by exact (o0.below L o0.1).row) (by exact (o1.below L o1.1).row) (by exact (o2.below L o2.1).row) (by exact (o3.below L o3.1).row)).mono ?_
  rintro e w1 ⟨rfl, hb⟩
  have B1 := B0.below hb B0.lt; have R1 := R0.below hb R0.lt; have L1 := L.trans (hb.mono L.size)
  replace o0 := o0.below L1 o0.1; replace o1 := o1.below L1 o1.1; replace o2 := o2.below L1 o2.1; replace o3 := o3.below L1 o3.1
  clear hb B0 R0 L
  have x0 := B1.c0; have x1 := B1.c1; have x2 := B1.c2; have x3 := B1.c3
  have j0 := R1.c0; have j1 := R1.c1; have j2 := R1.c2; have j3 := R1.c3
  have g0 := R1.f0; have g1 := R1.f1; have g2 := R1.f2; have g3 := R1.f3
  cases h : asnB l0 l1 l2 l3
  · clear x0 x1 x2 x3
    have HE : Hid (substB l0 l1 l2 l3 t by' = false) := by show substB l0 l1 l2 l3 t by' = false; unfold substB; rw [h]; rfl
    obtain ⟨F, FO⟩ := R1.fill (.slice none 0 0) (.slice none 0 0) (.slice none 0 0) (.slice none 0 0)
    have i0 := F.c0; have i1 := F.c1; have i2 := F.c2; have i3 := F.c3
    go_wp2
    refine bodyPost_ret (v := .tuple #[.agg #[.slice none 0 0, .slice none 0 0, .slice none 0 0, .slice none 0 0], .bool false]) ?_ rfl ⟨none, none, none, none, 0, 0, 0, 0, by rw [HE.out]; rfl, ?_, ?_, ?_, ?_, ?_⟩
    · simp [results, Try.results40, go_sem, i0, i1, i2, i3]
    · rw [HE.out]; exact ⟨rfl, .inl rfl⟩
    · rw [HE.out]; exact ⟨rfl, .inl rfl⟩
    · rw [HE.out]; exact ⟨rfl, .inl rfl⟩
    · rw [HE.out]; exact ⟨rfl, .inl rfl⟩
    · exact L1.trans (FO.below (by omega) L1.size)
  go_wp2_with fail
  refine (sTermOk_any _ _).mono ?_
  rintro e wx ⟨rfl, rfl⟩
  cases ht : tok t
  · clear x0 x1 x2 x3
    have HE : Hid (substB l0 l1 l2 l3 t by' = false) := by show substB l0 l1 l2 l3 t by' = false; unfold substB; rw [h, ht]; rfl
    obtain ⟨F, FO⟩ := R1.fill (.slice none 0 0) (.slice none 0 0) (.slice none 0 0) (.slice none 0 0)
    have i0 := F.c0; have i1 := F.c1; have i2 := F.c2; have i3 := F.c3
    go_wp2
    refine bodyPost_ret (v := .tuple #[.agg #[.slice none 0 0, .slice none 0 0, .slice none 0 0, .slice none 0 0], .bool false]) ?_ rfl ⟨none, none, none, none, 0, 0, 0, 0, by rw [HE.out]; rfl, ?_, ?_, ?_, ?_, ?_⟩
    · simp [results, Try.results40, go_sem, i0, i1, i2, i3]
    · rw [HE.out]; exact ⟨rfl, .inl rfl⟩
    · rw [HE.out]; exact ⟨rfl, .inl rfl⟩
    · rw [HE.out]; exact ⟨rfl, .inl rfl⟩
    · rw [HE.out]; exact ⟨rfl, .inl rfl⟩
    · exact L1.trans (FO.below (by omega) L1.size)
  go_wp2_with fail
  refine (sTermOk_any _ _).mono ?_
  rintro e wx ⟨rfl, rfl⟩
  cases hb : tok by'
  · clear x0 x1 x2 x3
    have HE : Hid (substB l0 l1 l2 l3 t by' = false) := by show substB l0 l1 l2 l3 t by' = false; unfold substB; rw [h, ht, hb]; rfl
    obtain ⟨F, FO⟩ := R1.fill (.slice none 0 0) (.slice none 0 0) (.slice none 0 0) (.slice none 0 0)
    have i0 := F.c0; have i1 := F.c1; have i2 := F.c2; have i3 := F.c3
    go_wp2
    refine bodyPost_ret (v := .tuple #[.agg #[.slice none 0 0, .slice none 0 0, .slice none 0 0, .slice none 0 0], .bool false]) ?_ rfl ⟨none, none, none, none, 0, 0, 0, 0, by rw [HE.out]; rfl, ?_, ?_, ?_, ?_, ?_⟩
    · simp [results, Try.results40, go_sem, i0, i1, i2, i3]
    · rw [HE.out]; exact ⟨rfl, .inl rfl⟩
    · rw [HE.out]; exact ⟨rfl, .inl rfl⟩
    · rw [HE.out]; exact ⟨rfl, .inl rfl⟩
    · rw [HE.out]; exact ⟨rfl, .inl rfl⟩
    · exact L1.trans (FO.below (by omega) L1.size)
  cases hz : (t == 0)
  rotate_left
  · clear x0 x1 x2 x3
    have HE : Hid (substB l0 l1 l2 l3 t by' = false) := by show substB l0 l1 l2 l3 t by' = false; unfold substB; rw [h, ht, hb, hz]; rfl
    obtain ⟨F, FO⟩ := R1.fill (.slice none 0 0) (.slice none 0 0) (.slice none 0 0) (.slice none 0 0)
    have i0 := F.c0; have i1 := F.c1; have i2 := F.c2; have i3 := F.c3
    go_wp2
    refine bodyPost_ret (v := .tuple #[.agg #[.slice none 0 0, .slice none 0 0, .slice none 0 0, .slice none 0 0], .bool false]) ?_ rfl ⟨none, none, none, none, 0, 0, 0, 0, by rw [HE.out]; rfl, ?_, ?_, ?_, ?_, ?_⟩
    · simp [results, Try.results40, go_sem, i0, i1, i2, i3]
    · rw [HE.out]; exact ⟨rfl, .inl rfl⟩
    · rw [HE.out]; exact ⟨rfl, .inl rfl⟩
    · rw [HE.out]; exact ⟨rfl, .inl rfl⟩
    · rw [HE.out]; exact ⟨rfl, .inl rfl⟩
    · exact L1.trans (FO.below (by omega) L1.size)
  have HE : Hid (substB l0 l1 l2 l3 t by' = true) := by show substB l0 l1 l2 l3 t by' = true; unfold substB; rw [h, ht, hb, hz]; rfl
  clear h ht hb
  go_wp2_with fail
  refine (l1subst_any _ _ _ _ _ _ _ _ _ _ _ _ _ _ _ n0 n1 n2 n3 (by exact o0) (by exact o1) (by exact o2) (by exact o3)).mono ?_
  rintro e w2 ⟨p0, p1, p2, p3, q0, q1, q2, q3, rfl, t0, t1, t2, t3, hb⟩
  have R2 := R1.below hb R1.lt
  have L2 := L1.trans (hb.mono L1.size)
  have S1 := R1.lt
  clear hb L1 B1 R1 x0 x1 x2 x3 o0 o1 o2 o3 hz j0 j1 j2 j3 g0 g1 g2 g3
  obtain ⟨F, FO⟩ := R2.fill (.slice p0 l0.length q0) (.slice p1 l1.length q1) (.slice p2 l2.length q2) (.slice p3 l3.length q3)
  have j0 := R2.c0; have j1 := R2.c1; have j2 := R2.c2; have j3 := R2.c3
  have g0 := R2.f0; have g1 := R2.f1; have g2 := R2.f2; have g3 := R2.f3
  go_wp2
  have i0 := F.c0; have i1 := F.c1; have i2 := F.c2; have i3 := F.c3
  have e0 := swapL_length t by' l0; have e1 := swapL_length t by' l1; have e2 := swapL_length t by' l2; have e3 := swapL_length t by' l3
  refine bodyPost_ret (v := .tuple #[.agg #[.slice p0 l0.length q0, .slice p1 l1.length q1, .slice p2 l2.length q2, .slice p3 l3.length q3], .bool true]) ?_ rfl ⟨p0, p1, p2, p3, q0, q1, q2, q3, by rw [HE.out]; simp only [okL, if_pos, e0, e1, e2, e3], ?_, ?_, ?_, ?_, ?_⟩
  · simp [results, Try.results40, go_sem, i0, i1, i2, i3]
  · rw [HE.out]; simp only [okL, if_pos, e0]; exact (t0.out FO (by omega)).mono (by have := L2.size; omega) (by have := FO.size; omega)
  · rw [HE.out]; simp only [okL, if_pos, e1]; exact (t1.out FO (by omega)).mono (by have := L2.size; omega) (by have := FO.size; omega)
  · rw [HE.out]; simp only [okL, if_pos, e2]; exact (t2.out FO (by omega)).mono (by have := L2.size; omega) (by have := FO.size; omega)
  · rw [HE.out]; simp only [okL, if_pos, e3]; exact (t3.out FO (by omega)).mono (by have := L2.size; omega) (by have := FO.size; omega)
  · exact L2.trans (FO.below (by omega) L2.size)

end Go.Proofs.Ytphchdjbhbmnbaa
namespace Go.Proofs.Ytphchdjbhbmnbaa
open Go.RowKit

/-- The list of a kind. -/
def kindL (l0 l1 l2 l3 : List (Int × Int)) (k : Int) : List (Int × Int) := if k = 0 then l0 else if k = 1 then l1 else if k = 2 then l2 else l3
def kindB (b0 b1 b2 b3 : Nat) (k : Int) : Nat := if k = 0 then b0 else if k = 1 then b1 else if k = 2 then b2 else b3

set_option maxHeartbeats 1000000 in
theorem l1kind_any (b0 b1 b2 b3 : Nat) (c0 c1 c2 c3 : Nat) (l0 l1 l2 l3 : List (Int × Int)) (k : Int) (w : World) (h0 : 0 ≤ k) (h3 : k ≤ 3) :
    Calls Try.prog 142 #[.agg #[.slice (some ⟨b0, 0, none⟩) l0.length c0, .slice (some ⟨b1, 0, none⟩) l1.length c1, .slice (some ⟨b2, 0, none⟩) l2.length c2, .slice (some ⟨b3, 0, none⟩) l3.length c3], .int .i64 k] w fun e w' => ∃ c, e = .returned (.slice (some ⟨kindB b0 b1 b2 b3 k, 0, none⟩) (kindL l0 l1 l2 l3 k).length c) ∧ Below w.heap.size w w' := by
  obtain ⟨k, rfl⟩ := Int.eq_ofNat_of_zero_le h0
  obtain rfl | rfl | rfl | rfl : k = 0 ∨ k = 1 ∨ k = 2 ∨ k = 3 := by omega
  · go_enter Try.func142, Try.ntmps142
    go_wp2
    go_ret
    exact ⟨c0, rfl, (Below.refl _ _).alloc (Nat.le_refl _) _⟩
  · go_enter Try.func142, Try.ntmps142
    go_wp2
    go_ret
    exact ⟨c1, rfl, (Below.refl _ _).alloc (Nat.le_refl _) _⟩
  · go_enter Try.func142, Try.ntmps142
    go_wp2
    go_ret
    exact ⟨c2, rfl, (Below.refl _ _).alloc (Nat.le_refl _) _⟩
  · go_enter Try.func142, Try.ntmps142
    go_wp2
    go_ret
    exact ⟨c3, rfl, (Below.refl _ _).alloc (Nat.le_refl _) _⟩

theorem kind_own {w : World} {b0 b1 b2 b3 : Nat} {l0 l1 l2 l3 : List (Int × Int)} (o0 : Own w b0 l0.length l0 l0.length) (o1 : Own w b1 l1.length l1 l1.length) (o2 : Own w b2 l2.length l2 l2.length) (o3 : Own w b3 l3.length l3 l3.length) (k : Int) :
    Own w (kindB b0 b1 b2 b3 k) (kindL l0 l1 l2 l3 k).length (kindL l0 l1 l2 l3 k) (kindL l0 l1 l2 l3 k).length := by
  unfold kindB kindL
  split
  · exact o0
  · split
    · exact o1
    · split
      · exact o2
      · exact o3

theorem kind_le {l0 l1 l2 l3 : List (Int × Int)} (n0 : l0.length ≤ 1048576) (n1 : l1.length ≤ 1048576) (n2 : l2.length ≤ 1048576) (n3 : l3.length ≤ 1048576) (k : Int) : (kindL l0 l1 l2 l3 k).length ≤ 1048576 := by
  unfold kindL
  split
  · exact n0
  · split
    · exact n1
    · split
      · exact n2
      · exact n3

def pairsV (l0 l1 l2 l3 : List (Int × Int)) (k : Int) : List (Int × Int) := if asnB l0 l1 l2 l3 = true ∧ 0 ≤ k ∧ k ≤ 3 then kindL l0 l1 l2 l3 k else []

set_option maxHeartbeats 1000000 in
theorem sPairsOf_any (b0 b1 b2 b3 : Nat) (c0 c1 c2 c3 : Nat) (l0 l1 l2 l3 : List (Int × Int)) (k : Int) (w : World)
    (n0 : l0.length ≤ 1048576) (n1 : l1.length ≤ 1048576) (n2 : l2.length ≤ 1048576) (n3 : l3.length ≤ 1048576)
    (o0 : Own w b0 l0.length l0 l0.length) (o1 : Own w b1 l1.length l1 l1.length) (o2 : Own w b2 l2.length l2 l2.length) (o3 : Own w b3 l3.length l3 l3.length) :
    Calls Try.prog 50 #[.agg #[.slice (some ⟨b0, 0, none⟩) l0.length c0, .slice (some ⟨b1, 0, none⟩) l1.length c1, .slice (some ⟨b2, 0, none⟩) l2.length c2, .slice (some ⟨b3, 0, none⟩) l3.length c3], .int .i64 k] w fun e w' => ∃ a c, e = .returned (.slice a (pairsV l0 l1 l2 l3 k).length c) ∧ RowIn w' w.heap.size w'.heap.size a (pairsV l0 l1 l2 l3 k).length (pairsV l0 l1 l2 l3 k) ∧ Below w.heap.size w w' := by
  have B0 := Box.new w (.slice (some ⟨b0, 0, none⟩) l0.length c0) (.slice (some ⟨b1, 0, none⟩) l1.length c1) (.slice (some ⟨b2, 0, none⟩) l2.length c2) (.slice (some ⟨b3, 0, none⟩) l3.length c3) 28
  have L : Below w.heap.size w (w.alloc (.cells #[.slice (some ⟨b0, 0, none⟩) l0.length c0, .slice (some ⟨b1, 0, none⟩) l1.length c1, .slice (some ⟨b2, 0, none⟩) l2.length c2, .slice (some ⟨b3, 0, none⟩) l3.length c3] 28)) := (Below.refl _ _).alloc (Nat.le_refl _) _
  go_enter Try.func50, Try.ntmps50
  go_wp2_with fail
  refine (sAsnOk_any _ _ _ _ _ _ _ _ _ _ _ _ _ n0 n1 n2 n3 (by exact (o0.alloc _).row) (by exact (o1.alloc _).row) (by exact (o2.alloc _).row) (by exact (o3.alloc _).row)).mono ?_
  rintro e w1 ⟨rfl, hb⟩
  have B1 := B0.below hb B0.lt; have L1 := L.trans (hb.mono L.size)
  replace o0 := o0.below L1 o0.1; replace o1 := o1.below L1 o1.1; replace o2 := o2.below L1 o2.1; replace o3 := o3.below L1 o3.1
  clear hb B0 L
  have x0 := B1.c0; have x1 := B1.c1; have x2 := B1.c2; have x3 := B1.c3
  cases h : asnB l0 l1 l2 l3
  · have e : pairsV l0 l1 l2 l3 k = [] := by unfold pairsV; rw [if_neg (by simp [h])]
    have HE : Hid (pairsV l0 l1 l2 l3 k = []) := e
    clear e
    go_wp2
    go_ret
    exact ⟨none, 0, by rw [HE.out]; rfl, by rw [HE.out]; exact ⟨rfl, .inl rfl⟩, L1⟩
  by_cases k0 : k < 0
  · have e : pairsV l0 l1 l2 l3 k = [] := by unfold pairsV; rw [if_neg (by omega)]
    have HE : Hid (pairsV l0 l1 l2 l3 k = []) := e
    clear e
    go_wp2
    go_ret
    exact ⟨none, 0, by rw [HE.out]; rfl, by rw [HE.out]; exact ⟨rfl, .inl rfl⟩, L1⟩
  by_cases k3 : 3 < k
  · have e : pairsV l0 l1 l2 l3 k = [] := by unfold pairsV; rw [if_neg (by omega)]
    have HE : Hid (pairsV l0 l1 l2 l3 k = []) := e
    clear e
    go_wp2
    go_ret
    exact ⟨none, 0, by rw [HE.out]; rfl, by rw [HE.out]; exact ⟨rfl, .inl rfl⟩, L1⟩
  have HE : Hid (pairsV l0 l1 l2 l3 k = kindL l0 l1 l2 l3 k) := by show pairsV l0 l1 l2 l3 k = _; unfold pairsV; rw [if_pos ⟨h, by omega, by omega⟩]
  clear h
  have z := B1.lt
  go_wp2_with fail
  have hown := World.ownsRow_lit (base := w.heap.size) (e := 69) (size := 2) w1 #[] 0 L1.size (Nat.zero_le _) rfl
  have L2 := L1.alloc L1.size (.cells #[] 69)
  refine (l1kind_any _ _ _ _ _ _ _ _ _ _ _ _ _ _ (by omega) (by omega)).mono ?_
  rintro e w3 ⟨cs, rfl, hb⟩
  replace hown := owns_below hown hb
  have ho := (kind_own (o0.alloc (.cells #[] 69)) (o1.alloc _) (o2.alloc _) (o3.alloc _) k).below hb (kind_own (o0.alloc (.cells #[] 69)) (o1.alloc _) (o2.alloc _) (o3.alloc _) k).1
  have hn := kind_le n0 n1 n2 n3 k
  have L3 := L2.trans (hb.mono L2.size)
  clear hb L1 L2 B1 o0 o1 o2 o3 x0 x1 x2 x3 z n0 n1 n2 n3
  generalize kindB b0 b1 b2 b3 k = b at *
  generalize kindL l0 l1 l2 l3 k = l at *
  obtain ⟨i0, hi, hz0, hz1, hz2⟩ := Try.i57
  generalize w1.heap.size = g at *
  go_wp2_with (at_builtin; refine wpList_append_own _ rfl _ _ 26 rfl w.heap.size 69 i0 (.agg #[.int .i64 0, .int .i64 0]) 2 16 Try.underlying26 hi hz0 hz1 hz2 rfl (by decide) _ _ _ rfl hown ⟨b, 0, none⟩ l.length cs (pc l) rfl (pc_length l) ?c1 pc_one ?c3 ?c4 ?c5 ?_)
  case c1 => exact ho.news
  case c3 => unfold maxLen; omega
  case c4 => omega
  case c5 => exact L3.size
  intro v1 w4 hown' hg hiff
  obtain ⟨a, c, rfl, hr⟩ := RowIn.ofOwns hown'
  have hb := L3.grown hg L3.size (by intro q hq; exact ((hown.lt q hq).1))
  clear hiff hown hown' hg
  go_wp2
  go_ret
  exact ⟨a, c, by rw [HE.out]; rfl, by rw [HE.out]; exact hr, hb⟩


def kok (k : Int) : Bool := decide (0 ≤ k ∧ k < 4)

theorem kindOk_any (x : Int) (w : World) : Calls Try.prog 143 #[.int .i64 x] w fun e w' => e = .returned (.bool (kok x)) ∧ w' = w := by
  by_cases c1 : 0 ≤ x
  · by_cases c2 : x < 4
    · go_enter Try.func143, Try.ntmps143
      go_wp2
      go_ret
      exact ⟨ret_bool (by simp [kok, c1, c2]), rfl⟩
    · go_enter Try.func143, Try.ntmps143
      go_wp2
      go_ret
      exact ⟨ret_bool (by simp [kok]; omega), rfl⟩
  · go_enter Try.func143, Try.ntmps143
    go_wp2
    go_ret
    exact ⟨ret_bool (by simp [kok]; omega), rfl⟩

set_option maxHeartbeats 1000000 in
theorem iPairsOf_any (b0 b1 b2 b3 : Nat) (c0 c1 c2 c3 : Nat) (l0 l1 l2 l3 : List (Int × Int)) (k : Int) (w : World)
    (n0 : l0.length ≤ 1048576) (n1 : l1.length ≤ 1048576) (n2 : l2.length ≤ 1048576) (n3 : l3.length ≤ 1048576)
    (o0 : Own w b0 l0.length l0 l0.length) (o1 : Own w b1 l1.length l1 l1.length) (o2 : Own w b2 l2.length l2 l2.length) (o3 : Own w b3 l3.length l3 l3.length) :
    Calls Try.prog 51 #[.agg #[.slice (some ⟨b0, 0, none⟩) l0.length c0, .slice (some ⟨b1, 0, none⟩) l1.length c1, .slice (some ⟨b2, 0, none⟩) l2.length c2, .slice (some ⟨b3, 0, none⟩) l3.length c3], .int .i64 k] w fun e w' => ∃ a c, e = .returned (.slice a (pairsV l0 l1 l2 l3 k).length c) ∧ RowIn w' w.heap.size w'.heap.size a (pairsV l0 l1 l2 l3 k).length (pairsV l0 l1 l2 l3 k) ∧ Below w.heap.size w w' := by
  have B0 := Box.new w (.slice (some ⟨b0, 0, none⟩) l0.length c0) (.slice (some ⟨b1, 0, none⟩) l1.length c1) (.slice (some ⟨b2, 0, none⟩) l2.length c2) (.slice (some ⟨b3, 0, none⟩) l3.length c3) 28
  have L : Below w.heap.size w (w.alloc (.cells #[.slice (some ⟨b0, 0, none⟩) l0.length c0, .slice (some ⟨b1, 0, none⟩) l1.length c1, .slice (some ⟨b2, 0, none⟩) l2.length c2, .slice (some ⟨b3, 0, none⟩) l3.length c3] 28)) := (Below.refl _ _).alloc (Nat.le_refl _) _
  go_enter Try.func51, Try.ntmps51
  go_wp2_with fail
  refine (iAsnOk_any _ _ _ _ _ _ _ _ _ _ _ _ _ n0 n1 n2 n3 (by exact (o0.alloc _).row) (by exact (o1.alloc _).row) (by exact (o2.alloc _).row) (by exact (o3.alloc _).row)).mono ?_
  rintro e w1 ⟨rfl, hb⟩
  have B1 := B0.below hb B0.lt; have L1 := L.trans (hb.mono L.size)
  replace o0 := o0.below L1 o0.1; replace o1 := o1.below L1 o1.1; replace o2 := o2.below L1 o2.1; replace o3 := o3.below L1 o3.1
  clear hb B0 L
  have x0 := B1.c0; have x1 := B1.c1; have x2 := B1.c2; have x3 := B1.c3
  cases h : asnB l0 l1 l2 l3
  · have HE : Hid (pairsV l0 l1 l2 l3 k = []) := by show pairsV l0 l1 l2 l3 k = []; unfold pairsV; rw [if_neg (by simp [h])]
    go_wp2
    go_ret
    exact ⟨none, 0, by rw [HE.out]; rfl, by rw [HE.out]; exact ⟨rfl, .inl rfl⟩, L1⟩
  go_wp2_with fail
  refine (kindOk_any _ _).mono ?_
  rintro e w2 ⟨rfl, rfl⟩
  cases hk : kok k
  · have HE : Hid (pairsV l0 l1 l2 l3 k = []) := by show pairsV l0 l1 l2 l3 k = []; unfold pairsV; rw [if_neg (by simp [kok] at hk; omega)]
    go_wp2
    go_ret
    exact ⟨none, 0, by rw [HE.out]; rfl, by rw [HE.out]; exact ⟨rfl, .inl rfl⟩, L1⟩
  obtain ⟨k0, k3⟩ : 0 ≤ k ∧ k < 4 := by simpa [kok] using hk
  have HE : Hid (pairsV l0 l1 l2 l3 k = kindL l0 l1 l2 l3 k) := by show pairsV l0 l1 l2 l3 k = _; unfold pairsV; rw [if_pos ⟨h, by omega, by omega⟩]
  clear h
  have hx : ∀ w : World, ∃ c, (Instr.index 88 (.agg #[.slice (some ⟨b0, 0, none⟩) l0.length c0, .slice (some ⟨b1, 0, none⟩) l1.length c1, .slice (some ⟨b2, 0, none⟩) l2.length c2, .slice (some ⟨b3, 0, none⟩) l3.length c3]) (.int .i64 k)).run Try.prog w = .ok (.slice (some ⟨kindB b0 b1 b2 b3 k, 0, none⟩) (kindL l0 l1 l2 l3 k).length c) w := by
    obtain ⟨k, rfl⟩ := Int.eq_ofNat_of_zero_le k0
    obtain rfl | rfl | rfl | rfl : k = 0 ∨ k = 1 ∨ k = 2 ∨ k = 3 := by omega
    · exact fun w => ⟨c0, idx0 _ _ _ _ _ _ _ _ _ _ _ _ w⟩
    · exact fun w => ⟨c1, idx1 _ _ _ _ _ _ _ _ _ _ _ _ w⟩
    · exact fun w => ⟨c2, idx2 _ _ _ _ _ _ _ _ _ _ _ _ w⟩
    · exact fun w => ⟨c3, idx3 _ _ _ _ _ _ _ _ _ _ _ _ w⟩
  have HX := (show Hid (∀ w : World, ∃ c, (Instr.index 88 (.agg #[.slice (some ⟨b0, 0, none⟩) l0.length c0, .slice (some ⟨b1, 0, none⟩) l1.length c1, .slice (some ⟨b2, 0, none⟩) l2.length c2, .slice (some ⟨b3, 0, none⟩) l3.length c3]) (.int .i64 k)).run Try.prog w = .ok (.slice (some ⟨kindB b0 b1 b2 b3 k, 0, none⟩) (kindL l0 l1 l2 l3 k).length c) w) from hx)
  clear hx
  go_wp2_with fail
  refine (listsOf_any _ _ _ _ _ ⟨_, _, _, rfl⟩ ⟨_, _, _, rfl⟩ ⟨_, _, _, rfl⟩ ⟨_, _, _, rfl⟩).mono ?_
  rintro e w3 ⟨rfl, hb⟩
  have ho := (kind_own o0 o1 o2 o3 k).below hb (kind_own o0 o1 o2 o3 k).1
  have hn := kind_le n0 n1 n2 n3 k
  have L3 := L1.trans (hb.mono L1.size)
  clear hb L1 B1 o0 o1 o2 o3 x0 x1 x2 x3 n0 n1 n2 n3
  obtain ⟨cs, hx⟩ : ∃ cs, (Instr.index 88 (.agg #[.slice (some ⟨b0, 0, none⟩) l0.length c0, .slice (some ⟨b1, 0, none⟩) l1.length c1, .slice (some ⟨b2, 0, none⟩) l2.length c2, .slice (some ⟨b3, 0, none⟩) l3.length c3]) (.int .i64 k)).run Try.prog w3 = .ok (.slice (some ⟨kindB b0 b1 b2 b3 k, 0, none⟩) (kindL l0 l1 l2 l3 k).length cs) w3 := HX.out w3
  clear HX
  generalize kindB b0 b1 b2 b3 k = b at *
  generalize kindL l0 l1 l2 l3 k = l at *
  go_wp2_with fail
  refine (copyOf_any _ _ _ _ hn ho).mono ?_
  rintro e w4 ⟨a, c, rfl, hr, hb⟩
  have L4 := L3.trans (hb.mono L3.size)
  go_wp2
  go_ret
  exact ⟨a, c, by rw [HE.out]; rfl, by rw [HE.out]; exact hr.mono L3.size (Nat.le_refl _), L4⟩

theorem val_le (l0 l1 l2 l3 : List (Int × Int)) (k : Int) (n0 : l0.length ≤ 1048576) (n1 : l1.length ≤ 1048576) (n2 : l2.length ≤ 1048576) (n3 : l3.length ≤ 1048576) : (pairsV l0 l1 l2 l3 k).length ≤ 1048576 := by
  unfold pairsV
  split
  · exact kind_le n0 n1 n2 n3 k
  · exact Nat.zero_le _

end Go.Proofs.Ytphchdjbhbmnbaa
namespace Go.Proofs.Ytphchdjbhbmnbaa
open Go.RowKit

/-- Block b holds the four values V 0 .. V 3. -/
def VRow (w : World) (b : Nat) (V : Nat → Value) : Prop := b < w.heap.size ∧ ∀ j, j < 4 → w.cell? ⟨b, j, none⟩ = some (V j) ∧ w.frozen? ⟨b, j, none⟩ = false

theorem VRow.below {B : Nat} {w w' : World} {b : Nat} {V : Nat → Value} (h : VRow w b V) (hb : Below B w w') (hB : b < B) : VRow w' b V :=
  ⟨Nat.lt_of_lt_of_le h.1 hb.size, fun j hj => by rw [hb.cell (p := ⟨b, j, none⟩) hB, hb.frozen (p := ⟨b, j, none⟩) hB]; exact h.2 j hj⟩

theorem VRow.grown {w w' : World} {b : Nat} {V : Nat → Value} {row : Option Nat} (h : VRow w b V) (hg : w.grownBy w' row) (hr : some b ≠ row) : VRow w' b V :=
  ⟨Nat.lt_of_lt_of_le h.1 hg.size, fun j hj => by rw [hg.cell_far ⟨b, j, none⟩ h.1 hr, hg.frozen_far ⟨b, j, none⟩ h.1 hr]; exact h.2 j hj⟩

theorem VRow.put {w : World} {b : Nat} {V : Nat → Value} (h : VRow w b V) (i : Nat) (v : Value) : VRow (w.setCell ⟨b, i, none⟩ v) b (fun j => if j = i then v else V j) := by
  refine ⟨by simpa using h.1, fun j hj => ⟨?_, by simpa using (h.2 j hj).2⟩⟩
  rw [cell_set (h.2 j hj).1]
  by_cases e : i = j
  · simp [e]
  · simp [e, show ¬ j = i from fun x => e x.symm]

theorem VRow.congr {w : World} {b : Nat} {V U : Nat → Value} (h : VRow w b V) (e : ∀ j, j < 4 → V j = U j) : VRow w b U := ⟨h.1, fun j hj => by rw [← e j hj]; exact h.2 j hj⟩

theorem VRow.new (w : World) (v0 v1 v2 v3 : Value) (t : TypeId) (V : Nat → Value) (e0 : V 0 = v0) (e1 : V 1 = v1) (e2 : V 2 = v2) (e3 : V 3 = v3) : VRow (w.alloc (.cells #[v0, v1, v2, v3] t)) w.heap.size V := by
  refine ⟨by simp, fun j hj => ⟨?_, by simp⟩⟩
  rw [World.cell?_alloc_new]
  match j, hj with
  | 0, _ => rw [e0]; rfl
  | 1, _ => rw [e1]; rfl
  | 2, _ => rw [e2]; rfl
  | 3, _ => rw [e3]; rfl

theorem Out.grown {lo hi : Nat} {a w w' : World} {row : Option Nat} (h : Out lo hi a w) (hg : w.grownBy w' row) (hr : ∀ k, row = some k → a.heap.size ≤ k) : Out lo hi a w' :=
  ⟨hg.os.trans h.os, hg.tape.trans h.tape, hg.output.trans h.output, Nat.le_trans h.size hg.size, fun k hk hk' => (hg.block k (Nat.lt_of_lt_of_le hk h.size) (fun e => by have := hr k e.symm; omega)).trans (h.block k hk hk')⟩

set_option maxHeartbeats 400000 in
theorem vreplaced_any (x t b : Int) (w : World) : Calls Try.prog 136 #[.int .i64 x, .int .i64 t, .int .i64 b] w fun e w' => e = .returned (.int .i64 (sw t b x)) ∧ w' = w := by
  cases h : (x == t)
  · go_enter Try.func136, Try.ntmps136
    go_wp2
    go_ret
    exact ⟨ret_int (by simp at h; simp [sw, h]), rfl⟩
  · go_enter Try.func136, Try.ntmps136
    go_wp2
    go_ret
    exact ⟨ret_int (by simp at h; simp [sw, h]), rfl⟩

set_option maxHeartbeats 400000 in
theorem asnOf_any (a0 a1 a2 a3 : Option Addr) (n0 n1 n2 n3 c0 c1 c2 c3 : Nat) (w : World) :
    Calls Try.prog 137 #[.agg #[.slice a0 n0 c0, .slice a1 n1 c1, .slice a2 n2 c2, .slice a3 n3 c3]] w fun e w' => e = .returned (.agg #[.slice a0 n0 c0, .slice a1 n1 c1, .slice a2 n2 c2, .slice a3 n3 c3]) ∧ Below w.heap.size w w' := by
  go_enter Try.func137, Try.ntmps137
  go_wp2
  exact bodyPost_ret (v := .agg #[.slice a0 n0 c0, .slice a1 n1 c1, .slice a2 n2 c2, .slice a3 n3 c3]) (by simp [results, Try.results137, go_sem]) rfl ⟨rfl, ((Below.refl _ _).alloc (Nat.le_refl _) _).alloc (by simp) _⟩

theorem idxK (b0 b1 b2 b3 : Nat) (c0 c1 c2 c3 : Nat) (l0 l1 l2 l3 : List (Int × Int)) (k : Nat) (hk : k < 4) (w : World) : (Instr.index 88 (.agg #[.slice (some ⟨b0, 0, none⟩) l0.length c0, .slice (some ⟨b1, 0, none⟩) l1.length c1, .slice (some ⟨b2, 0, none⟩) l2.length c2, .slice (some ⟨b3, 0, none⟩) l3.length c3]) (.int .i64 k)).run Try.prog w = .ok (.slice (some ⟨kindB b0 b1 b2 b3 k, 0, none⟩) (kindL l0 l1 l2 l3 k).length (kindB c0 c1 c2 c3 k)) w := by
  match k, hk with
  | 0, _ => exact idx0 _ _ _ _ _ _ _ _ _ _ _ _ w
  | 1, _ => exact idx1 _ _ _ _ _ _ _ _ _ _ _ _ w
  | 2, _ => exact idx2 _ _ _ _ _ _ _ _ _ _ _ _ w
  | 3, _ => exact idx3 _ _ _ _ _ _ _ _ _ _ _ _ w

theorem kindB_lt {b0 b1 b2 b3 X : Nat} (h0 : b0 < X) (h1 : b1 < X) (h2 : b2 < X) (h3 : b3 < X) (k : Int) : kindB b0 b1 b2 b3 k < X := by
  unfold kindB
  split
  · exact h0
  · split
    · exact h1
    · split
      · exact h2
      · exact h3

theorem news2 (w : World) (o : Obj) (x y : Int) (t : TypeId) : ∀ j u, (pc [(x, y)])[j]? = some u → (((w.alloc o).alloc (.cells #[.int .i64 x, .int .i64 y] t)).drew).cell? ((⟨w.heap.size + 1, 0, none⟩ : Addr).add j) = some u := by
  intro j u hj
  match j, hj with
  | 0, hj => simp [pc] at hj; subst hj; simp [addr_add]
  | 1, hj => simp [pc] at hj; subst hj; simp [addr_add]
  | j + 2, hj => simp [pc] at hj

end Go.Proofs.Ytphchdjbhbmnbaa
namespace Go.Proofs.Ytphchdjbhbmnbaa
open Go.RowKit

theorem PRow.news {w : World} {a : Addr} {l : List (Int × Int)} (h : PRow w (some a) l) : ∀ j u, (pc l)[j]? = some u → w.cell? (a.add j) = some u := by
  rcases h with rfl | ⟨b, off, e, hlt, hc⟩
  · intro j u hu; simp [pc] at hu
  · injection e with e; subst e
    intro j u hu
    rw [addr_add]
    obtain ⟨i, hi, ⟨rfl, rfl⟩ | ⟨rfl, rfl⟩⟩ := pc_inv hu
    · exact (hc i hi).1
    · exact (hc i hi).2

theorem PRow.empty {w : World} {l : List (Int × Int)} (h : PRow w none l) : l = [] := by
  rcases h with h | ⟨b, off, e, _⟩
  · exact h
  · cases e

theorem RowIn.ofOwns0 {w : World} {base n : Nat} {v : Value} {l : List (Int × Int)} (h : w.ownsRow base 69 2 v n (pc l)) : ∃ a cap, v = .slice a n cap ∧ RowIn w base w.heap.size a n l ∧ (a = none → cap = 0) := by
  rcases h.2 with ⟨rfl, rfl⟩ | ⟨g, cap, cur, rfl, _⟩
  · exact ⟨none, 0, rfl, ⟨by have := h.1; rw [pc_length] at this; omega, .inl rfl⟩, fun _ => rfl⟩
  · obtain ⟨hl, hb, ho⟩ := Own.ofOwns h
    exact ⟨_, _, rfl, RowIn.ofOwn ho hl hb ho.1, fun e => by cases e⟩

theorem wpList_append_src {ops : Array Oper} {rest : List Oper} {o : Oper} {a : Act} {w : World} {Q : Exit → Act → World → Prop} (hgd : o.guard = none) (s x : Operand)
    (ho : o.op = Op.call { callee := Callee.builtin Builtin.append, args := #[s, x], argTypes := #[26, 26] })
    (base : Nat) (v : Value) (n : Nat) (l : List (Int × Int)) (hs : a.eval s = v) (hown : w.ownsRow base 69 2 v n (pc l))
    (a2 : Option Addr) (m c2 : Nat) (k : List (Int × Int)) (hk : k.length = m) (hx : a.eval x = .slice a2 m c2) (hr : PRow w a2 k) (hc : a2 = none → c2 = 0)
    (hn : n + m ≤ 4194304) (hbase : base ≤ w.heap.size)
    (h : ∀ v' w', w'.ownsRow base 69 2 v' (n + m) (pc (l ++ k)) → w.grownBy w' v.ownBlock → wpList Try.prog ops Q rest (a.put o.dst v') w') : wpList Try.prog ops Q (o :: rest) a w := by
  obtain ⟨i0, hi, hz0, hz1, hz2⟩ := Try.i57
  subst hk
  cases a2 with
  | none =>
    obtain rfl := hr.empty
    rw [hc rfl] at hx
    refine wpList_append_own_none hgd s x 26 ho base 69 i0 2 Try.underlying26 hi v n (pc l) hs hown hx ?_
    refine h v w ?_ ⟨rfl, rfl, rfl, Nat.le_refl _, fun _ _ _ => rfl⟩
    simpa using hown
  | some p =>
    refine wpList_append_own w hgd s x 26 ho base 69 i0 (.agg #[.int .i64 0, .int .i64 0]) 2 16 Try.underlying26 hi hz0 hz1 hz2 rfl (by decide) v n (pc l) hs hown p k.length c2 (pc k) hx (pc_length k) hr.news pc_one (by unfold maxLen; omega) (by omega) hbase ?_
    intro v' w' h1 h2 _
    rw [← pc_append] at h1
    exact h v' w' h1 h2

set_option maxHeartbeats 1000000 in
theorem behind_any (a1 a2 : Option Addr) (n1 n2 c1 c2 : Nat) (l k : List (Int × Int)) (w : World) (e1 : l.length = n1) (e2 : k.length = n2) (hn : n1 + n2 ≤ 4194304) (r1 : PRow w a1 l) (r2 : PRow w a2 k) (z1 : a1 = none → c1 = 0) (z2 : a2 = none → c2 = 0) :
    Calls Try.prog 139 #[.slice a1 n1 c1, .slice a2 n2 c2] w fun e w' => ∃ a c, e = .returned (.slice a (n1 + n2) c) ∧ RowIn w' w.heap.size w'.heap.size a (n1 + n2) (l ++ k) ∧ (a = none → c = 0) ∧ Below w.heap.size w w' := by
  have hnil := World.ownsRow_nil w w.heap.size 69 2
  go_enter Try.func139, Try.ntmps139
  go_wp2_with (at_builtin; refine wpList_append_src rfl _ _ rfl w.heap.size _ 0 [] rfl hnil a1 n1 c1 l e1 rfl r1 z1 (by omega) (Nat.le_refl _) ?_)
  intro v1 w1 h1 g1
  have hb := (Below.refl w.heap.size w).grown g1 (Nat.le_refl _) (by intro k hk; simp [Value.ownBlock] at hk)
  try rw [Nat.zero_add] at h1
  try rw [List.nil_append] at h1
  replace r2 := r2.below hb (Nat.le_refl _)
  clear g1 hnil r1
  go_wp2_with (at_builtin; refine wpList_append_src rfl _ _ rfl w.heap.size v1 n1 l rfl h1 a2 n2 c2 k e2 rfl r2 z2 (by omega) hb.size ?_)
  intro v2 w2 h2 g2
  have hb2 := hb.grown g2 hb.size (by intro q hq; exact (h1.lt q hq).1)
  obtain ⟨a, c, rfl, hr, hz⟩ := RowIn.ofOwns0 h2
  clear g2 h1 h2 hb
  go_wp2
  go_ret
  exact ⟨a, c, rfl, hr, hz, hb2⟩

set_option maxHeartbeats 400000 in
theorem copy_any (a1 : Option Addr) (n1 c1 : Nat) (l : List (Int × Int)) (w : World) (e1 : l.length = n1) (hn : n1 ≤ 4194304) (r1 : PRow w a1 l) (z1 : a1 = none → c1 = 0) :
    Calls Try.prog 144 #[.slice a1 n1 c1] w fun e w' => ∃ a c, e = .returned (.slice a n1 c) ∧ RowIn w' w.heap.size w'.heap.size a n1 l ∧ (a = none → c = 0) ∧ Below w.heap.size w w' := by
  go_enter Try.func144, Try.ntmps144
  go_wp2_with fail
  refine (behind_any none a1 0 n1 0 c1 [] l w rfl e1 (by omega) (.inl rfl) r1 (fun _ => rfl) z1).mono ?_
  rintro e w1 ⟨a, c, rfl, hr, hz, hb⟩
  try rw [Nat.zero_add] at hr
  try rw [List.nil_append] at hr
  try rw [Nat.zero_add]
  go_wp2
  go_ret
  exact ⟨a, c, rfl, hr, hz, hb⟩

end Go.Proofs.Ytphchdjbhbmnbaa
namespace Go.Proofs.Ytphchdjbhbmnbaa
open Go.RowKit

set_option maxHeartbeats 1000000 in
theorem markAsn_gen (lo hi s0 t0 s1 t1 s2 t2 s3 t3 : Nat) (a0 a1 a2 a3 : Option Addr) (n0 n1 n2 n3 c0 c1 c2 c3 : Nat) (l0 l1 l2 l3 : List (Int × Int)) (k : Int) (w : World)
    (hk0 : 0 ≤ k) (hk : k ≤ 33554432) (m0 : n0 ≤ 2097152) (m1 : n1 ≤ 2097152) (m2 : n2 ≤ 2097152) (m3 : n3 ≤ 2097152) (p0 : lo ≤ s0) (p1 : lo ≤ s1) (p2 : lo ≤ s2) (p3 : lo ≤ s3) (q0 : t0 ≤ hi) (q1 : t1 ≤ hi) (q2 : t2 ≤ hi) (q3 : t3 ≤ hi) (d01 : t0 ≤ s1 ∨ t1 ≤ s0) (d02 : t0 ≤ s2 ∨ t2 ≤ s0) (d03 : t0 ≤ s3 ∨ t3 ≤ s0) (d12 : t1 ≤ s2 ∨ t2 ≤ s1) (d13 : t1 ≤ s3 ∨ t3 ≤ s1) (d23 : t2 ≤ s3 ∨ t3 ≤ s2) (hs : hi ≤ w.heap.size)
    (r0 : RowIn w s0 t0 a0 n0 l0) (r1 : RowIn w s1 t1 a1 n1 l1) (r2 : RowIn w s2 t2 a2 n2 l2) (r3 : RowIn w s3 t3 a3 n3 l3) :
    Calls Try.prog 44 #[.agg #[.slice a0 n0 c0, .slice a1 n1 c1, .slice a2 n2 c2, .slice a3 n3 c3], .int .i64 k] w fun e w' => e = .returned (.int .i64 (k + 2 * n0 + 2 * n1 + 2 * n2 + 2 * n3)) ∧
      RowIn w' s0 t0 a0 n0 (marks (k) n0) ∧ RowIn w' s1 t1 a1 n1 (marks (k + 2 * n0) n1) ∧ RowIn w' s2 t2 a2 n2 (marks (k + 2 * n0 + 2 * n1) n2) ∧ RowIn w' s3 t3 a3 n3 (marks (k + 2 * n0 + 2 * n1 + 2 * n2) n3) ∧ Out lo hi w w' := by
  have B0 := Box.new w (.slice a0 n0 c0) (.slice a1 n1 c1) (.slice a2 n2 c2) (.slice a3 n3 c3) 28
  have L : Below w.heap.size w (w.alloc (.cells #[.slice a0 n0 c0, .slice a1 n1 c1, .slice a2 n2 c2, .slice a3 n3 c3] 28)) := (Below.refl _ _).alloc (Nat.le_refl _) _
  have O0 : Out lo hi w (w.alloc (.cells #[.slice a0 n0 c0, .slice a1 n1 c1, .slice a2 n2 c2, .slice a3 n3 c3] 28)) := Out.ofBelow L
  replace r0 := r0.below L (by omega); replace r1 := r1.below L (by omega); replace r2 := r2.below L (by omega); replace r3 := r3.below L (by omega)
  clear L
  go_enter Try.func44, Try.ntmps44
  go_wp2_with fail
  refine (markPairS_any s0 t0 _ _ _ _ _ _ (by omega) (by omega) (by omega) (by exact r0)).mono ?_
  rintro e w1 ⟨rfl, u0, ho⟩
  have B1 := B0.out ho (by omega)
  have O1 := O0.trans (ho.mono (by omega) (by omega))
  replace r1 := r1.out ho (by omega)
  replace r2 := r2.out ho (by omega)
  replace r3 := r3.out ho (by omega)
  clear ho B0 O0 r0
  have x := B1.c1
  go_wp2_with fail
  clear x
  refine (markPairS_any s1 t1 _ _ _ _ _ _ (by omega) (by omega) (by omega) (by exact r1)).mono ?_
  rintro e w2 ⟨rfl, u1, ho⟩
  have B2 := B1.out ho (by omega)
  have O2 := O1.trans (ho.mono (by omega) (by omega))
  replace u0 := u0.out ho (by omega)
  replace r2 := r2.out ho (by omega)
  replace r3 := r3.out ho (by omega)
  clear ho B1 O1 r1
  have x := B2.c2
  go_wp2_with fail
  clear x
  refine (markPairS_any s2 t2 _ _ _ _ _ _ (by omega) (by omega) (by omega) (by exact r2)).mono ?_
  rintro e w3 ⟨rfl, u2, ho⟩
  have B3 := B2.out ho (by omega)
  have O3 := O2.trans (ho.mono (by omega) (by omega))
  replace u0 := u0.out ho (by omega)
  replace u1 := u1.out ho (by omega)
  replace r3 := r3.out ho (by omega)
  clear ho B2 O2 r2
  have x := B3.c3
  go_wp2_with fail
  clear x
  refine (markPairS_any s3 t3 _ _ _ _ _ _ (by omega) (by omega) (by omega) (by exact r3)).mono ?_
  rintro e w4 ⟨rfl, u3, ho⟩
  have B4 := B3.out ho (by omega)
  have O4 := O3.trans (ho.mono (by omega) (by omega))
  replace u0 := u0.out ho (by omega)
  replace u1 := u1.out ho (by omega)
  replace u2 := u2.out ho (by omega)
  clear ho B3 O3 r3
  go_wp2
  go_ret
  exact ⟨rfl, u0, u1, u2, u3, O4⟩

set_option maxHeartbeats 1000000 in
theorem heldAsn_gen (s0 t0 s1 t1 s2 t2 s3 t3 : Nat) (a0 a1 a2 a3 : Option Addr) (n0 n1 n2 n3 c0 c1 c2 c3 : Nat) (k : Int) (w : World)
    (hk0 : 0 ≤ k) (hk : k ≤ 33554432) (m0 : n0 ≤ 2097152) (m1 : n1 ≤ 2097152) (m2 : n2 ≤ 2097152) (m3 : n3 ≤ 2097152) (q0 : t0 ≤ w.heap.size) (q1 : t1 ≤ w.heap.size) (q2 : t2 ≤ w.heap.size) (q3 : t3 ≤ w.heap.size)
    (r0 : RowIn w s0 t0 a0 n0 (marks (k) n0)) (r1 : RowIn w s1 t1 a1 n1 (marks (k + 2 * n0) n1)) (r2 : RowIn w s2 t2 a2 n2 (marks (k + 2 * n0 + 2 * n1) n2)) (r3 : RowIn w s3 t3 a3 n3 (marks (k + 2 * n0 + 2 * n1 + 2 * n2) n3)) :
    Calls Try.prog 45 #[.agg #[.slice a0 n0 c0, .slice a1 n1 c1, .slice a2 n2 c2, .slice a3 n3 c3], .int .i64 k] w fun e w' => e = .returned (.int .i64 (k + 2 * n0 + 2 * n1 + 2 * n2 + 2 * n3)) ∧ Below w.heap.size w w' := by
  have L : Below w.heap.size w (w.alloc (.cells #[.slice a0 n0 c0, .slice a1 n1 c1, .slice a2 n2 c2, .slice a3 n3 c3] 28)) := (Below.refl _ _).alloc (Nat.le_refl _) _
  replace r0 := r0.below L (by omega); replace r1 := r1.below L (by omega); replace r2 := r2.below L (by omega); replace r3 := r3.below L (by omega)
  go_enter Try.func45, Try.ntmps45
  go_wp2_with fail
  refine (heldPairS_any s0 t0 _ _ _ _ _ (by omega) (by omega) (by omega) (by exact r0)).mono ?_
  rintro e w1 ⟨rfl, rfl⟩
  go_wp2_with fail
  refine (heldPairS_any s1 t1 _ _ _ _ _ (by omega) (by omega) (by omega) (by exact r1)).mono ?_
  rintro e w1 ⟨rfl, rfl⟩
  go_wp2_with fail
  refine (heldPairS_any s2 t2 _ _ _ _ _ (by omega) (by omega) (by omega) (by exact r2)).mono ?_
  rintro e w1 ⟨rfl, rfl⟩
  go_wp2_with fail
  refine (heldPairS_any s3 t3 _ _ _ _ _ (by omega) (by omega) (by omega) (by exact r3)).mono ?_
  rintro e w1 ⟨rfl, rfl⟩
  go_wp2
  go_ret
  exact ⟨rfl, L⟩

end Go.Proofs.Ytphchdjbhbmnbaa
