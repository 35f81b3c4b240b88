/-
  The contract of spec.Subst.
-/
import Derived.Test.YtfplloabkceaoaaSubst
import Derived.Test.YtfplloabkceaoaaOkI
import Derived.Outline
namespace Go.Proofs.Ytfplloabkceaoaa
open Go.RowKit

def substB (l0 l1 l2 l3 : List (Int × Int)) (t b : Int) : Bool := asnB l0 l1 l2 l3 && tok t && tok b && !(t == 0)
/-- A list where it is so, else nothing. -/
def okL (ok : Bool) (l : List (Int × Int)) : List (Int × Int) := if ok = true then l else []

set_option maxHeartbeats 2000000 in
theorem sSubst_any (b0 b1 b2 b3 : Nat) (c0 c1 c2 c3 : Nat) (l0 l1 l2 l3 : List (Int × Int)) (t by' : Int) (w : World)
    (n0 : l0.length ≤ 1048576) (n1 : l1.length ≤ 1048576) (n2 : l2.length ≤ 1048576) (n3 : l3.length ≤ 1048576)
    (o0 : Own w b0 l0.length l0 l0.length) (o1 : Own w b1 l1.length l1 l1.length) (o2 : Own w b2 l2.length l2 l2.length) (o3 : Own w b3 l3.length l3 l3.length) :
    Calls Try.prog 40 #[.agg #[.slice (some ⟨b0, 0, none⟩) l0.length c0, .slice (some ⟨b1, 0, none⟩) l1.length c1, .slice (some ⟨b2, 0, none⟩) l2.length c2, .slice (some ⟨b3, 0, none⟩) l3.length c3], .int .i64 t, .int .i64 by'] w fun e w' => ∃ p0 p1 p2 p3 q0 q1 q2 q3, e = .returned (.tuple #[.agg #[.slice p0 (okL (substB l0 l1 l2 l3 t by') (swapL t by' l0)).length q0, .slice p1 (okL (substB l0 l1 l2 l3 t by') (swapL t by' l1)).length q1, .slice p2 (okL (substB l0 l1 l2 l3 t by') (swapL t by' l2)).length q2, .slice p3 (okL (substB l0 l1 l2 l3 t by') (swapL t by' l3)).length q3], .bool (substB l0 l1 l2 l3 t by')]) ∧ RowIn w' w.heap.size w'.heap.size p0 (okL (substB l0 l1 l2 l3 t by') (swapL t by' l0)).length (okL (substB l0 l1 l2 l3 t by') (swapL t by' l0)) ∧ RowIn w' w.heap.size w'.heap.size p1 (okL (substB l0 l1 l2 l3 t by') (swapL t by' l1)).length (okL (substB l0 l1 l2 l3 t by') (swapL t by' l1)) ∧ RowIn w' w.heap.size w'.heap.size p2 (okL (substB l0 l1 l2 l3 t by') (swapL t by' l2)).length (okL (substB l0 l1 l2 l3 t by') (swapL t by' l2)) ∧ RowIn w' w.heap.size w'.heap.size p3 (okL (substB l0 l1 l2 l3 t by') (swapL t by' l3)).length (okL (substB l0 l1 l2 l3 t by') (swapL t by' l3)) ∧ Below w.heap.size w w' := by
  have B0 := (Box.new w (.slice (some ⟨b0, 0, none⟩) l0.length c0) (.slice (some ⟨b1, 0, none⟩) l1.length c1) (.slice (some ⟨b2, 0, none⟩) l2.length c2) (.slice (some ⟨b3, 0, none⟩) l3.length c3) 28).alloc (.cells #[.slice none 0 0, .slice none 0 0, .slice none 0 0, .slice none 0 0] 28)
  have R0 := Box.new (w.alloc (.cells #[.slice (some ⟨b0, 0, none⟩) l0.length c0, .slice (some ⟨b1, 0, none⟩) l1.length c1, .slice (some ⟨b2, 0, none⟩) l2.length c2, .slice (some ⟨b3, 0, none⟩) l3.length c3] 28)) (.slice none 0 0) (.slice none 0 0) (.slice none 0 0) (.slice none 0 0) 28
  have L : Below w.heap.size w ((w.alloc (.cells #[.slice (some ⟨b0, 0, none⟩) l0.length c0, .slice (some ⟨b1, 0, none⟩) l1.length c1, .slice (some ⟨b2, 0, none⟩) l2.length c2, .slice (some ⟨b3, 0, none⟩) l3.length c3] 28)).alloc (.cells #[.slice none 0 0, .slice none 0 0, .slice none 0 0, .slice none 0 0] 28)) := ((Below.refl _ _).alloc (Nat.le_refl _) _).alloc (by simp) _
  rw [World.size_alloc] at R0
  go_enter Try.func40, Try.ntmps40
  go_wp2_with fail
  refine (sAsnOk_any _ _ _ _ _ _ _ _ _ _ _ _ _ n0 n1 n2 n3 (by exact (o0.below L o0.1).row) (by exact (o1.below L o1.1).row) (by exact (o2.below L o2.1).row) (by exact (o3.below L o3.1).row)).mono ?_
  rintro e w1 ⟨rfl, hb⟩
  have B1 := B0.below hb B0.lt; have R1 := R0.below hb R0.lt; have L1 := L.trans (hb.mono L.size)
  replace o0 := o0.below L1 o0.1; replace o1 := o1.below L1 o1.1; replace o2 := o2.below L1 o2.1; replace o3 := o3.below L1 o3.1
  clear hb B0 R0 L
  have x0 := B1.c0; have x1 := B1.c1; have x2 := B1.c2; have x3 := B1.c3
  have j0 := R1.c0; have j1 := R1.c1; have j2 := R1.c2; have j3 := R1.c3
  have g0 := R1.f0; have g1 := R1.f1; have g2 := R1.f2; have g3 := R1.f3
  cases h : asnB l0 l1 l2 l3
  · clear x0 x1 x2 x3
    have HE : Hid (substB l0 l1 l2 l3 t by' = false) := by show substB l0 l1 l2 l3 t by' = false; unfold substB; rw [h]; rfl
    obtain ⟨F, FO⟩ := R1.fill (.slice none 0 0) (.slice none 0 0) (.slice none 0 0) (.slice none 0 0)
    have i0 := F.c0; have i1 := F.c1; have i2 := F.c2; have i3 := F.c3
    go_wp2
    refine bodyPost_ret (v := .tuple #[.agg #[.slice none 0 0, .slice none 0 0, .slice none 0 0, .slice none 0 0], .bool false]) ?_ rfl ⟨none, none, none, none, 0, 0, 0, 0, by rw [HE.out]; rfl, ?_, ?_, ?_, ?_, ?_⟩
    · simp [results, Try.results40, go_sem, i0, i1, i2, i3]
    · rw [HE.out]; exact ⟨rfl, .inl rfl⟩
    · rw [HE.out]; exact ⟨rfl, .inl rfl⟩
    · rw [HE.out]; exact ⟨rfl, .inl rfl⟩
    · rw [HE.out]; exact ⟨rfl, .inl rfl⟩
    · exact L1.trans (FO.below (by omega) L1.size)
  go_wp2_with fail
  refine (sTermOk_any _ _).mono ?_
  rintro e wx ⟨rfl, rfl⟩
  cases ht : tok t
  · clear x0 x1 x2 x3
    have HE : Hid (substB l0 l1 l2 l3 t by' = false) := by show substB l0 l1 l2 l3 t by' = false; unfold substB; rw [h, ht]; rfl
    obtain ⟨F, FO⟩ := R1.fill (.slice none 0 0) (.slice none 0 0) (.slice none 0 0) (.slice none 0 0)
    have i0 := F.c0; have i1 := F.c1; have i2 := F.c2; have i3 := F.c3
    go_wp2
    refine bodyPost_ret (v := .tuple #[.agg #[.slice none 0 0, .slice none 0 0, .slice none 0 0, .slice none 0 0], .bool false]) ?_ rfl ⟨none, none, none, none, 0, 0, 0, 0, by rw [HE.out]; rfl, ?_, ?_, ?_, ?_, ?_⟩
    · simp [results, Try.results40, go_sem, i0, i1, i2, i3]
    · rw [HE.out]; exact ⟨rfl, .inl rfl⟩
    · rw [HE.out]; exact ⟨rfl, .inl rfl⟩
    · rw [HE.out]; exact ⟨rfl, .inl rfl⟩
    · rw [HE.out]; exact ⟨rfl, .inl rfl⟩
    · exact L1.trans (FO.below (by omega) L1.size)
  go_wp2_with fail
  refine (sTermOk_any _ _).mono ?_
  rintro e wx ⟨rfl, rfl⟩
  cases hb : tok by'
  · clear x0 x1 x2 x3
    have HE : Hid (substB l0 l1 l2 l3 t by' = false) := by show substB l0 l1 l2 l3 t by' = false; unfold substB; rw [h, ht, hb]; rfl
    obtain ⟨F, FO⟩ := R1.fill (.slice none 0 0) (.slice none 0 0) (.slice none 0 0) (.slice none 0 0)
    have i0 := F.c0; have i1 := F.c1; have i2 := F.c2; have i3 := F.c3
    go_wp2
    refine bodyPost_ret (v := .tuple #[.agg #[.slice none 0 0, .slice none 0 0, .slice none 0 0, .slice none 0 0], .bool false]) ?_ rfl ⟨none, none, none, none, 0, 0, 0, 0, by rw [HE.out]; rfl, ?_, ?_, ?_, ?_, ?_⟩
    · simp [results, Try.results40, go_sem, i0, i1, i2, i3]
    · rw [HE.out]; exact ⟨rfl, .inl rfl⟩
    · rw [HE.out]; exact ⟨rfl, .inl rfl⟩
    · rw [HE.out]; exact ⟨rfl, .inl rfl⟩
    · rw [HE.out]; exact ⟨rfl, .inl rfl⟩
    · exact L1.trans (FO.below (by omega) L1.size)
  cases hz : (t == 0)
  rotate_left
  · clear x0 x1 x2 x3
    have HE : Hid (substB l0 l1 l2 l3 t by' = false) := by show substB l0 l1 l2 l3 t by' = false; unfold substB; rw [h, ht, hb, hz]; rfl
    obtain ⟨F, FO⟩ := R1.fill (.slice none 0 0) (.slice none 0 0) (.slice none 0 0) (.slice none 0 0)
    have i0 := F.c0; have i1 := F.c1; have i2 := F.c2; have i3 := F.c3
    go_wp2
    refine bodyPost_ret (v := .tuple #[.agg #[.slice none 0 0, .slice none 0 0, .slice none 0 0, .slice none 0 0], .bool false]) ?_ rfl ⟨none, none, none, none, 0, 0, 0, 0, by rw [HE.out]; rfl, ?_, ?_, ?_, ?_, ?_⟩
    · simp [results, Try.results40, go_sem, i0, i1, i2, i3]
    · rw [HE.out]; exact ⟨rfl, .inl rfl⟩
    · rw [HE.out]; exact ⟨rfl, .inl rfl⟩
    · rw [HE.out]; exact ⟨rfl, .inl rfl⟩
    · rw [HE.out]; exact ⟨rfl, .inl rfl⟩
    · exact L1.trans (FO.below (by omega) L1.size)
  have HE : Hid (substB l0 l1 l2 l3 t by' = true) := by show substB l0 l1 l2 l3 t by' = true; unfold substB; rw [h, ht, hb, hz]; rfl
  clear h ht hb
  go_wp2_with fail
  refine (l1subst_any _ _ _ _ _ _ _ _ _ _ _ _ _ _ _ n0 n1 n2 n3 (by exact o0) (by exact o1) (by exact o2) (by exact o3)).mono ?_
  rintro e w2 ⟨p0, p1, p2, p3, q0, q1, q2, q3, rfl, t0, t1, t2, t3, hb⟩
  have R2 := R1.below hb R1.lt
  have L2 := L1.trans (hb.mono L1.size)
  have S1 := R1.lt
  clear hb L1 B1 R1 x0 x1 x2 x3 o0 o1 o2 o3 hz j0 j1 j2 j3 g0 g1 g2 g3
  obtain ⟨F, FO⟩ := R2.fill (.slice p0 l0.length q0) (.slice p1 l1.length q1) (.slice p2 l2.length q2) (.slice p3 l3.length q3)
  have j0 := R2.c0; have j1 := R2.c1; have j2 := R2.c2; have j3 := R2.c3
  have g0 := R2.f0; have g1 := R2.f1; have g2 := R2.f2; have g3 := R2.f3
  go_wp2
  have i0 := F.c0; have i1 := F.c1; have i2 := F.c2; have i3 := F.c3
  have e0 := swapL_length t by' l0; have e1 := swapL_length t by' l1; have e2 := swapL_length t by' l2; have e3 := swapL_length t by' l3
  refine bodyPost_ret (v := .tuple #[.agg #[.slice p0 l0.length q0, .slice p1 l1.length q1, .slice p2 l2.length q2, .slice p3 l3.length q3], .bool true]) ?_ rfl ⟨p0, p1, p2, p3, q0, q1, q2, q3, by rw [HE.out]; simp only [okL, if_pos, e0, e1, e2, e3], ?_, ?_, ?_, ?_, ?_⟩
  · simp [results, Try.results40, go_sem, i0, i1, i2, i3]
  · rw [HE.out]; simp only [okL, if_pos, e0]; exact (t0.out FO (by omega)).mono (by have := L2.size; omega) (by have := FO.size; omega)
  · rw [HE.out]; simp only [okL, if_pos, e1]; exact (t1.out FO (by omega)).mono (by have := L2.size; omega) (by have := FO.size; omega)
  · rw [HE.out]; simp only [okL, if_pos, e2]; exact (t2.out FO (by omega)).mono (by have := L2.size; omega) (by have := FO.size; omega)
  · rw [HE.out]; simp only [okL, if_pos, e3]; exact (t3.out FO (by omega)).mono (by have := L2.size; omega) (by have := FO.size; omega)
  · exact L2.trans (FO.below (by omega) L2.size)

end Go.Proofs.Ytfplloabkceaoaa
