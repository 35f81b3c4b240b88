/-
  The contract of impl.Expose.
-/
import Derived.Test.YtldhbooginlcpaaXs
import Derived.Test.YtldhbooginlcpaaUi
import Derived.Test.YtldhbooginlcpaaOc
import Derived.Test.YtldhbooginlcpaaHa
import Derived.Test.YtldhbooginlcpaaOs
import Derived.Test.YtldhbooginlcpaaCi
namespace Go.Proofs.Ytldhbooginlcpaa
open Go.RowKit
set_option linter.unusedVariables false

theorem headAt_ex (l0 l1 l2 l3 : List (Int × Int)) (t : Int) : headAtA l0 l1 l2 l3 t = if (asnB l0 l1 l2 l3 && tok t) = true then exJ l0 l2 l3 t else -1 := rfl
theorem exJ_lt {l0 l2 l3 : List (Int × Int)} {t : Int} (h : 0 ≤ exJ l0 l2 l3 t) : exJ l0 l2 l3 t < (l2.length : Int) + (l3.length : Int) := by
  obtain ⟨k, e, hk, _⟩ := idx_lt (l := headsV (clsV l0) l2 l3) (v := (clsV l0).getD t.toNat 0) h
  unfold headsV at hk
  rw [List.length_append, headsOf_length, headsOf_length] at hk
  unfold exJ
  rw [e]
  omega
theorem open_one {c : List Int} {l1 l3 : List (Int × Int)} (h : openV c l1 l3 = true) {k : Nat} (hk : k < l3.length) : openV c l1 [l3.getD k (0, 0)] = true := by
  unfold openV at h ⊢
  rw [List.all_eq_true] at h
  simp only [List.all_cons, List.all_nil, Bool.and_true]
  exact h _ (by rw [List.getD_eq_getElem?_getD, List.getElem?_eq_getElem hk]; exact List.getElem_mem hk)

/-- Unfold of an opened one, at the place of a segment: it answers, or not, by whether there is a fresh name, and room. -/
theorem iUnfold_at (a0 a1 a2 a3 : Option Addr) (c0 c1 c2 c3 : Nat) (l0 l1 l2 l3 : List (Int × Int)) (i : Int) (w : World) (n0 : l0.length ≤ 1048576) (n1 : l1.length ≤ 1048576) (n2 : l2.length ≤ 1048576) (n3 : l3.length ≤ 1048576) (r0 : PRow w a0 l0) (r1 : PRow w a1 l1) (r2 : PRow w a2 l2) (r3 : PRow w a3 l3) (z0 : CapZ a0 l0.length c0) (z1 : CapZ a1 l1.length c1) (z2 : CapZ a2 l2.length c2) (z3 : CapZ a3 l3.length c3) (hu : unfB l0 l1 l2 l3 i = true) (U2 U3 : List (Int × Int)) (e2 : unfC l2 (l3.getD i.toNat (0, 0)) (freshF (usedV l0 l1 l2 l3)) = U2) (e3 : unfS l3 i.toNat (l3.getD i.toNat (0, 0)) (freshF (usedV l0 l1 l2 l3)) = U3) :
    Calls Try.prog 84 #[.agg #[.slice a0 l0.length c0, .slice a1 l1.length c1, .slice a2 l2.length c2, .slice a3 l3.length c3], .int .i64 i] w fun e w' => ∃ p0 p1 p2 p3 q0 q1 q2 q3, e = .returned (.tuple #[.agg #[.slice p0 l0.length q0, .slice p1 l1.length q1, .slice p2 U2.length q2, .slice p3 U3.length q3], .bool true]) ∧ Four w' w.heap.size w'.heap.size p0 p1 p2 p3 l0.length l1.length U2.length U3.length l0 l1 U2 U3 ∧ Below w.heap.size w w' := by
  refine (iUnfold_any a0 a1 a2 a3 c0 c1 c2 c3 l0 l1 l2 l3 i w n0 n1 n2 n3 r0 r1 r2 r3 z0 z1 z2 z3).mono ?_
  rintro e w' ⟨p0, p1, p2, p3, q0, q1, q2, q3, rfl, T, hb⟩
  rw [hu, e2, e3] at T ⊢
  simp only [okL, if_true] at T ⊢
  exact ⟨p0, p1, p2, p3, q0, q1, q2, q3, rfl, T, hb⟩
theorem iUnfold_out (a0 a1 a2 a3 : Option Addr) (c0 c1 c2 c3 : Nat) (l0 l1 l2 l3 : List (Int × Int)) (i : Int) (w : World) (n0 : l0.length ≤ 1048576) (n1 : l1.length ≤ 1048576) (n2 : l2.length ≤ 1048576) (n3 : l3.length ≤ 1048576) (r0 : PRow w a0 l0) (r1 : PRow w a1 l1) (r2 : PRow w a2 l2) (r3 : PRow w a3 l3) (z0 : CapZ a0 l0.length c0) (z1 : CapZ a1 l1.length c1) (z2 : CapZ a2 l2.length c2) (z3 : CapZ a3 l3.length c3) (hu : unfB l0 l1 l2 l3 i = false) :
    Calls Try.prog 84 #[.agg #[.slice a0 l0.length c0, .slice a1 l1.length c1, .slice a2 l2.length c2, .slice a3 l3.length c3], .int .i64 i] w fun e w' => ∃ p0 p1 p2 p3 q0 q1 q2 q3, e = .returned (.tuple #[.agg #[.slice p0 0 q0, .slice p1 0 q1, .slice p2 0 q2, .slice p3 0 q3], .bool false]) ∧ Below w.heap.size w w' := by
  refine (iUnfold_any a0 a1 a2 a3 c0 c1 c2 c3 l0 l1 l2 l3 i w n0 n1 n2 n3 r0 r1 r2 r3 z0 z1 z2 z3).mono ?_
  rintro e w' ⟨p0, p1, p2, p3, q0, q1, q2, q3, rfl, _, hb⟩
  rw [hu]
  exact ⟨p0, p1, p2, p3, q0, q1, q2, q3, rfl, hb⟩

set_option linter.unusedSimpArgs false in
set_option maxRecDepth 20000 in
set_option maxHeartbeats 4000000 in
theorem iExpose_any (a0 a1 a2 a3 : Option Addr) (c0 c1 c2 c3 : Nat) (l0 l1 l2 l3 : List (Int × Int)) (t : Int) (w : World) (n0 : l0.length ≤ 1048576) (n1 : l1.length ≤ 1048576) (n2 : l2.length ≤ 1048576) (n3 : l3.length ≤ 1048576) (r0 : PRow w a0 l0) (r1 : PRow w a1 l1) (r2 : PRow w a2 l2) (r3 : PRow w a3 l3) (z0 : CapZ a0 l0.length c0) (z1 : CapZ a1 l1.length c1) (z2 : CapZ a2 l2.length c2) (z3 : CapZ a3 l3.length c3) :
    Calls Try.prog 105 #[.agg #[.slice a0 l0.length c0, .slice a1 l1.length c1, .slice a2 l2.length c2, .slice a3 l3.length c3], .int .i64 t] w fun e w' => ∃ p0 p1 p2 p3 q0 q1 q2 q3, e = .returned (.tuple #[.agg #[.slice p0 (okL (exB l0 l1 l2 l3 t) l0).length q0, .slice p1 (okL (exB l0 l1 l2 l3 t) l1).length q1, .slice p2 (okL (exB l0 l1 l2 l3 t) (exL2 l0 l1 l2 l3 t)).length q2, .slice p3 (okL (exB l0 l1 l2 l3 t) (exL3 l0 l1 l2 l3 t)).length q3], .int .i64 (exI l0 l1 l2 l3 t), .bool (exB l0 l1 l2 l3 t)]) ∧ Four w' w.heap.size w'.heap.size p0 p1 p2 p3 (okL (exB l0 l1 l2 l3 t) l0).length (okL (exB l0 l1 l2 l3 t) l1).length (okL (exB l0 l1 l2 l3 t) (exL2 l0 l1 l2 l3 t)).length (okL (exB l0 l1 l2 l3 t) (exL3 l0 l1 l2 l3 t)).length (okL (exB l0 l1 l2 l3 t) l0) (okL (exB l0 l1 l2 l3 t) l1) (okL (exB l0 l1 l2 l3 t) (exL2 l0 l1 l2 l3 t)) (okL (exB l0 l1 l2 l3 t) (exL3 l0 l1 l2 l3 t)) ∧ Below w.heap.size w w' := by
  have A0 := (Box.new w (.slice a0 l0.length c0) (.slice a1 l1.length c1) (.slice a2 l2.length c2) (.slice a3 l3.length c3) 28).alloc (.cells #[.slice none 0 0, .slice none 0 0, .slice none 0 0, .slice none 0 0] 28)
  have R0 := Box.new (w.alloc (.cells #[.slice a0 l0.length c0, .slice a1 l1.length c1, .slice a2 l2.length c2, .slice a3 l3.length c3] 28)) (.slice none 0 0) (.slice none 0 0) (.slice none 0 0) (.slice none 0 0) 28
  have L0 : Below w.heap.size w ((w.alloc (.cells #[.slice a0 l0.length c0, .slice a1 l1.length c1, .slice a2 l2.length c2, .slice a3 l3.length c3] 28)).alloc (.cells #[.slice none 0 0, .slice none 0 0, .slice none 0 0, .slice none 0 0] 28)) := ((Below.refl _ _).alloc (Nat.le_refl _) _).alloc (by simp) _
  rw [World.size_alloc] at R0
  replace r0 := r0.below (L0) (Nat.le_refl _); replace r1 := r1.below (L0) (Nat.le_refl _); replace r2 := r2.below (L0) (Nat.le_refl _); replace r3 := r3.below (L0) (Nat.le_refl _)
  go_enter Try.func105, Try.ntmps105
  go_wp2_with fail
  refine (iHeadAt_any _ _ _ _ _ _ _ _ l0 l1 l2 l3 t _ n0 n1 n2 n3 r0 r1 r2 r3).mono ?_
  rintro e w1 ⟨rfl, hb⟩
  replace A0 := A0.below hb A0.lt; replace R0 := R0.below hb R0.lt; replace L0 := L0.trans (hb.mono L0.size)
  replace r0 := r0.below (hb) (Nat.le_refl _); replace r1 := r1.below (hb) (Nat.le_refl _); replace r2 := r2.below (hb) (Nat.le_refl _); replace r3 := r3.below (hb) (Nat.le_refl _)
  clear hb
  obtain ⟨hd, hhd⟩ : ∃ hd, Hid (headAtA l0 l1 l2 l3 t = hd) := ⟨_, rfl⟩
  rw [hhd.out]
  have A0c0 := A0.c0; have A0c1 := A0.c1; have A0c2 := A0.c2; have A0c3 := A0.c3
  go_wp2_with fail
  clear A0c0 A0c1 A0c2 A0c3
  refine (iOpened_any _ _ _ _ _ _ _ _ l0 l1 l2 l3 _ n0 n1 n2 n3 r0 r1 r2 r3).mono ?_
  rintro e w2 ⟨rfl, hb⟩
  replace A0 := A0.below hb A0.lt; replace R0 := R0.below hb R0.lt; replace L0 := L0.trans (hb.mono L0.size)
  replace r0 := r0.below (hb) (Nat.le_refl _); replace r1 := r1.below (hb) (Nat.le_refl _); replace r2 := r2.below (hb) (Nat.le_refl _); replace r3 := r3.below (hb) (Nat.le_refl _)
  clear hb
  cases hop : openA l0 l1 l2 l3
  · clear A0
    have HE : Hid ((exB l0 l1 l2 l3 t) = false) := by show (exB l0 l1 l2 l3 t) = false; unfold openA at hop; unfold exB; rw [Bool.and_right_comm (asnB l0 l1 l2 l3), hop]; simp
    have HI : Hid (exI l0 l1 l2 l3 t = -1) := by show exI l0 l1 l2 l3 t = -1; unfold exI; rw [HE.out]; rfl
    obtain ⟨F, FO⟩ := R0.fill (.slice none 0 0) (.slice none 0 0) (.slice none 0 0) (.slice none 0 0)
    have j0' := R0.c0; have j1' := R0.c1; have j2' := R0.c2; have j3' := R0.c3
    have g0 := R0.f0; have g1 := R0.f1; have g2 := R0.f2; have g3 := R0.f3
    go_wp2
    have i0 := F.c0; have i1 := F.c1; have i2 := F.c2; have i3 := F.c3
    refine bodyPost_ret (v := .tuple #[.agg #[.slice none 0 0, .slice none 0 0, .slice none 0 0, .slice none 0 0], .int .i64 (-1), .bool false]) ?_ rfl ⟨none, none, none, none, 0, 0, 0, 0, by rw [HE.out, HI.out]; rfl, ?_, ?_⟩
    · simp [results, Try.results105, go_sem, i0, i1, i2, i3]
    · rw [HE.out]; exact (Four.none _ w.heap.size).mono (Nat.le_refl _) (by have := FO.size; have := L0.size; omega)
    · exact L0.trans (FO.below (by omega) L0.size)

  obtain ⟨ha, ho⟩ : asnB l0 l1 l2 l3 = true ∧ openV (clsV l0) l1 l3 = true := by unfold openA at hop; simpa using hop
  have HA : Hid (asnB l0 l1 l2 l3 = true) := ha
  have HO : Hid (openV (clsV l0) l1 l3 = true) := ho
  clear ha ho hop
  have A0c0 := A0.c0; have A0c1 := A0.c1; have A0c2 := A0.c2; have A0c3 := A0.c3
  go_wp2_with fail
  clear A0c0 A0c1 A0c2 A0c3
  refine (iContra_any _ _ _ _ _ _ _ _ l0 l1 l2 l3 _ n0 n1 n2 n3 r0 r1 r2 r3).mono ?_
  rintro e w3 ⟨rfl, hb⟩
  replace A0 := A0.below hb A0.lt; replace R0 := R0.below hb R0.lt; replace L0 := L0.trans (hb.mono L0.size)
  replace r0 := r0.below (hb) (Nat.le_refl _); replace r1 := r1.below (hb) (Nat.le_refl _); replace r2 := r2.below (hb) (Nat.le_refl _); replace r3 := r3.below (hb) (Nat.le_refl _)
  clear hb
  have ec : contraA l0 l1 l2 l3 = contraV (clsV l0) l1 l2 l3 := by unfold contraA; rw [HA.out, HO.out]; rfl
  rw [ec]
  clear ec
  cases hco : contraV (clsV l0) l1 l2 l3
  rotate_left
  · clear A0
    have HE : Hid ((exB l0 l1 l2 l3 t) = false) := by show (exB l0 l1 l2 l3 t) = false; unfold exB; rw [hco]; simp
    have HI : Hid (exI l0 l1 l2 l3 t = -1) := by show exI l0 l1 l2 l3 t = -1; unfold exI; rw [HE.out]; rfl
    obtain ⟨F, FO⟩ := R0.fill (.slice none 0 0) (.slice none 0 0) (.slice none 0 0) (.slice none 0 0)
    have j0' := R0.c0; have j1' := R0.c1; have j2' := R0.c2; have j3' := R0.c3
    have g0 := R0.f0; have g1 := R0.f1; have g2 := R0.f2; have g3 := R0.f3
    go_wp2
    have i0 := F.c0; have i1 := F.c1; have i2 := F.c2; have i3 := F.c3
    refine bodyPost_ret (v := .tuple #[.agg #[.slice none 0 0, .slice none 0 0, .slice none 0 0, .slice none 0 0], .int .i64 (-1), .bool false]) ?_ rfl ⟨none, none, none, none, 0, 0, 0, 0, by rw [HE.out, HI.out]; rfl, ?_, ?_⟩
    · simp [results, Try.results105, go_sem, i0, i1, i2, i3]
    · rw [HE.out]; exact (Four.none _ w.heap.size).mono (Nat.le_refl _) (by have := FO.size; have := L0.size; omega)
    · exact L0.trans (FO.below (by omega) L0.size)

  have HCO : Hid (contraV (clsV l0) l1 l2 l3 = false) := hco
  clear hco
  have HD : Hid (hd = if tok t = true then exJ l0 l2 l3 t else -1) := by show hd = _; rw [← hhd.out, headAt_ex, HA.out, Bool.true_and]
  by_cases hneg : hd < 0
  · have HF : Hid ((exB l0 l1 l2 l3 t) = false) := by
      show (exB l0 l1 l2 l3 t) = false
      have h := HD.out
      unfold exB
      cases hx : tok t
      · simp
      · rw [hx, if_pos rfl] at h
        rw [decide_eq_false (p := 0 ≤ _) (by omega)]
        simp
    clear A0
    have HE : Hid ((exB l0 l1 l2 l3 t) = false) := by show (exB l0 l1 l2 l3 t) = false; exact HF.out
    have HI : Hid (exI l0 l1 l2 l3 t = -1) := by show exI l0 l1 l2 l3 t = -1; unfold exI; rw [HE.out]; rfl
    obtain ⟨F, FO⟩ := R0.fill (.slice none 0 0) (.slice none 0 0) (.slice none 0 0) (.slice none 0 0)
    have j0' := R0.c0; have j1' := R0.c1; have j2' := R0.c2; have j3' := R0.c3
    have g0 := R0.f0; have g1 := R0.f1; have g2 := R0.f2; have g3 := R0.f3
    go_wp2
    have i0 := F.c0; have i1 := F.c1; have i2 := F.c2; have i3 := F.c3
    refine bodyPost_ret (v := .tuple #[.agg #[.slice none 0 0, .slice none 0 0, .slice none 0 0, .slice none 0 0], .int .i64 (-1), .bool false]) ?_ rfl ⟨none, none, none, none, 0, 0, 0, 0, by rw [HE.out, HI.out]; rfl, ?_, ?_⟩
    · simp [results, Try.results105, go_sem, i0, i1, i2, i3]
    · rw [HE.out]; exact (Four.none _ w.heap.size).mono (Nat.le_refl _) (by have := FO.size; have := L0.size; omega)
    · exact L0.trans (FO.below (by omega) L0.size)

  obtain ⟨hx, hj⟩ : tok t = true ∧ hd = exJ l0 l2 l3 t := by
    have h := HD.out
    cases hx : tok t
    · rw [hx] at h; simp at h; omega
    · rw [hx, if_pos rfl] at h; exact ⟨rfl, h⟩
  have HX : Hid (tok t = true) := hx
  have HJ : Hid (exJ l0 l2 l3 t = hd) := hj.symm
  have HLT := exJ_lt (l0 := l0) (l2 := l2) (l3 := l3) (t := t) (by rw [HJ.out]; omega)
  rw [HJ.out] at HLT
  clear hx hj HD hhd
  have A0c2 := A0.c2
  by_cases hcell : hd < (l2.length : Int)
  · have HE : Hid ((exB l0 l1 l2 l3 t) = true) := by
      show (exB l0 l1 l2 l3 t) = true
      unfold exB
      rw [HJ.out, HA.out, HX.out, HO.out, HCO.out, decide_eq_true hcell, decide_eq_true (p := 0 ≤ hd) (by omega)]
      rfl
    have HI : Hid (exI l0 l1 l2 l3 t = hd) := by show exI _ _ _ _ _ = _; unfold exI; rw [HE.out, if_pos rfl, HJ.out, if_pos hcell]
    have HL2 : Hid (exL2 l0 l1 l2 l3 t = l2) := by show exL2 _ _ _ _ _ = _; unfold exL2; rw [HJ.out, if_pos hcell]
    have HL3 : Hid (exL3 l0 l1 l2 l3 t = l3) := by show exL3 _ _ _ _ _ = _; unfold exL3; rw [HJ.out, if_pos hcell]
    have A0c0 := A0.c0; have A0c1 := A0.c1; have A0c3 := A0.c3
    go_wp2_with fail
    clear A0c0 A0c1 A0c2 A0c3 A0
    refine (ownCopy_any _ _ _ _ _ _ _ _ l0 l1 l2 l3 _ n0 n1 n2 n3 r0 r1 r2 r3 z0 z1 z2 z3).mono ?_
    rintro e w6 ⟨p0, p1, p2, p3, q0, q1, q2, q3, rfl, T, _, hb⟩
    have zR := R0.lt
    replace R0 := R0.below hb R0.lt; replace L0 := L0.trans (hb.mono L0.size)
    clear hb
    obtain ⟨F, FO⟩ := R0.fill (.slice p0 l0.length q0) (.slice p1 l1.length q1) (.slice p2 l2.length q2) (.slice p3 l3.length q3)
    have j0' := R0.c0; have j1' := R0.c1; have j2' := R0.c2; have j3' := R0.c3
    have g0' := R0.f0; have g1' := R0.f1; have g2' := R0.f2; have g3' := R0.f3
    go_wp2
    have i0 := F.c0; have i1 := F.c1; have i2 := F.c2; have i3 := F.c3
    have hfs := FO.size
    refine bodyPost_ret (v := .tuple #[.agg #[.slice p0 l0.length q0, .slice p1 l1.length q1, .slice p2 l2.length q2, .slice p3 l3.length q3], .int .i64 hd, .bool true]) ?_ rfl ⟨p0, p1, p2, p3, q0, q1, q2, q3, by rw [HE.out, HI.out, HL2.out, HL3.out]; rfl, ?_, ?_⟩
    · simp [results, Try.results105, go_sem, i0, i1, i2, i3]
    · rw [HE.out, HL2.out, HL3.out]
      exact (T.out FO (.inr (by omega))).mono (by omega) (by omega)
    · exact L0.trans (FO.below (by omega) L0.size)
  have hwr : IntKind.i64.wrap (hd - (l2.length : Int)) = hd - (l2.length : Int) := by rw [IntKind.wrap_i64]; omega
  have HU : Hid (unfB l0 l1 l2 l3 (hd - (l2.length : Int)) = (decide (0 ≤ freshF (usedV l0 l1 l2 l3)) && decide (l2.length + l3.length < 6))) := by
    show unfB _ _ _ _ _ = _
    unfold unfB
    rw [HA.out, decide_eq_true (p := 0 ≤ hd - (l2.length : Int) ∧ _) (by omega), open_one HO.out (by omega)]
    rfl
  have HB : Hid ((exB l0 l1 l2 l3 t) = (decide (0 ≤ freshF (usedV l0 l1 l2 l3)) && decide (l2.length + l3.length < 6))) := by
    show (exB l0 l1 l2 l3 t) = _
    unfold exB
    rw [HJ.out, HA.out, HX.out, HO.out, HCO.out, decide_eq_false hcell, decide_eq_true (p := 0 ≤ hd) (by omega)]
    simp
  obtain ⟨cn, hcn⟩ : ∃ cn, Hid ((decide (0 ≤ freshF (usedV l0 l1 l2 l3)) && decide (l2.length + l3.length < 6)) = cn) := ⟨_, rfl⟩
  rw [hcn.out] at HU HB
  have A0c0 := A0.c0; have A0c1 := A0.c1; have A0c3 := A0.c3
  cases cn
  · go_wp2_with fail
    clear A0c0 A0c1 A0c2 A0c3 A0
    refine (iUnfold_out _ _ _ _ _ _ _ _ l0 l1 l2 l3 _ _ n0 n1 n2 n3 r0 r1 r2 r3 z0 z1 z2 z3 HU.out).mono ?_
    rintro e w6 ⟨p0, p1, p2, p3, q0, q1, q2, q3, rfl, hb⟩
    have al : Below w6.heap.size w6 (w6.alloc (.cells #[.slice p0 0 q0, .slice p1 0 q1, .slice p2 0 q2, .slice p3 0 q3] 28)) := (Below.refl _ _).alloc (Nat.le_refl _) _
    have zz : w.heap.size + 1 < w6.heap.size := Nat.lt_of_lt_of_le R0.lt hb.size
    replace R0 := (R0.below hb R0.lt).below al zz; replace L0 := (L0.trans (hb.mono L0.size)).trans (al.mono (Nat.le_trans L0.size hb.size))
    clear hb al
    go_upto_region 8 with fail
    generalize w6.alloc (.cells #[.slice p0 0 q0, .slice p1 0 q1, .slice p2 0 q2, .slice p3 0 q3] 28) = w7 at *
    have HE : Hid ((exB l0 l1 l2 l3 t) = false) := by show (exB l0 l1 l2 l3 t) = false; exact HB.out
    have HI : Hid (exI l0 l1 l2 l3 t = -1) := by show exI l0 l1 l2 l3 t = -1; unfold exI; rw [HE.out]; rfl
    obtain ⟨F, FO⟩ := R0.fill (.slice none 0 0) (.slice none 0 0) (.slice none 0 0) (.slice none 0 0)
    have j0' := R0.c0; have j1' := R0.c1; have j2' := R0.c2; have j3' := R0.c3
    have g0 := R0.f0; have g1 := R0.f1; have g2 := R0.f2; have g3 := R0.f3
    go_wp2
    have i0 := F.c0; have i1 := F.c1; have i2 := F.c2; have i3 := F.c3
    refine bodyPost_ret (v := .tuple #[.agg #[.slice none 0 0, .slice none 0 0, .slice none 0 0, .slice none 0 0], .int .i64 (-1), .bool false]) ?_ rfl ⟨none, none, none, none, 0, 0, 0, 0, by rw [HE.out, HI.out]; rfl, ?_, ?_⟩
    · simp [results, Try.results105, go_sem, i0, i1, i2, i3]
    · rw [HE.out]; exact (Four.none _ w.heap.size).mono (Nat.le_refl _) (by have := FO.size; have := L0.size; omega)
    · exact L0.trans (FO.below (by omega) L0.size)

  · have HI : Hid (exI l0 l1 l2 l3 t = (l2.length : Int)) := by show exI _ _ _ _ _ = _; unfold exI; rw [HB.out, if_pos rfl, HJ.out, if_neg hcell]
    obtain ⟨U2, hU2⟩ : ∃ U, Hid (unfC l2 (l3.getD (hd - (l2.length : Int)).toNat (0, 0)) (freshF (usedV l0 l1 l2 l3)) = U) := ⟨_, rfl⟩
    obtain ⟨U3, hU3⟩ : ∃ U, Hid (unfS l3 (hd - (l2.length : Int)).toNat (l3.getD (hd - (l2.length : Int)).toNat (0, 0)) (freshF (usedV l0 l1 l2 l3)) = U) := ⟨_, rfl⟩
    have HL2 : Hid (exL2 l0 l1 l2 l3 t = U2) := by show exL2 _ _ _ _ _ = _; unfold exL2; rw [HJ.out, if_neg hcell, hU2.out]
    have HL3 : Hid (exL3 l0 l1 l2 l3 t = U3) := by show exL3 _ _ _ _ _ = _; unfold exL3; rw [HJ.out, if_neg hcell, hU3.out]
    go_wp2_with fail
    clear A0c0 A0c1 A0c2 A0c3 A0
    refine (iUnfold_at _ _ _ _ _ _ _ _ l0 l1 l2 l3 _ _ n0 n1 n2 n3 r0 r1 r2 r3 z0 z1 z2 z3 HU.out U2 U3 hU2.out hU3.out).mono ?_
    rintro e w6 ⟨p0, p1, p2, p3, q0, q1, q2, q3, rfl, T, hb⟩
    have zR := R0.lt
    have al : Below w6.heap.size w6 (w6.alloc (.cells #[.slice p0 l0.length q0, .slice p1 l1.length q1, .slice p2 U2.length q2, .slice p3 U3.length q3] 28)) := (Below.refl _ _).alloc (Nat.le_refl _) _
    have zz : w.heap.size + 1 < w6.heap.size := Nat.lt_of_lt_of_le R0.lt hb.size
    replace R0 := (R0.below hb R0.lt).below al zz; replace L0 := (L0.trans (hb.mono L0.size)).trans (al.mono (Nat.le_trans L0.size hb.size))
    have BX := Box.new w6 (.slice p0 l0.length q0) (.slice p1 l1.length q1) (.slice p2 U2.length q2) (.slice p3 U3.length q3) 28
    replace T := T.below al (Nat.le_refl _)
    have zs := al.size
    clear hb al
    go_upto_region 8 with fail
    generalize w6.alloc (.cells #[.slice p0 l0.length q0, .slice p1 l1.length q1, .slice p2 U2.length q2, .slice p3 U3.length q3] 28) = w7 at *
    generalize w6.heap.size = Z at *
    have x0 := BX.c0; have x1 := BX.c1; have x2 := BX.c2; have x3 := BX.c3
    obtain ⟨F, FO⟩ := R0.fill (.slice p0 l0.length q0) (.slice p1 l1.length q1) (.slice p2 U2.length q2) (.slice p3 U3.length q3)
    have j0' := R0.c0; have j1' := R0.c1; have j2' := R0.c2; have j3' := R0.c3
    have g0' := R0.f0; have g1' := R0.f1; have g2' := R0.f2; have g3' := R0.f3
    go_wp2
    have i0 := F.c0; have i1 := F.c1; have i2 := F.c2; have i3 := F.c3
    have hfs := FO.size
    refine bodyPost_ret (v := .tuple #[.agg #[.slice p0 l0.length q0, .slice p1 l1.length q1, .slice p2 U2.length q2, .slice p3 U3.length q3], .int .i64 (l2.length : Int), .bool true]) ?_ rfl ⟨p0, p1, p2, p3, q0, q1, q2, q3, by rw [HB.out, HI.out, HL2.out, HL3.out]; rfl, ?_, ?_⟩
    · simp [results, Try.results105, go_sem, i0, i1, i2, i3]
    · rw [HB.out, HL2.out, HL3.out]
      exact (T.out FO (.inr (by omega))).mono (by omega) (by omega)
    · exact L0.trans (FO.below (by omega) L0.size)

end Go.Proofs.Ytldhbooginlcpaa
