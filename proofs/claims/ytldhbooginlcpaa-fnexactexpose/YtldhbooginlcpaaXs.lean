/-
  The contract of spec.Expose.
-/
import Derived.Test.YtldhbooginlcpaaXe
import Derived.Test.YtldhbooginlcpaaOwp
import Derived.Test.YtldhbooginlcpaaCt
import Derived.Test.YtldhbooginlcpaaSo
namespace Go.Proofs.Ytldhbooginlcpaa
open Go.RowKit
set_option linter.unusedVariables false

def exJ (l0 l2 l3 : List (Int × Int)) (t : Int) : Int := idxV (headsV (clsV l0) l2 l3) ((clsV l0).getD t.toNat 0)
def exB (l0 l1 l2 l3 : List (Int × Int)) (t : Int) : Bool := asnB l0 l1 l2 l3 && tok t && openV (clsV l0) l1 l3 && !(contraV (clsV l0) l1 l2 l3) && decide (0 ≤ exJ l0 l2 l3 t) && (decide (exJ l0 l2 l3 t < (l2.length : Int)) || (decide (0 ≤ freshF (usedV l0 l1 l2 l3)) && decide (l2.length + l3.length < 6)))
def exL2 (l0 l1 l2 l3 : List (Int × Int)) (t : Int) : List (Int × Int) := if exJ l0 l2 l3 t < (l2.length : Int) then l2 else unfC l2 (l3.getD (exJ l0 l2 l3 t - (l2.length : Int)).toNat (0, 0)) (freshF (usedV l0 l1 l2 l3))
def exL3 (l0 l1 l2 l3 : List (Int × Int)) (t : Int) : List (Int × Int) := if exJ l0 l2 l3 t < (l2.length : Int) then l3 else unfS l3 (exJ l0 l2 l3 t - (l2.length : Int)).toNat (l3.getD (exJ l0 l2 l3 t - (l2.length : Int)).toNat (0, 0)) (freshF (usedV l0 l1 l2 l3))
def exI (l0 l1 l2 l3 : List (Int × Int)) (t : Int) : Int := if exB l0 l1 l2 l3 t = true then (if exJ l0 l2 l3 t < (l2.length : Int) then exJ l0 l2 l3 t else (l2.length : Int)) else -1
theorem exJ_cell {l0 l2 l3 : List (Int × Int)} {t : Nat} (h : 0 ≤ idxV (headsOf (clsV l0) l2) ((clsV l0).getD t 0)) : exJ l0 l2 l3 (t : Int) = idxV (headsOf (clsV l0) l2) ((clsV l0).getD t 0) ∧ exJ l0 l2 l3 (t : Int) < (l2.length : Int) := by
  have e : exJ l0 l2 l3 (t : Int) = idxV (headsOf (clsV l0) l2) ((clsV l0).getD t 0) := by
    unfold exJ headsV
    rw [Int.toNat_natCast]
    exact idx_app1 h
  obtain ⟨k, e2, hk, _⟩ := idx_lt h
  rw [headsOf_length] at hk
  exact ⟨e, by rw [e, e2]; omega⟩
theorem exJ_seg {l0 l2 l3 : List (Int × Int)} {t k : Nat} (h : idxV (headsOf (clsV l0) l2) ((clsV l0).getD t 0) < 0) (hk : idxV (headsOf (clsV l0) l3) ((clsV l0).getD t 0) = (k : Int)) : exJ l0 l2 l3 (t : Int) = ((l2.length + k : Nat) : Int) := by
  unfold exJ headsV
  rw [Int.toNat_natCast, idx_app2 h hk, headsOf_length]
theorem exJ_none {l0 l2 l3 : List (Int × Int)} {t : Nat} (h : idxV (headsOf (clsV l0) l2) ((clsV l0).getD t 0) < 0) (hk : idxV (headsOf (clsV l0) l3) ((clsV l0).getD t 0) < 0) : exJ l0 l2 l3 (t : Int) = -1 := by
  unfold exJ headsV
  rw [Int.toNat_natCast]
  exact idx_app3 h hk

set_option linter.unusedSimpArgs false in
set_option maxRecDepth 20000 in
set_option maxHeartbeats 4000000 in
theorem sExpose_any (b0 b1 b2 b3 c0 c1 c2 c3 : Nat) (l0 l1 l2 l3 : List (Int × Int)) (t : Int) (w : World) (n0 : l0.length ≤ 1048576) (n1 : l1.length ≤ 1048576) (n2 : l2.length ≤ 1048576) (n3 : l3.length ≤ 1048576) (o0 : Own w b0 l0.length l0 l0.length) (o1 : Own w b1 l1.length l1 l1.length) (o2 : Own w b2 l2.length l2 l2.length) (o3 : Own w b3 l3.length l3 l3.length) (z3 : l3.length ≤ c3) :
    Calls Try.prog 104 #[.agg #[.slice (some ⟨b0, 0, none⟩) l0.length c0, .slice (some ⟨b1, 0, none⟩) l1.length c1, .slice (some ⟨b2, 0, none⟩) l2.length c2, .slice (some ⟨b3, 0, none⟩) l3.length c3], .int .i64 t] w fun e w' => ∃ p0 p1 p2 p3 q0 q1 q2 q3, e = .returned (.tuple #[.agg #[.slice p0 (okL (exB l0 l1 l2 l3 t) l0).length q0, .slice p1 (okL (exB l0 l1 l2 l3 t) l1).length q1, .slice p2 (okL (exB l0 l1 l2 l3 t) (exL2 l0 l1 l2 l3 t)).length q2, .slice p3 (okL (exB l0 l1 l2 l3 t) (exL3 l0 l1 l2 l3 t)).length q3], .int .i64 (exI l0 l1 l2 l3 t), .bool (exB l0 l1 l2 l3 t)]) ∧ Seen w' w.heap.size w'.heap.size p0 p1 p2 p3 (okL (exB l0 l1 l2 l3 t) l0).length (okL (exB l0 l1 l2 l3 t) l1).length (okL (exB l0 l1 l2 l3 t) (exL2 l0 l1 l2 l3 t)).length (okL (exB l0 l1 l2 l3 t) (exL3 l0 l1 l2 l3 t)).length (okL (exB l0 l1 l2 l3 t) l0) (okL (exB l0 l1 l2 l3 t) l1) (okL (exB l0 l1 l2 l3 t) (exL2 l0 l1 l2 l3 t)) (okL (exB l0 l1 l2 l3 t) (exL3 l0 l1 l2 l3 t)) ∧ Below w.heap.size w w' := by
  have A0 := (Box.new w (.slice (some ⟨b0, 0, none⟩) l0.length c0) (.slice (some ⟨b1, 0, none⟩) l1.length c1) (.slice (some ⟨b2, 0, none⟩) l2.length c2) (.slice (some ⟨b3, 0, none⟩) l3.length c3) 28).alloc (.cells #[.slice none 0 0, .slice none 0 0, .slice none 0 0, .slice none 0 0] 28)
  have R0 := Box.new (w.alloc (.cells #[.slice (some ⟨b0, 0, none⟩) l0.length c0, .slice (some ⟨b1, 0, none⟩) l1.length c1, .slice (some ⟨b2, 0, none⟩) l2.length c2, .slice (some ⟨b3, 0, none⟩) l3.length c3] 28)) (.slice none 0 0) (.slice none 0 0) (.slice none 0 0) (.slice none 0 0) 28
  have L0 : Below w.heap.size w ((w.alloc (.cells #[.slice (some ⟨b0, 0, none⟩) l0.length c0, .slice (some ⟨b1, 0, none⟩) l1.length c1, .slice (some ⟨b2, 0, none⟩) l2.length c2, .slice (some ⟨b3, 0, none⟩) l3.length c3] 28)).alloc (.cells #[.slice none 0 0, .slice none 0 0, .slice none 0 0, .slice none 0 0] 28)) := ((Below.refl _ _).alloc (Nat.le_refl _) _).alloc (by simp) _
  rw [World.size_alloc] at R0
  replace o0 := o0.below (L0) o0.1; replace o1 := o1.below (L0) o1.1; replace o2 := o2.below (L0) o2.1; replace o3 := o3.below (L0) o3.1
  go_enter Try.func104, Try.ntmps104
  go_wp2_with fail
  refine (sAsnOk_any _ _ _ _ _ _ _ _ l0 l1 l2 l3 _ n0 n1 n2 n3 o0.row o1.row o2.row o3.row).mono ?_
  rintro e w1 ⟨rfl, hb⟩
  replace A0 := A0.below hb A0.lt; replace R0 := R0.below hb R0.lt; replace L0 := L0.trans (hb.mono L0.size)
  replace o0 := o0.below (hb) o0.1; replace o1 := o1.below (hb) o1.1; replace o2 := o2.below (hb) o2.1; replace o3 := o3.below (hb) o3.1
  clear hb
  cases ha : asnB l0 l1 l2 l3
  · clear A0
    have HE : Hid ((exB l0 l1 l2 l3 t) = false) := by show (exB l0 l1 l2 l3 t) = false; unfold exB; rw [ha]; rfl
    have HI : Hid (exI l0 l1 l2 l3 t = -1) := by show exI l0 l1 l2 l3 t = -1; unfold exI; rw [HE.out]; rfl
    obtain ⟨F, FO⟩ := R0.fill (.slice none 0 0) (.slice none 0 0) (.slice none 0 0) (.slice none 0 0)
    have j0' := R0.c0; have j1' := R0.c1; have j2' := R0.c2; have j3' := R0.c3
    have g0 := R0.f0; have g1 := R0.f1; have g2 := R0.f2; have g3 := R0.f3
    go_wp2
    have i0 := F.c0; have i1 := F.c1; have i2 := F.c2; have i3 := F.c3
    refine bodyPost_ret (v := .tuple #[.agg #[.slice none 0 0, .slice none 0 0, .slice none 0 0, .slice none 0 0], .int .i64 (-1), .bool false]) ?_ rfl ⟨none, none, none, none, 0, 0, 0, 0, by rw [HE.out, HI.out]; rfl, ?_, ?_⟩
    · simp [results, Try.results104, go_sem, i0, i1, i2, i3]
    · rw [HE.out]; exact Seen.none _ _ _
    · exact L0.trans (FO.below (by omega) L0.size)

  go_wp2_with fail
  refine (sTermOk_any t _).mono ?_
  rintro e wz ⟨rfl, rfl⟩
  cases hx : tok t
  · clear A0
    have HE : Hid ((exB l0 l1 l2 l3 t) = false) := by show (exB l0 l1 l2 l3 t) = false; unfold exB; rw [ha, hx]; rfl
    have HI : Hid (exI l0 l1 l2 l3 t = -1) := by show exI l0 l1 l2 l3 t = -1; unfold exI; rw [HE.out]; rfl
    obtain ⟨F, FO⟩ := R0.fill (.slice none 0 0) (.slice none 0 0) (.slice none 0 0) (.slice none 0 0)
    have j0' := R0.c0; have j1' := R0.c1; have j2' := R0.c2; have j3' := R0.c3
    have g0 := R0.f0; have g1 := R0.f1; have g2 := R0.f2; have g3 := R0.f3
    go_wp2
    have i0 := F.c0; have i1 := F.c1; have i2 := F.c2; have i3 := F.c3
    refine bodyPost_ret (v := .tuple #[.agg #[.slice none 0 0, .slice none 0 0, .slice none 0 0, .slice none 0 0], .int .i64 (-1), .bool false]) ?_ rfl ⟨none, none, none, none, 0, 0, 0, 0, by rw [HE.out, HI.out]; rfl, ?_, ?_⟩
    · simp [results, Try.results104, go_sem, i0, i1, i2, i3]
    · rw [HE.out]; exact Seen.none _ _ _
    · exact L0.trans (FO.below (by omega) L0.size)

  obtain ⟨t0, t1, t2, t3⟩ := asnB_toks ha
  have hxx := tok_iff.1 hx
  obtain ⟨t, rfl⟩ := Int.eq_ofNat_of_zero_le hxx.1
  have ht : t < 16 := by omega
  have HA : Hid (asnB l0 l1 l2 l3 = true) := ha
  have HX : Hid (tok (t : Int) = true) := hx
  clear hx hxx
  have A0c0 := A0.c0; have A0c1 := A0.c1; have A0c2 := A0.c2; have A0c3 := A0.c3
  go_wp2_with fail
  clear A0c0 A0c1 A0c2 A0c3
  refine (l3classes_any _ _ _ _ _ _ _ _ l0 l1 l2 l3 _ n0 t0 o0.row).mono ?_
  rintro e w2 ⟨bR, cR, rfl, hzR, CO, hb⟩
  replace A0 := A0.below hb A0.lt; replace R0 := R0.below hb R0.lt; replace L0 := L0.trans (hb.mono L0.size)
  replace o0 := o0.below (hb) o0.1; replace o1 := o1.below (hb) o1.1; replace o2 := o2.below (hb) o2.1; replace o3 := o3.below (hb) o3.1
  clear hb
  have HC := Cls.all t0
  have A0c0 := A0.c0; have A0c1 := A0.c1; have A0c2 := A0.c2; have A0c3 := A0.c3
  go_wp2_with fail
  clear A0c0 A0c1 A0c2 A0c3
  refine (l3opened_any _ _ _ _ _ _ _ _ l0 l1 l2 l3 bR cR (clsV l0) HC _ n1 n3 t1 t3 o1.row o3.row CO).mono ?_
  rintro e w3 ⟨rfl, hb⟩
  replace A0 := A0.below hb A0.lt; replace R0 := R0.below hb R0.lt; replace L0 := L0.trans (hb.mono L0.size); replace CO := CO.below hb CO.1
  replace o0 := o0.below (hb) o0.1; replace o1 := o1.below (hb) o1.1; replace o2 := o2.below (hb) o2.1; replace o3 := o3.below (hb) o3.1
  clear hb
  cases hop : openV (clsV l0) l1 l3
  · clear A0 CO
    have HE : Hid ((exB l0 l1 l2 l3 (t : Int)) = false) := by show (exB l0 l1 l2 l3 (t : Int)) = false; unfold exB; rw [hop]; simp
    have HI : Hid (exI l0 l1 l2 l3 (t : Int) = -1) := by show exI l0 l1 l2 l3 (t : Int) = -1; unfold exI; rw [HE.out]; rfl
    obtain ⟨F, FO⟩ := R0.fill (.slice none 0 0) (.slice none 0 0) (.slice none 0 0) (.slice none 0 0)
    have j0' := R0.c0; have j1' := R0.c1; have j2' := R0.c2; have j3' := R0.c3
    have g0 := R0.f0; have g1 := R0.f1; have g2 := R0.f2; have g3 := R0.f3
    go_wp2
    have i0 := F.c0; have i1 := F.c1; have i2 := F.c2; have i3 := F.c3
    refine bodyPost_ret (v := .tuple #[.agg #[.slice none 0 0, .slice none 0 0, .slice none 0 0, .slice none 0 0], .int .i64 (-1), .bool false]) ?_ rfl ⟨none, none, none, none, 0, 0, 0, 0, by rw [HE.out, HI.out]; rfl, ?_, ?_⟩
    · simp [results, Try.results104, go_sem, i0, i1, i2, i3]
    · rw [HE.out]; exact Seen.none _ _ _
    · exact L0.trans (FO.below (by omega) L0.size)

  have HOP : Hid (openV (clsV l0) l1 l3 = true) := hop
  clear hop
  have A0c0 := A0.c0; have A0c1 := A0.c1; have A0c2 := A0.c2; have A0c3 := A0.c3
  go_wp2_with fail
  clear A0c0 A0c1 A0c2 A0c3
  refine (l3contra_any _ _ _ _ _ _ _ _ l0 l1 l2 l3 bR cR (clsV l0) HC.1 _ n1 n2 n3 (by have h := ha; simp only [asnB, Bool.and_eq_true, decide_eq_true_eq] at h; simp only [headsV, headsOf, List.length_append, List.length_map]; omega) t1 t2 t3 o1.row o2.row o3.row CO).mono ?_
  rintro e w5 ⟨rfl, hb⟩
  replace A0 := A0.below hb A0.lt; replace R0 := R0.below hb R0.lt; replace L0 := L0.trans (hb.mono L0.size)
  replace o0 := o0.below (hb) o0.1; replace o1 := o1.below (hb) o1.1; replace o2 := o2.below (hb) o2.1; replace o3 := o3.below (hb) o3.1
  clear hb CO
  cases hco : contraV (clsV l0) l1 l2 l3
  rotate_left
  · clear A0
    have HE : Hid ((exB l0 l1 l2 l3 (t : Int)) = false) := by show (exB l0 l1 l2 l3 (t : Int)) = false; unfold exB; rw [hco]; simp
    have HI : Hid (exI l0 l1 l2 l3 (t : Int) = -1) := by show exI l0 l1 l2 l3 (t : Int) = -1; unfold exI; rw [HE.out]; rfl
    obtain ⟨F, FO⟩ := R0.fill (.slice none 0 0) (.slice none 0 0) (.slice none 0 0) (.slice none 0 0)
    have j0' := R0.c0; have j1' := R0.c1; have j2' := R0.c2; have j3' := R0.c3
    have g0 := R0.f0; have g1 := R0.f1; have g2 := R0.f2; have g3 := R0.f3
    go_wp2
    have i0 := F.c0; have i1 := F.c1; have i2 := F.c2; have i3 := F.c3
    refine bodyPost_ret (v := .tuple #[.agg #[.slice none 0 0, .slice none 0 0, .slice none 0 0, .slice none 0 0], .int .i64 (-1), .bool false]) ?_ rfl ⟨none, none, none, none, 0, 0, 0, 0, by rw [HE.out, HI.out]; rfl, ?_, ?_⟩
    · simp [results, Try.results104, go_sem, i0, i1, i2, i3]
    · rw [HE.out]; exact Seen.none _ _ _
    · exact L0.trans (FO.below (by omega) L0.size)

  have HCO : Hid (contraV (clsV l0) l1 l2 l3 = false) := hco
  clear hco
  have A0c0 := A0.c0; have A0c1 := A0.c1; have A0c2 := A0.c2; have A0c3 := A0.c3
  go_wp2_with fail
  clear A0c0 A0c1 A0c2 A0c3 A0
  refine (l7expose_any b0 b1 b2 b3 c0 c1 c2 c3 l0 l1 l2 l3 t ht _ n0 n1 n2 n3 o0 o1 o2 o3 z3 ha).mono ?_
  rintro e w6 ⟨hE, hb⟩
  have hb' := hb
  have o0' := o0.below hb o0.1; have o1' := o1.below hb o1.1; have o2' := o2.below hb o2.1; have o3' := o3.below hb o3.1
  clear ha o0 o1 o2 o3
  rcases hE with ⟨h1, rfl⟩ | ⟨h1, h2, rfl⟩ | ⟨h1, k, hk, h2, ⟨hy1, hy2⟩, p0, p1, p2, p3, q0, q1, q2, q3, rfl, T, np0, np1, np2, np3⟩ | ⟨h1, k, hk, h2, hy, rfl⟩
  · obtain ⟨j1, j2⟩ := exJ_cell (l3 := l3) h1
    have HE : Hid (exB l0 l1 l2 l3 (t : Int) = true) := by
      show exB l0 l1 l2 l3 (t : Int) = true
      unfold exB
      rw [HA.out, HX.out, HOP.out, HCO.out, decide_eq_true j2, j1, decide_eq_true h1]
      rfl
    have HI : Hid (exI l0 l1 l2 l3 (t : Int) = idxV (headsOf (clsV l0) l2) ((clsV l0).getD t 0)) := by show exI _ _ _ _ _ = _; unfold exI; rw [HE.out, if_pos rfl, if_pos j2, j1]
    have HL2 : Hid (exL2 l0 l1 l2 l3 (t : Int) = l2) := if_pos j2
    have HL3 : Hid (exL3 l0 l1 l2 l3 (t : Int) = l3) := if_pos j2
    have EL2 : l2.length = l2.length := rfl
    have EL3 : l3.length = l3.length := rfl
    have al : Below w6.heap.size w6 (w6.alloc (.cells #[.slice (some ⟨b0, 0, none⟩) l0.length c0, .slice (some ⟨b1, 0, none⟩) l1.length c1, .slice (some ⟨b2, 0, none⟩) l2.length c2, .slice (some ⟨b3, 0, none⟩) l3.length c3] 28)) := (Below.refl _ _).alloc (Nat.le_refl _) _
    have zz : w.heap.size + 1 < w6.heap.size := Nat.lt_of_lt_of_le R0.lt hb.size
    replace R0 := (R0.below hb R0.lt).below al zz; replace L0 := (L0.trans (hb.mono L0.size)).trans (al.mono (Nat.le_trans L0.size hb.size))
    have BX := Box.new w6 (.slice (some ⟨b0, 0, none⟩) l0.length c0) (.slice (some ⟨b1, 0, none⟩) l1.length c1) (.slice (some ⟨b2, 0, none⟩) l2.length c2) (.slice (some ⟨b3, 0, none⟩) l3.length c3) 28
    have r0 := o0'.row.below al (Nat.le_refl _); have r1 := o1'.row.below al (Nat.le_refl _); have r2 := o2'.row.below al (Nat.le_refl _); have r3 := o3'.row.below al (Nat.le_refl _)
    have zs := al.size
    clear hb hb' al o0' o1' o2' o3' j1 j2 h1
    generalize hiv : idxV (headsOf (clsV l0) l2) ((clsV l0).getD t 0) = iv at *
    go_upto_region 7 with fail
    generalize w6.alloc (.cells #[.slice (some ⟨b0, 0, none⟩) l0.length c0, .slice (some ⟨b1, 0, none⟩) l1.length c1, .slice (some ⟨b2, 0, none⟩) l2.length c2, .slice (some ⟨b3, 0, none⟩) l3.length c3] 28) = w7 at *
    generalize w6.heap.size = Z at *
    have x0 := BX.c0; have x1 := BX.c1; have x2 := BX.c2; have x3 := BX.c3
    go_wp2_with fail
    clear x0 x1 x2 x3
    refine (l1ownp_any ⟨b0, 0, none⟩ ⟨b1, 0, none⟩ ⟨b2, 0, none⟩ ⟨b3, 0, none⟩ c0 c1 c2 c3 l0 l1 l2 l3 _ n0 n1 n2 n3 r0 r1 r2 r3).mono ?_
    rintro e w8 ⟨a0, a1, a2, a3, e0, e1, e2, e3, m1, m2, m3, m4, rfl, y0, y1, y2, y3, g1, g2, g3, g4, g5, hb⟩
    have zR := R0.lt
    replace R0 := R0.below hb R0.lt; replace L0 := L0.trans (hb.mono L0.size)
    clear hb BX
    obtain ⟨F, FO⟩ := R0.fill (.slice a0 l0.length e0) (.slice a1 l1.length e1) (.slice a2 l2.length e2) (.slice a3 l3.length e3)
    have j0' := R0.c0; have j1' := R0.c1; have j2' := R0.c2; have j3' := R0.c3
    have g0' := R0.f0; have g1' := R0.f1; have g2' := R0.f2; have g3' := R0.f3
    go_wp2
    have i0 := F.c0; have i1 := F.c1; have i2 := F.c2; have i3 := F.c3
    have hfs := FO.size
    refine bodyPost_ret (v := .tuple #[.agg #[.slice a0 l0.length e0, .slice a1 l1.length e1, .slice a2 l2.length e2, .slice a3 l3.length e3], .int .i64 iv, .bool true]) ?_ rfl ⟨a0, a1, a2, a3, e0, e1, e2, e3, by rw [HE.out, HI.out, HL2.out, HL3.out]; simp only [okL, if_true, EL2, EL3], ?_, ?_⟩
    · simp [results, Try.results104, go_sem, i0, i1, i2, i3]
    · rw [HE.out, HL2.out, HL3.out]
      simp only [okL, if_true, EL2, EL3]
      exact ⟨(y0.row.out FO (.inr (by omega))).mono (by omega) (by omega), (y1.row.out FO (.inr (by omega))).mono (by omega) (by omega), (y2.row.out FO (.inr (by omega))).mono (by omega) (by omega), (y3.row.out FO (.inr (by omega))).mono (by omega) (by omega)⟩
    · exact L0.trans (FO.below (by omega) L0.size)

  · have hj := exJ_none (l3 := l3) h1 h2
    have al : Below w6.heap.size w6 (w6.alloc (.cells #[.slice (some ⟨b0, 0, none⟩) l0.length c0, .slice (some ⟨b1, 0, none⟩) l1.length c1, .slice (some ⟨b2, 0, none⟩) l2.length c2, .slice (some ⟨b3, 0, none⟩) l3.length c3] 28)) := (Below.refl _ _).alloc (Nat.le_refl _) _
    have zz : w.heap.size + 1 < w6.heap.size := Nat.lt_of_lt_of_le R0.lt hb.size
    replace R0 := (R0.below hb R0.lt).below al zz; replace L0 := (L0.trans (hb.mono L0.size)).trans (al.mono (Nat.le_trans L0.size hb.size))
    clear hb hb' al o0' o1' o2' o3'
    go_upto_region 7 with fail
    generalize w6.alloc (.cells #[.slice (some ⟨b0, 0, none⟩) l0.length c0, .slice (some ⟨b1, 0, none⟩) l1.length c1, .slice (some ⟨b2, 0, none⟩) l2.length c2, .slice (some ⟨b3, 0, none⟩) l3.length c3] 28) = w7 at *
    have HE : Hid ((exB l0 l1 l2 l3 (t : Int)) = false) := by show (exB l0 l1 l2 l3 (t : Int)) = false; unfold exB; rw [hj]; simp
    have HI : Hid (exI l0 l1 l2 l3 (t : Int) = -1) := by show exI l0 l1 l2 l3 (t : Int) = -1; unfold exI; rw [HE.out]; rfl
    obtain ⟨F, FO⟩ := R0.fill (.slice none 0 0) (.slice none 0 0) (.slice none 0 0) (.slice none 0 0)
    have j0' := R0.c0; have j1' := R0.c1; have j2' := R0.c2; have j3' := R0.c3
    have g0 := R0.f0; have g1 := R0.f1; have g2 := R0.f2; have g3 := R0.f3
    go_wp2
    have i0 := F.c0; have i1 := F.c1; have i2 := F.c2; have i3 := F.c3
    refine bodyPost_ret (v := .tuple #[.agg #[.slice none 0 0, .slice none 0 0, .slice none 0 0, .slice none 0 0], .int .i64 (-1), .bool false]) ?_ rfl ⟨none, none, none, none, 0, 0, 0, 0, by rw [HE.out, HI.out]; rfl, ?_, ?_⟩
    · simp [results, Try.results104, go_sem, i0, i1, i2, i3]
    · rw [HE.out]; exact Seen.none _ _ _
    · exact L0.trans (FO.below (by omega) L0.size)

  · have hj := exJ_seg (l2 := l2) h1 h2
    have hjn : ¬ (exJ l0 l2 l3 (t : Int) < (l2.length : Int)) := by rw [hj]; omega
    have hjk : (exJ l0 l2 l3 (t : Int) - (l2.length : Int)).toNat = k := by rw [hj]; omega
    have HE : Hid (exB l0 l1 l2 l3 (t : Int) = true) := by
      show exB l0 l1 l2 l3 (t : Int) = true
      unfold exB
      rw [HA.out, HX.out, HOP.out, HCO.out, decide_eq_false hjn, decide_eq_true hy1, decide_eq_true hy2, decide_eq_true (by rw [hj]; omega)]
      rfl
    have HI : Hid (exI l0 l1 l2 l3 (t : Int) = (l2.length : Int)) := by show exI _ _ _ _ _ = _; unfold exI; rw [HE.out, if_pos rfl, if_neg hjn]
    have HL2 : Hid (exL2 l0 l1 l2 l3 (t : Int) = unfC l2 (l3.getD k (0, 0)) (freshF (usedV l0 l1 l2 l3))) := by show exL2 _ _ _ _ _ = _; unfold exL2; rw [if_neg hjn, hjk]
    have HL3 : Hid (exL3 l0 l1 l2 l3 (t : Int) = unfS l3 k (l3.getD k (0, 0)) (freshF (usedV l0 l1 l2 l3))) := by show exL3 _ _ _ _ _ = _; unfold exL3; rw [if_neg hjn, hjk]
    have E2 : (unfC l2 (l3.getD k (0, 0)) (freshF (usedV l0 l1 l2 l3))).length = l2.length + 1 := by simp [unfC]
    have E3 : (unfS l3 k (l3.getD k (0, 0)) (freshF (usedV l0 l1 l2 l3))).length = (k + (l3.length - (k + 1)) + 1) := by simp [unfS]; omega
    clear h1 h2 hy1 hj hjn hjk o0' o1' o2' o3'
    rw [← E2, ← E3] at T ⊢
    have N2 : (unfC l2 (l3.getD k (0, 0)) (freshF (usedV l0 l1 l2 l3))).length ≤ 1048576 := by omega
    have N3 : (unfS l3 k (l3.getD k (0, 0)) (freshF (usedV l0 l1 l2 l3))).length ≤ 1048576 := by omega
    clear E2 E3
    generalize unfC l2 (l3.getD k (0, 0)) (freshF (usedV l0 l1 l2 l3)) = U2 at *
    generalize unfS l3 k (l3.getD k (0, 0)) (freshF (usedV l0 l1 l2 l3)) = U3 at *
    have EL2 : U2.length = U2.length := rfl
    have EL3 : U3.length = U3.length := rfl
    obtain ⟨p0, rfl⟩ := Option.ne_none_iff_exists'.1 np0
    obtain ⟨p1, rfl⟩ := Option.ne_none_iff_exists'.1 np1
    obtain ⟨p2, rfl⟩ := Option.ne_none_iff_exists'.1 np2
    obtain ⟨p3, rfl⟩ := Option.ne_none_iff_exists'.1 np3
    have al : Below w6.heap.size w6 (w6.alloc (.cells #[.slice (some p0) l0.length q0, .slice (some p1) l1.length q1, .slice (some p2) U2.length q2, .slice (some p3) U3.length q3] 28)) := (Below.refl _ _).alloc (Nat.le_refl _) _
    have zz : w.heap.size + 1 < w6.heap.size := Nat.lt_of_lt_of_le R0.lt hb.size
    replace R0 := (R0.below hb R0.lt).below al zz; replace L0 := (L0.trans (hb.mono L0.size)).trans (al.mono (Nat.le_trans L0.size hb.size))
    have BX := Box.new w6 (.slice (some p0) l0.length q0) (.slice (some p1) l1.length q1) (.slice (some p2) U2.length q2) (.slice (some p3) U3.length q3) 28
    have r0 := T.1.row.below al (Nat.le_refl _); have r1 := T.2.1.row.below al (Nat.le_refl _); have r2 := T.2.2.1.row.below al (Nat.le_refl _); have r3 := T.2.2.2.row.below al (Nat.le_refl _)
    have zs := al.size
    clear hb hb' al T np0 np1 np2 np3
    go_upto_region 7 with fail
    generalize w6.alloc (.cells #[.slice (some p0) l0.length q0, .slice (some p1) l1.length q1, .slice (some p2) U2.length q2, .slice (some p3) U3.length q3] 28) = w7 at *
    generalize w6.heap.size = Z at *
    have x0 := BX.c0; have x1 := BX.c1; have x2 := BX.c2; have x3 := BX.c3
    go_wp2_with fail
    clear x0 x1 x2 x3
    refine (l1ownp_any p0 p1 p2 p3 q0 q1 q2 q3 l0 l1 U2 U3 _ n0 n1 N2 N3 r0 r1 r2 r3).mono ?_
    rintro e w8 ⟨a0, a1, a2, a3, e0, e1, e2, e3, m1, m2, m3, m4, rfl, y0, y1, y2, y3, g1, g2, g3, g4, g5, hb⟩
    have zR := R0.lt
    replace R0 := R0.below hb R0.lt; replace L0 := L0.trans (hb.mono L0.size)
    clear hb BX
    obtain ⟨F, FO⟩ := R0.fill (.slice a0 l0.length e0) (.slice a1 l1.length e1) (.slice a2 U2.length e2) (.slice a3 U3.length e3)
    have j0' := R0.c0; have j1' := R0.c1; have j2' := R0.c2; have j3' := R0.c3
    have g0' := R0.f0; have g1' := R0.f1; have g2' := R0.f2; have g3' := R0.f3
    go_wp2
    have i0 := F.c0; have i1 := F.c1; have i2 := F.c2; have i3 := F.c3
    have hfs := FO.size
    refine bodyPost_ret (v := .tuple #[.agg #[.slice a0 l0.length e0, .slice a1 l1.length e1, .slice a2 U2.length e2, .slice a3 U3.length e3], .int .i64 (l2.length : Int), .bool true]) ?_ rfl ⟨a0, a1, a2, a3, e0, e1, e2, e3, by rw [HE.out, HI.out, HL2.out, HL3.out]; simp only [okL, if_true, EL2, EL3], ?_, ?_⟩
    · simp [results, Try.results104, go_sem, i0, i1, i2, i3]
    · rw [HE.out, HL2.out, HL3.out]
      simp only [okL, if_true, EL2, EL3]
      exact ⟨(y0.row.out FO (.inr (by omega))).mono (by omega) (by omega), (y1.row.out FO (.inr (by omega))).mono (by omega) (by omega), (y2.row.out FO (.inr (by omega))).mono (by omega) (by omega), (y3.row.out FO (.inr (by omega))).mono (by omega) (by omega)⟩
    · exact L0.trans (FO.below (by omega) L0.size)

  · have hj := exJ_seg (l2 := l2) h1 h2
    have hjn : Hid (decide (exJ l0 l2 l3 (t : Int) < (l2.length : Int)) = false) := decide_eq_false (by rw [hj]; omega)
    have HY' : Hid ((decide (0 ≤ freshF (usedV l0 l1 l2 l3)) && decide (l2.length + l3.length < 6)) = false) := by show (_ && _) = false; simp only [Bool.and_eq_false_iff, decide_eq_false_iff_not]; omega
    have al : Below w6.heap.size w6 (w6.alloc (.cells #[.slice (some ⟨b0, 0, none⟩) l0.length c0, .slice (some ⟨b1, 0, none⟩) l1.length c1, .slice (some ⟨b2, 0, none⟩) l2.length c2, .slice (some ⟨b3, 0, none⟩) l3.length c3] 28)) := (Below.refl _ _).alloc (Nat.le_refl _) _
    have zz : w.heap.size + 1 < w6.heap.size := Nat.lt_of_lt_of_le R0.lt hb.size
    replace R0 := (R0.below hb R0.lt).below al zz; replace L0 := (L0.trans (hb.mono L0.size)).trans (al.mono (Nat.le_trans L0.size hb.size))
    clear hb hb' al o0' o1' o2' o3' hy
    go_upto_region 7 with fail
    generalize w6.alloc (.cells #[.slice (some ⟨b0, 0, none⟩) l0.length c0, .slice (some ⟨b1, 0, none⟩) l1.length c1, .slice (some ⟨b2, 0, none⟩) l2.length c2, .slice (some ⟨b3, 0, none⟩) l3.length c3] 28) = w7 at *
    have HE : Hid ((exB l0 l1 l2 l3 (t : Int)) = false) := by show (exB l0 l1 l2 l3 (t : Int)) = false; unfold exB; rw [HY'.out, hjn.out]; simp
    have HI : Hid (exI l0 l1 l2 l3 (t : Int) = -1) := by show exI l0 l1 l2 l3 (t : Int) = -1; unfold exI; rw [HE.out]; rfl
    obtain ⟨F, FO⟩ := R0.fill (.slice none 0 0) (.slice none 0 0) (.slice none 0 0) (.slice none 0 0)
    have j0' := R0.c0; have j1' := R0.c1; have j2' := R0.c2; have j3' := R0.c3
    have g0 := R0.f0; have g1 := R0.f1; have g2 := R0.f2; have g3 := R0.f3
    go_wp2
    have i0 := F.c0; have i1 := F.c1; have i2 := F.c2; have i3 := F.c3
    refine bodyPost_ret (v := .tuple #[.agg #[.slice none 0 0, .slice none 0 0, .slice none 0 0, .slice none 0 0], .int .i64 (-1), .bool false]) ?_ rfl ⟨none, none, none, none, 0, 0, 0, 0, by rw [HE.out, HI.out]; rfl, ?_, ?_⟩
    · simp [results, Try.results104, go_sem, i0, i1, i2, i3]
    · rw [HE.out]; exact Seen.none _ _ _
    · exact L0.trans (FO.below (by omega) L0.size)


end Go.Proofs.Ytldhbooginlcpaa
