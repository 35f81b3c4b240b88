/-
  The contract of spec.Unfold.
-/
import Derived.Test.YtldhbooginlcpaaUu
import Derived.Test.YtldhbooginlcpaaSo
import Derived.Test.YtldhbooginlcpaaWd
namespace Go.Proofs.Ytldhbooginlcpaa
open Go.RowKit
set_option linter.unusedVariables false

def unfB (l0 l1 l2 l3 : List (Int × Int)) (i : Int) : Bool := asnB l0 l1 l2 l3 && decide (0 ≤ i ∧ i < (l3.length : Int)) && openV (clsV l0) l1 [l3.getD i.toNat (0, 0)] && decide (0 ≤ freshF (usedV l0 l1 l2 l3)) && decide (l2.length + l3.length < 6)
/-- l[i:i+1] -/
theorem cut_one (b n c i : Nat) (hi : i < n) (hn : n ≤ c) (w : World) : (Instr.slice 26 (.slice (some ⟨b, 0, none⟩) n c) (some (.int .i64 i)) (some (.int .i64 ((i : Int) + 1))) none).run Try.prog w = .ok (.slice (some ⟨b, i * 2, none⟩) 1 (c - i)) w := by
  have h0 : (0 : Int) ≤ i := by omega
  have h1 : (i : Int) ≤ (i : Int) + 1 := by omega
  have h2 : ((i : Int) + 1) ≤ c := by omega
  rw [run_slice_lh (P := Try.prog) (w := w) 26 (some ⟨b, 0, none⟩) n c (by kernel_rfl) .i64 .i64 i ((i : Int) + 1) h0 h1 h2]
  have e : ¬ c = i := by omega
  simp [sliced, go_sem, addr_add, e]
theorem one_row {w : World} {b i n : Nat} {l : List (Int × Int)} (h : Own w b n l n) (hn : n = l.length) (hi : i < l.length) : PRow w (some ⟨b, i * 2, none⟩) [l.getD i (0, 0)] := by
  subst hn
  refine .inr ⟨b, i * 2, rfl, h.1, fun j hj => ?_⟩
  obtain rfl : j = 0 := by simpa using hj
  simpa using h.2.2 i hi
theorem toks_one {l : List (Int × Int)} (h : toks l = true) {i : Nat} (hi : i < l.length) : toks [l.getD i (0, 0)] = true := by
  unfold toks at h ⊢
  rw [List.all_eq_true] at h
  simp only [List.all_cons, List.all_nil, Bool.and_true]
  exact h _ (by rw [List.getD_eq_getElem?_getD, List.getElem?_eq_getElem hi]; exact List.getElem_mem hi)

abbrev US (w2 : World) (A : Nat) (v0 v1 v3 : Value) (W : World) : Prop := Below w2.heap.size w2 W ∧ W.cell? ⟨A, 0, none⟩ = some v0 ∧ W.cell? ⟨A, 1, none⟩ = some v1 ∧ W.cell? ⟨A, 3, none⟩ = some v3
theorem us_keep {w2 W u : World} {A : Nat} {v0 v1 v3 : Value} (hz : A < w2.heap.size) (h : US w2 A v0 v1 v3 W) (hb : Below W.heap.size W u) : US w2 A v0 v1 v3 u := by
  obtain ⟨h1, c0, c1, c3⟩ := h
  have e : ∀ o, u.cell? ⟨A, o, none⟩ = W.cell? ⟨A, o, none⟩ := fun o => hb.cell (p := ⟨A, o, none⟩) (by show A < W.heap.size; have := h1.size; omega)
  exact ⟨h1.trans (hb.mono h1.size), (e _).trans c0, (e _).trans c1, (e _).trans c3⟩
theorem us_al {w2 W : World} {A : Nat} {v0 v1 v3 : Value} (hz : A < w2.heap.size) (o : Obj) (h : US w2 A v0 v1 v3 W) : US w2 A v0 v1 v3 (W.alloc o) := us_keep hz h ((Below.refl _ _).alloc (Nat.le_refl _) o)
theorem us_ad {w2 W : World} {A : Nat} {v0 v1 v3 : Value} (hz : A < w2.heap.size) (h : US w2 A v0 v1 v3 W) : US w2 A v0 v1 v3 W.drew := us_keep hz h (Below.refl _ _).drew

set_option maxRecDepth 20000 in
set_option maxHeartbeats 4000000 in
theorem sUnfold_any (b0 b1 b2 b3 c0 c1 c2 c3 : Nat) (l0 l1 l2 l3 : List (Int × Int)) (i : Int) (w : World) (n0 : l0.length ≤ 1048576) (n1 : l1.length ≤ 1048576) (n2 : l2.length ≤ 1048576) (n3 : l3.length ≤ 1048576) (o0 : Own w b0 l0.length l0 l0.length) (o1 : Own w b1 l1.length l1 l1.length) (o2 : Own w b2 l2.length l2 l2.length) (o3 : Own w b3 l3.length l3 l3.length) (z3 : l3.length ≤ c3) :
    Calls Try.prog 83 #[.agg #[.slice (some ⟨b0, 0, none⟩) l0.length c0, .slice (some ⟨b1, 0, none⟩) l1.length c1, .slice (some ⟨b2, 0, none⟩) l2.length c2, .slice (some ⟨b3, 0, none⟩) l3.length c3], .int .i64 i] w fun e w' => ∃ p0 p1 p2 p3 q0 q1 q2 q3, e = .returned (.tuple #[.agg #[.slice p0 (okL (unfB l0 l1 l2 l3 i) l0).length q0, .slice p1 (okL (unfB l0 l1 l2 l3 i) l1).length q1, .slice p2 (okL (unfB l0 l1 l2 l3 i) (unfC l2 (l3.getD i.toNat (0, 0)) (freshF (usedV l0 l1 l2 l3)))).length q2, .slice p3 (okL (unfB l0 l1 l2 l3 i) (unfS l3 i.toNat (l3.getD i.toNat (0, 0)) (freshF (usedV l0 l1 l2 l3)))).length q3], .bool (unfB l0 l1 l2 l3 i)]) ∧ Seen w' w.heap.size w'.heap.size p0 p1 p2 p3 (okL (unfB l0 l1 l2 l3 i) l0).length (okL (unfB l0 l1 l2 l3 i) l1).length (okL (unfB l0 l1 l2 l3 i) (unfC l2 (l3.getD i.toNat (0, 0)) (freshF (usedV l0 l1 l2 l3)))).length (okL (unfB l0 l1 l2 l3 i) (unfS l3 i.toNat (l3.getD i.toNat (0, 0)) (freshF (usedV l0 l1 l2 l3)))).length (okL (unfB l0 l1 l2 l3 i) l0) (okL (unfB l0 l1 l2 l3 i) l1) (okL (unfB l0 l1 l2 l3 i) (unfC l2 (l3.getD i.toNat (0, 0)) (freshF (usedV l0 l1 l2 l3)))) (okL (unfB l0 l1 l2 l3 i) (unfS l3 i.toNat (l3.getD i.toNat (0, 0)) (freshF (usedV l0 l1 l2 l3)))) ∧ Below w.heap.size w w' := by
  have A0 := (Box.new w (.slice (some ⟨b0, 0, none⟩) l0.length c0) (.slice (some ⟨b1, 0, none⟩) l1.length c1) (.slice (some ⟨b2, 0, none⟩) l2.length c2) (.slice (some ⟨b3, 0, none⟩) l3.length c3) 28).alloc (.cells #[.slice none 0 0, .slice none 0 0, .slice none 0 0, .slice none 0 0] 28)
  have R0 := Box.new (w.alloc (.cells #[.slice (some ⟨b0, 0, none⟩) l0.length c0, .slice (some ⟨b1, 0, none⟩) l1.length c1, .slice (some ⟨b2, 0, none⟩) l2.length c2, .slice (some ⟨b3, 0, none⟩) l3.length c3] 28)) (.slice none 0 0) (.slice none 0 0) (.slice none 0 0) (.slice none 0 0) 28
  have L0 : Below w.heap.size w ((w.alloc (.cells #[.slice (some ⟨b0, 0, none⟩) l0.length c0, .slice (some ⟨b1, 0, none⟩) l1.length c1, .slice (some ⟨b2, 0, none⟩) l2.length c2, .slice (some ⟨b3, 0, none⟩) l3.length c3] 28)).alloc (.cells #[.slice none 0 0, .slice none 0 0, .slice none 0 0, .slice none 0 0] 28)) := ((Below.refl _ _).alloc (Nat.le_refl _) _).alloc (by simp) _
  rw [World.size_alloc] at R0
  go_enter Try.func83, Try.ntmps83
  go_wp2_with fail
  refine (sAsnOk_any _ _ _ _ _ _ _ _ l0 l1 l2 l3 _ n0 n1 n2 n3 (o0.row.below L0 (Nat.le_refl _)) (o1.row.below L0 (Nat.le_refl _)) (o2.row.below L0 (Nat.le_refl _)) (o3.row.below L0 (Nat.le_refl _))).mono ?_
  rintro e w1 ⟨rfl, hb⟩
  replace A0 := A0.below hb A0.lt; replace R0 := R0.below hb R0.lt; replace L0 := L0.trans (hb.mono L0.size)
  replace o0 := o0.below (L0) o0.1; replace o1 := o1.below (L0) o1.1; replace o2 := o2.below (L0) o2.1; replace o3 := o3.below (L0) o3.1
  clear hb
  have A0c0 := A0.c0; have A0c1 := A0.c1; have A0c2 := A0.c2; have A0c3 := A0.c3
  by_cases hok : asnB l0 l1 l2 l3 = true
  rotate_left
  · replace hok : asnB l0 l1 l2 l3 = false := by simpa using hok
    rw [hok]
    have HE : Hid ((unfB l0 l1 l2 l3 i) = false) := by show (unfB l0 l1 l2 l3 i) = false; unfold unfB; rw [hok]; rfl
    obtain ⟨F, FO⟩ := R0.fill (.slice none 0 0) (.slice none 0 0) (.slice none 0 0) (.slice none 0 0)
    have j0' := R0.c0; have j1' := R0.c1; have j2' := R0.c2; have j3' := R0.c3
    have g0 := R0.f0; have g1 := R0.f1; have g2 := R0.f2; have g3 := R0.f3
    go_wp2
    have i0 := F.c0; have i1 := F.c1; have i2 := F.c2; have i3 := F.c3
    refine bodyPost_ret (v := .tuple #[.agg #[.slice none 0 0, .slice none 0 0, .slice none 0 0, .slice none 0 0], .bool false]) ?_ rfl ⟨none, none, none, none, 0, 0, 0, 0, by rw [HE.out]; rfl, ?_, ?_⟩
    · simp [results, Try.results83, go_sem, i0, i1, i2, i3]
    · rw [HE.out]; exact Seen.none _ _ _
    · exact L0.trans (FO.below (by omega) L0.size)

  have HT : Hid (asnB l0 l1 l2 l3 = true) := hok
  rw [hok]
  by_cases hi0 : i < 0
  · clear hok
    have HE : Hid ((unfB l0 l1 l2 l3 i) = false) := by show (unfB l0 l1 l2 l3 i) = false; unfold unfB; rw [decide_eq_false (p := 0 ≤ i ∧ _) (by omega)]; simp
    obtain ⟨F, FO⟩ := R0.fill (.slice none 0 0) (.slice none 0 0) (.slice none 0 0) (.slice none 0 0)
    have j0' := R0.c0; have j1' := R0.c1; have j2' := R0.c2; have j3' := R0.c3
    have g0 := R0.f0; have g1 := R0.f1; have g2 := R0.f2; have g3 := R0.f3
    go_wp2
    have i0 := F.c0; have i1 := F.c1; have i2 := F.c2; have i3 := F.c3
    refine bodyPost_ret (v := .tuple #[.agg #[.slice none 0 0, .slice none 0 0, .slice none 0 0, .slice none 0 0], .bool false]) ?_ rfl ⟨none, none, none, none, 0, 0, 0, 0, by rw [HE.out]; rfl, ?_, ?_⟩
    · simp [results, Try.results83, go_sem, i0, i1, i2, i3]
    · rw [HE.out]; exact Seen.none _ _ _
    · exact L0.trans (FO.below (by omega) L0.size)

  by_cases hi1 : (l3.length : Int) ≤ i
  · clear hok
    have HE : Hid ((unfB l0 l1 l2 l3 i) = false) := by show (unfB l0 l1 l2 l3 i) = false; unfold unfB; rw [decide_eq_false (p := 0 ≤ i ∧ _) (by omega)]; simp
    obtain ⟨F, FO⟩ := R0.fill (.slice none 0 0) (.slice none 0 0) (.slice none 0 0) (.slice none 0 0)
    have j0' := R0.c0; have j1' := R0.c1; have j2' := R0.c2; have j3' := R0.c3
    have g0 := R0.f0; have g1 := R0.f1; have g2 := R0.f2; have g3 := R0.f3
    go_wp2
    have i0 := F.c0; have i1 := F.c1; have i2 := F.c2; have i3 := F.c3
    refine bodyPost_ret (v := .tuple #[.agg #[.slice none 0 0, .slice none 0 0, .slice none 0 0, .slice none 0 0], .bool false]) ?_ rfl ⟨none, none, none, none, 0, 0, 0, 0, by rw [HE.out]; rfl, ?_, ?_⟩
    · simp [results, Try.results83, go_sem, i0, i1, i2, i3]
    · rw [HE.out]; exact Seen.none _ _ _
    · exact L0.trans (FO.below (by omega) L0.size)

  obtain ⟨k, rfl⟩ := Int.eq_ofNat_of_zero_le (show 0 ≤ i by omega)
  have hk : k < l3.length := by omega
  obtain ⟨t0, t1, t2, t3⟩ := asnB_toks hok
  clear hok
  go_wp2_with fail
  clear A0c0 A0c1 A0c2 A0c3
  refine (l3classes_any _ _ _ _ _ _ _ _ l0 l1 l2 l3 _ n0 t0 o0.row).mono ?_
  rintro e w2 ⟨bR, cR, rfl, hzR, CO, hb⟩
  replace A0 := A0.below hb A0.lt; replace R0 := R0.below hb R0.lt; replace L0 := L0.trans (hb.mono L0.size)
  replace o0 := o0.below (hb) o0.1; replace o1 := o1.below (hb) o1.1; replace o2 := o2.below (hb) o2.1; replace o3 := o3.below (hb) o3.1
  clear hb
  have A0c0 := A0.c0; have A0c1 := A0.c1; have A0c3 := A0.c3
  have zA := A0.lt
  have hx : ∀ w : World, (Instr.slice 26 (.slice (some ⟨b3, 0, none⟩) l3.length c3) (some (.int .i64 k)) (some (.int .i64 ((k : Int) + 1))) none).run Try.prog w = .ok (.slice (some ⟨b3, k * 2, none⟩) 1 (c3 - k)) w := fun w => cut_one _ _ _ _ hk z3 w
  have hwr : IntKind.i64.wrap ((k : Int) + 1) = (k : Int) + 1 := by rw [IntKind.wrap_i64]; omega
  have HC := Cls.all t0
  go_upto_region 4 with fail
  go_cut [7] (fun v7 wz => v7 = .pointer (some ⟨w2.heap.size, 0, none⟩) ∧ Box wz w2.heap.size (.slice (some ⟨b0, 0, none⟩) l0.length c0) (.slice (some ⟨b1, 0, none⟩) l1.length c1) (.slice none 0 0) (.slice (some ⟨b3, k * 2, none⟩) 1 (c3 - k)) ∧ Below w2.heap.size w2 wz)
  case first =>
    have hS1 : US w2 w.heap.size (.slice (some ⟨b0, 0, none⟩) l0.length c0) (.slice (some ⟨b1, 0, none⟩) l1.length c1) (.slice (some ⟨b3, 0, none⟩) l3.length c3) w2 := ⟨Below.refl _ _, A0c0, A0c1, A0c3⟩
    have hS0 := us_ad zA hS1
    clear A0c0 A0c1 A0c3
    go_region_held3 (fun W => Below w2.heap.size w2 W ∧ W.cell? ⟨w.heap.size, 0, none⟩ = some (.slice (some ⟨b0, 0, none⟩) l0.length c0) ∧ W.cell? ⟨w.heap.size, 1, none⟩ = some (.slice (some ⟨b1, 0, none⟩) l1.length c1) ∧ W.cell? ⟨w.heap.size, 3, none⟩ = some (.slice (some ⟨b3, 0, none⟩) l3.length c3))
      (first | exact hS0 | exact hS1 | assumption | exact us_al zA _ hS0 | exact us_al zA _ hS1 | exact us_ad zA (us_al zA _ hS1) | (refine ⟨?_, ?_, ?_, ?_⟩ <;> assumption))
      (fail)
    all_goals
      go_wp2_with fail
      go_meet
      first
        | exact ⟨rfl, Box.new _ _ _ _ _ _, ((Below.refl _ _).drew).alloc (by simp) _⟩
        | exact ⟨rfl, (Box.new _ _ _ _ _ _).drew, ((Below.refl _ _).alloc (Nat.le_refl _) _).drew⟩
        | exact ⟨rfl, Box.new _ _ _ _ _ _, ((Below.refl _ _).alloc (Nat.le_refl _) _)⟩
  case rest =>
    obtain ⟨rfl, BX, hb⟩ := hcut
    rename World => w4
    clear A0c0 A0c1 A0c3
    replace CO := CO.below hb CO.1
    replace A0 := A0.below hb A0.lt; replace R0 := R0.below hb R0.lt; replace L0 := L0.trans (hb.mono L0.size)
    replace o0 := o0.below (hb) o0.1; replace o1 := o1.below (hb) o1.1; replace o2 := o2.below (hb) o2.1; replace o3 := o3.below (hb) o3.1
    have zB := hb.size
    have BXl := BX.lt
    clear hb
    generalize w2.heap.size = ZB at *
    have bx0 := BX.c0; have bx1 := BX.c1; have bx2 := BX.c2; have bx3 := BX.c3
    go_wp2_with fail
    clear bx0 bx1 bx2 bx3 BX
    refine (l3opened_any (some ⟨b0, 0, none⟩) (some ⟨b1, 0, none⟩) none (some ⟨b3, k * 2, none⟩) c0 c1 0 (c3 - k) l0 l1 [] [l3.getD k (0, 0)] bR cR (clsV l0) HC _ n1 (by simp) t1 (toks_one t3 hk) o1.row (one_row o3 rfl hk) CO).mono ?_
    rintro e w5 ⟨rfl, hb⟩
    replace A0 := A0.below hb A0.lt; replace R0 := R0.below hb R0.lt; replace L0 := L0.trans (hb.mono L0.size)
    replace o0 := o0.below (hb) o0.1; replace o1 := o1.below (hb) o1.1; replace o2 := o2.below (hb) o2.1; replace o3 := o3.below (hb) o3.1
    clear hb CO
    by_cases hop : openV (clsV l0) l1 [l3.getD k (0, 0)] = true
    rotate_left
    · replace hop : openV (clsV l0) l1 [l3.getD k (0, 0)] = false := by simpa using hop
      rw [hop]
      have HE : Hid ((unfB l0 l1 l2 l3 (k : Int)) = false) := by show (unfB l0 l1 l2 l3 (k : Int)) = false; unfold unfB; rw [Int.toNat_natCast, hop]; simp
      obtain ⟨F, FO⟩ := R0.fill (.slice none 0 0) (.slice none 0 0) (.slice none 0 0) (.slice none 0 0)
      have j0' := R0.c0; have j1' := R0.c1; have j2' := R0.c2; have j3' := R0.c3
      have g0 := R0.f0; have g1 := R0.f1; have g2 := R0.f2; have g3 := R0.f3
      go_wp2
      have i0 := F.c0; have i1 := F.c1; have i2 := F.c2; have i3 := F.c3
      refine bodyPost_ret (v := .tuple #[.agg #[.slice none 0 0, .slice none 0 0, .slice none 0 0, .slice none 0 0], .bool false]) ?_ rfl ⟨none, none, none, none, 0, 0, 0, 0, by rw [HE.out]; rfl, ?_, ?_⟩
      · simp [results, Try.results83, go_sem, i0, i1, i2, i3]
      · rw [HE.out]; exact Seen.none _ _ _
      · exact L0.trans (FO.below (by omega) L0.size)

    rw [hop]
    have HOP : Hid (openV (clsV l0) l1 [l3.getD k (0, 0)] = true) := hop
    clear hop
    have A0c0 := A0.c0; have A0c1 := A0.c1; have A0c2 := A0.c2; have A0c3 := A0.c3
    by_cases hy : 0 ≤ freshF (usedV l0 l1 l2 l3) ∧ l2.length + l3.length < 6
    · obtain ⟨hf, hr⟩ := hy
      have HE : Hid (unfB l0 l1 l2 l3 (k : Int) = true) := by show unfB l0 l1 l2 l3 (k : Int) = true; unfold unfB; rw [Int.toNat_natCast, HT.out, HOP.out, decide_eq_true hf, decide_eq_true hr, decide_eq_true (by omega)]; rfl
      go_wp2_with fail
      clear A0c0 A0c1 A0c2 A0c3
      refine (l4unfold_yes b0 b1 b2 b3 c0 c1 c2 c3 l0 l1 l2 l3 k _ n0 n1 n2 n3 o0 o1 o2 o3 z3 HT.out hk hf hr).mono ?_
      rintro e w6 ⟨p0, p1, p2, p3, q0, q1, q2, q3, rfl, T, hb⟩
      have al : Below w6.heap.size w6 (w6.alloc (.cells #[.slice p0 l0.length q0, .slice p1 l1.length q1, .slice p2 (l2.length + 1) q2, .slice p3 (k + (l3.length - (k + 1)) + 1) q3] 28)) := (Below.refl _ _).alloc (Nat.le_refl _) _
      have BX := Box.new w6 (.slice p0 l0.length q0) (.slice p1 l1.length q1) (.slice p2 (l2.length + 1) q2) (.slice p3 (k + (l3.length - (k + 1)) + 1) q3) 28
      have zr := R0.lt
      replace R0 := (R0.below hb R0.lt).below al (Nat.lt_of_lt_of_le R0.lt hb.size); replace L0 := (L0.trans (hb.mono L0.size)).trans (al.mono (Nat.le_trans L0.size hb.size))
      replace T := (T.below al (Nat.le_refl _))
      have s6 := hb.size
      have s7 := al.size
      have T2 := T.mono (show w.heap.size + 2 ≤ w5.heap.size by omega) (Nat.le_refl _)
      clear hb al A0 T
      go_upto_region 8 with fail
      generalize w6.alloc (.cells #[.slice p0 l0.length q0, .slice p1 l1.length q1, .slice p2 (l2.length + 1) q2, .slice p3 (k + (l3.length - (k + 1)) + 1) q3] 28) = w7 at *
      have bx0 := BX.c0; have bx1 := BX.c1; have bx2 := BX.c2; have bx3 := BX.c3
      obtain ⟨F, FO⟩ := R0.fill (.slice p0 l0.length q0) (.slice p1 l1.length q1) (.slice p2 (l2.length + 1) q2) (.slice p3 (k + (l3.length - (k + 1)) + 1) q3)
      have j0' := R0.c0; have j1' := R0.c1; have j2' := R0.c2; have j3' := R0.c3
      have g0 := R0.f0; have g1 := R0.f1; have g2 := R0.f2; have g3 := R0.f3
      have zz : w.heap.size + 1 < w6.heap.size := by omega
      go_wp2
      have i0 := F.c0; have i1 := F.c1; have i2 := F.c2; have i3 := F.c3
      have EL2 : (unfC l2 (l3.getD k (0, 0)) (freshF (usedV l0 l1 l2 l3))).length = l2.length + 1 := by simp [unfC]
      have EL3 : (unfS l3 k (l3.getD k (0, 0)) (freshF (usedV l0 l1 l2 l3))).length = k + (l3.length - (k + 1)) + 1 := by simp [unfS]; omega
      refine bodyPost_ret (v := .tuple #[.agg #[.slice p0 l0.length q0, .slice p1 l1.length q1, .slice p2 (l2.length + 1) q2, .slice p3 (k + (l3.length - (k + 1)) + 1) q3], .bool true]) ?_ rfl ⟨p0, p1, p2, p3, q0, q1, q2, q3, by rw [HE.out, Int.toNat_natCast]; simp only [okL, if_true, EL2, EL3], ?_, ?_⟩
      · simp [results, Try.results83, go_sem, i0, i1, i2, i3]
      · rw [HE.out, Int.toNat_natCast]
        simp only [okL, if_true, EL2, EL3]
        exact (T2.out FO (.inr (Nat.le_refl _))).mono (by omega) (Nat.le_trans s7 FO.size)
      · exact L0.trans (FO.below (by omega) L0.size)
    · have hno : freshF (usedV l0 l1 l2 l3) < 0 ∨ 6 ≤ l2.length + l3.length := by omega
      have HN : Hid (¬ (0 ≤ freshF (usedV l0 l1 l2 l3) ∧ l2.length + l3.length < 6)) := hy
      clear hy
      go_wp2_with fail
      clear A0c0 A0c1 A0c2 A0c3
      refine (l4unfold_no b0 b1 b2 b3 c0 c1 c2 c3 l0 l1 l2 l3 k _ n0 n1 n2 n3 o0 o1 o2 o3 HT.out hno).mono ?_
      rintro e w6 ⟨rfl, hb⟩
      have al : Below w6.heap.size w6 (w6.alloc (.cells #[.slice (some ⟨b0, 0, none⟩) l0.length c0, .slice (some ⟨b1, 0, none⟩) l1.length c1, .slice (some ⟨b2, 0, none⟩) l2.length c2, .slice (some ⟨b3, 0, none⟩) l3.length c3] 28)) := (Below.refl _ _).alloc (Nat.le_refl _) _
      have zz : w.heap.size + 1 < w6.heap.size := Nat.lt_of_lt_of_le R0.lt hb.size
      replace R0 := (R0.below hb R0.lt).below al zz; replace L0 := (L0.trans (hb.mono L0.size)).trans (al.mono (Nat.le_trans L0.size hb.size))
      clear hb al A0 hno
      go_upto_region 8 with fail
      generalize w6.alloc (.cells #[.slice (some ⟨b0, 0, none⟩) l0.length c0, .slice (some ⟨b1, 0, none⟩) l1.length c1, .slice (some ⟨b2, 0, none⟩) l2.length c2, .slice (some ⟨b3, 0, none⟩) l3.length c3] 28) = w7 at *
      have HE : Hid ((unfB l0 l1 l2 l3 (k : Int)) = false) := by show (unfB l0 l1 l2 l3 (k : Int)) = false; unfold unfB; have h := HN.out; simp only [Bool.and_eq_false_iff, decide_eq_false_iff_not]; omega
      obtain ⟨F, FO⟩ := R0.fill (.slice none 0 0) (.slice none 0 0) (.slice none 0 0) (.slice none 0 0)
      have j0' := R0.c0; have j1' := R0.c1; have j2' := R0.c2; have j3' := R0.c3
      have g0 := R0.f0; have g1 := R0.f1; have g2 := R0.f2; have g3 := R0.f3
      go_wp2
      have i0 := F.c0; have i1 := F.c1; have i2 := F.c2; have i3 := F.c3
      refine bodyPost_ret (v := .tuple #[.agg #[.slice none 0 0, .slice none 0 0, .slice none 0 0, .slice none 0 0], .bool false]) ?_ rfl ⟨none, none, none, none, 0, 0, 0, 0, by rw [HE.out]; rfl, ?_, ?_⟩
      · simp [results, Try.results83, go_sem, i0, i1, i2, i3]
      · rw [HE.out]; exact Seen.none _ _ _
      · exact L0.trans (FO.below (by omega) L0.size)


end Go.Proofs.Ytldhbooginlcpaa
