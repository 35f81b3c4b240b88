/-
  Plain lemmas and contracts of functions for the other texts of this seat: Wtt, Uw, Used2, Tin, Fresh, Uu.
-/
import Derived.Test.YtphchdjbhbmnbaaGae
import Derived.Test.YtphchdjbhbmnbaaGah
import Derived.Test.YtphchdjbhbmnbaaGab
import Derived.Outline
import Derived.Deep.DeepCutAuto
import Derived.Deep.RegionHeld3
namespace Go.Proofs.Ytphchdjbhbmnbaa
open Go.RowKit
set_option linter.unusedVariables false

theorem kind_cap {c0 c1 c2 c3 : Nat} {l0 l1 l2 l3 : List (Int × Int)} (z0 : l0.length ≤ c0) (z1 : l1.length ≤ c1) (z2 : l2.length ≤ c2) (z3 : l3.length ≤ c3) (k : Int) : (kindL l0 l1 l2 l3 k).length ≤ kindB c0 c1 c2 c3 k := by
  unfold kindL kindB
  split
  · exact z0
  · split
    · exact z1
    · split
      · exact z2
      · exact z3

theorem jS_out {w W u : World} {lo hi : Nat} {v0 v1 v2 v3 : Value} (h : Below w.heap.size w W ∧ Own W (w.heap.size + 1) 2 [] 0 ∧ W.cell? ⟨w.heap.size, 0, none⟩ = some v0 ∧ W.cell? ⟨w.heap.size, 1, none⟩ = some v1 ∧ W.cell? ⟨w.heap.size, 2, none⟩ = some v2 ∧ W.cell? ⟨w.heap.size, 3, none⟩ = some v3) (ho : Out lo hi W u) (hl : w.heap.size + 2 ≤ lo) : Below w.heap.size w u ∧ Own u (w.heap.size + 1) 2 [] 0 ∧ u.cell? ⟨w.heap.size, 0, none⟩ = some v0 ∧ u.cell? ⟨w.heap.size, 1, none⟩ = some v1 ∧ u.cell? ⟨w.heap.size, 2, none⟩ = some v2 ∧ u.cell? ⟨w.heap.size, 3, none⟩ = some v3 := by
  obtain ⟨h0, h5, h1, h2, h3, h4⟩ := h
  have z := World.block_lt_of_cell? _ _ h1
  have e : ∀ o, u.cell? ⟨w.heap.size, o, none⟩ = W.cell? ⟨w.heap.size, o, none⟩ := fun o => World.cell?_of_block (w := W) (ho.block w.heap.size z (.inl (by omega)))
  exact ⟨h0.trans (ho.below (by omega) h0.size), h5.out ho (.inl (by omega)), by rw [e]; exact h1, by rw [e]; exact h2, by rw [e]; exact h3, by rw [e]; exact h4⟩

theorem seen2 {u0 W u1 : World} {lo hi : Nat} {a0 a1 a2 a3 : Option Addr} {n0 n1 n2 n3 : Nat} {l0 l1 l2 l3 : List (Int × Int)} (T : Seen u0 lo hi a0 a1 a2 a3 n0 n1 n2 n3 l0 l1 l2 l3) (hh : hi ≤ u0.heap.size) (h1 : Below u0.heap.size u0 W) (h2 : Below W.heap.size W u1) : Seen u1 lo hi a0 a1 a2 a3 n0 n1 n2 n3 l0 l1 l2 l3 :=
  (T.below h1 hh).below h2 (Nat.le_trans hh h1.size)

theorem pick_row {u : World} {lo hi : Nat} {ax ay : Option Addr} {nx ny : Nat} {lx ly : List (Int × Int)} (k j : Nat) (X : RowIn u lo hi ax nx lx) (Y : RowIn u lo hi ay ny ly) : RowIn u lo hi (pick k j ax ay) (pick k j nx ny) (pick k j lx ly) := by
  unfold pick; split
  · exact X
  · exact Y

theorem pick_wth (l0 l1 l2 l3 : List (Int × Int)) (k : Nat) (hk : k < 4) (i : Nat) :
    pick k 0 ((kindL l0 l1 l2 l3 k).take i ++ (kindL l0 l1 l2 l3 k).drop (i + 1)) l0 = wthL l0 (k : Int) 0 (i : Int) ∧ pick k 1 ((kindL l0 l1 l2 l3 k).take i ++ (kindL l0 l1 l2 l3 k).drop (i + 1)) l1 = wthL l1 (k : Int) 1 (i : Int) ∧ pick k 2 ((kindL l0 l1 l2 l3 k).take i ++ (kindL l0 l1 l2 l3 k).drop (i + 1)) l2 = wthL l2 (k : Int) 2 (i : Int) ∧ pick k 3 ((kindL l0 l1 l2 l3 k).take i ++ (kindL l0 l1 l2 l3 k).drop (i + 1)) l3 = wthL l3 (k : Int) 3 (i : Int) := by
  obtain rfl | rfl | rfl | rfl : k = 0 ∨ k = 1 ∨ k = 2 ∨ k = 3 := by omega
  · exact ⟨rfl, rfl, rfl, rfl⟩
  · exact ⟨rfl, rfl, rfl, rfl⟩
  · exact ⟨rfl, rfl, rfl, rfl⟩
  · exact ⟨rfl, rfl, rfl, rfl⟩

theorem pick_len (k j : Nat) (l m : List (Int × Int)) (n n' : Nat) (h1 : l.length = n) (h2 : m.length = n') : pick k j n n' = (pick k j l m).length := by
  unfold pick; split
  · exact h1.symm
  · exact h2.symm

set_option maxRecDepth 20000 in
set_option maxHeartbeats 16000000 in
theorem sWithout_any (b0 b1 b2 b3 c0 c1 c2 c3 : Nat) (l0 l1 l2 l3 : List (Int × Int)) (kind i : Int) (w : World) (n0 : l0.length ≤ 1048576) (n1 : l1.length ≤ 1048576) (n2 : l2.length ≤ 1048576) (n3 : l3.length ≤ 1048576) (o0 : Own w b0 l0.length l0 l0.length) (o1 : Own w b1 l1.length l1 l1.length) (o2 : Own w b2 l2.length l2 l2.length) (o3 : Own w b3 l3.length l3 l3.length) (z0 : l0.length ≤ c0) (z1 : l1.length ≤ c1) (z2 : l2.length ≤ c2) (z3 : l3.length ≤ c3) :
    Calls Try.prog 57 #[.agg #[.slice (some ⟨b0, 0, none⟩) l0.length c0, .slice (some ⟨b1, 0, none⟩) l1.length c1, .slice (some ⟨b2, 0, none⟩) l2.length c2, .slice (some ⟨b3, 0, none⟩) l3.length c3], .int .i64 kind, .int .i64 i] w fun e w' => ∃ p0 p1 p2 p3 q0 q1 q2 q3, e = .returned (.tuple #[.agg #[.slice p0 (okL (wthB l0 l1 l2 l3 kind i) (wthL l0 kind 0 i)).length q0, .slice p1 (okL (wthB l0 l1 l2 l3 kind i) (wthL l1 kind 1 i)).length q1, .slice p2 (okL (wthB l0 l1 l2 l3 kind i) (wthL l2 kind 2 i)).length q2, .slice p3 (okL (wthB l0 l1 l2 l3 kind i) (wthL l3 kind 3 i)).length q3], .bool (wthB l0 l1 l2 l3 kind i)]) ∧ Seen w' w.heap.size w'.heap.size p0 p1 p2 p3 (okL (wthB l0 l1 l2 l3 kind i) (wthL l0 kind 0 i)).length (okL (wthB l0 l1 l2 l3 kind i) (wthL l1 kind 1 i)).length (okL (wthB l0 l1 l2 l3 kind i) (wthL l2 kind 2 i)).length (okL (wthB l0 l1 l2 l3 kind i) (wthL l3 kind 3 i)).length (okL (wthB l0 l1 l2 l3 kind i) (wthL l0 kind 0 i)) (okL (wthB l0 l1 l2 l3 kind i) (wthL l1 kind 1 i)) (okL (wthB l0 l1 l2 l3 kind i) (wthL l2 kind 2 i)) (okL (wthB l0 l1 l2 l3 kind i) (wthL l3 kind 3 i)) ∧ Below w.heap.size w w' := by
  have A0 := (Box.new w (.slice (some ⟨b0, 0, none⟩) l0.length c0) (.slice (some ⟨b1, 0, none⟩) l1.length c1) (.slice (some ⟨b2, 0, none⟩) l2.length c2) (.slice (some ⟨b3, 0, none⟩) l3.length c3) 28).alloc (.cells #[.slice none 0 0, .slice none 0 0, .slice none 0 0, .slice none 0 0] 28)
  have R0 := Box.new (w.alloc (.cells #[.slice (some ⟨b0, 0, none⟩) l0.length c0, .slice (some ⟨b1, 0, none⟩) l1.length c1, .slice (some ⟨b2, 0, none⟩) l2.length c2, .slice (some ⟨b3, 0, none⟩) l3.length c3] 28)) (.slice none 0 0) (.slice none 0 0) (.slice none 0 0) (.slice none 0 0) 28
  rw [World.size_alloc] at R0
  have L0 : Below w.heap.size w ((w.alloc (.cells #[.slice (some ⟨b0, 0, none⟩) l0.length c0, .slice (some ⟨b1, 0, none⟩) l1.length c1, .slice (some ⟨b2, 0, none⟩) l2.length c2, .slice (some ⟨b3, 0, none⟩) l3.length c3] 28)).alloc (.cells #[.slice none 0 0, .slice none 0 0, .slice none 0 0, .slice none 0 0] 28)) := ((Below.refl _ _).alloc (Nat.le_refl _) _).alloc (by simp) _
  have HK : Hid (∀ k : Int, Own w (kindB b0 b1 b2 b3 k) (kindL l0 l1 l2 l3 k).length (kindL l0 l1 l2 l3 k) (kindL l0 l1 l2 l3 k).length ∧ (kindL l0 l1 l2 l3 k).length ≤ 1048576 ∧ (kindL l0 l1 l2 l3 k).length ≤ (kindB c0 c1 c2 c3 k)) := fun k => ⟨kind_own o0 o1 o2 o3 k, kind_le n0 n1 n2 n3 k, kind_cap z0 z1 z2 z3 k⟩
  go_enter Try.func57, Try.ntmps57
  go_wp2_with fail
  refine (sAsnOk_any _ _ _ _ _ _ _ _ _ _ _ _ _ n0 n1 n2 n3 (by exact (o0.below L0 o0.1).row) (by exact (o1.below L0 o1.1).row) (by exact (o2.below L0 o2.1).row) (by exact (o3.below L0 o3.1).row)).mono ?_
  rintro e w1 ⟨rfl, hb⟩
  replace A0 := A0.below hb A0.lt; replace R0 := R0.below hb R0.lt; replace L0 := L0.trans (hb.mono L0.size)
  clear hb
  have A0c0 := A0.c0; have A0c1 := A0.c1; have A0c2 := A0.c2; have A0c3 := A0.c3
  cases h1 : asnB l0 l1 l2 l3
  · have HE : Hid ((wthB l0 l1 l2 l3 kind i) = false) := by show (wthB l0 l1 l2 l3 kind i) = false; unfold wthB; rw [h1]; rfl
    obtain ⟨F, FO⟩ := R0.fill (.slice none 0 0) (.slice none 0 0) (.slice none 0 0) (.slice none 0 0)
    have j0' := R0.c0; have j1' := R0.c1; have j2' := R0.c2; have j3' := R0.c3
    have g0 := R0.f0; have g1 := R0.f1; have g2 := R0.f2; have g3 := R0.f3
    go_wp2
    have i0 := F.c0; have i1 := F.c1; have i2 := F.c2; have i3 := F.c3
    refine bodyPost_ret (v := .tuple #[.agg #[.slice none 0 0, .slice none 0 0, .slice none 0 0, .slice none 0 0], .bool false]) ?_ rfl ⟨none, none, none, none, 0, 0, 0, 0, by rw [HE.out]; rfl, ?_, ?_⟩
    · simp [results, Try.results57, go_sem, i0, i1, i2, i3]
    · rw [HE.out]; exact Seen.none _ _ _
    · exact L0.trans (FO.below (by omega) L0.size)
  have H1 : Hid (asnB l0 l1 l2 l3 = true) := h1
  clear h1
  by_cases kd0 : kind < 0
  · have HE : Hid ((wthB l0 l1 l2 l3 kind i) = false) := by show (wthB l0 l1 l2 l3 kind i) = false; unfold wthB; rw [decide_eq_false (p := 0 ≤ kind ∧ _) (by omega)]; simp
    obtain ⟨F, FO⟩ := R0.fill (.slice none 0 0) (.slice none 0 0) (.slice none 0 0) (.slice none 0 0)
    have j0' := R0.c0; have j1' := R0.c1; have j2' := R0.c2; have j3' := R0.c3
    have g0 := R0.f0; have g1 := R0.f1; have g2 := R0.f2; have g3 := R0.f3
    go_wp2
    have i0 := F.c0; have i1 := F.c1; have i2 := F.c2; have i3 := F.c3
    refine bodyPost_ret (v := .tuple #[.agg #[.slice none 0 0, .slice none 0 0, .slice none 0 0, .slice none 0 0], .bool false]) ?_ rfl ⟨none, none, none, none, 0, 0, 0, 0, by rw [HE.out]; rfl, ?_, ?_⟩
    · simp [results, Try.results57, go_sem, i0, i1, i2, i3]
    · rw [HE.out]; exact Seen.none _ _ _
    · exact L0.trans (FO.below (by omega) L0.size)
  by_cases kd3 : 3 < kind
  · have HE : Hid ((wthB l0 l1 l2 l3 kind i) = false) := by show (wthB l0 l1 l2 l3 kind i) = false; unfold wthB; rw [decide_eq_false (p := 0 ≤ kind ∧ _) (by omega)]; simp
    obtain ⟨F, FO⟩ := R0.fill (.slice none 0 0) (.slice none 0 0) (.slice none 0 0) (.slice none 0 0)
    have j0' := R0.c0; have j1' := R0.c1; have j2' := R0.c2; have j3' := R0.c3
    have g0 := R0.f0; have g1 := R0.f1; have g2 := R0.f2; have g3 := R0.f3
    go_wp2
    have i0 := F.c0; have i1 := F.c1; have i2 := F.c2; have i3 := F.c3
    refine bodyPost_ret (v := .tuple #[.agg #[.slice none 0 0, .slice none 0 0, .slice none 0 0, .slice none 0 0], .bool false]) ?_ rfl ⟨none, none, none, none, 0, 0, 0, 0, by rw [HE.out]; rfl, ?_, ?_⟩
    · simp [results, Try.results57, go_sem, i0, i1, i2, i3]
    · rw [HE.out]; exact Seen.none _ _ _
    · exact L0.trans (FO.below (by omega) L0.size)
  by_cases hi0 : i < 0
  · have HE : Hid ((wthB l0 l1 l2 l3 kind i) = false) := by show (wthB l0 l1 l2 l3 kind i) = false; unfold wthB; rw [decide_eq_false (p := 0 ≤ i ∧ _) (by omega)]; simp
    obtain ⟨F, FO⟩ := R0.fill (.slice none 0 0) (.slice none 0 0) (.slice none 0 0) (.slice none 0 0)
    have j0' := R0.c0; have j1' := R0.c1; have j2' := R0.c2; have j3' := R0.c3
    have g0 := R0.f0; have g1 := R0.f1; have g2 := R0.f2; have g3 := R0.f3
    go_wp2
    have i0 := F.c0; have i1 := F.c1; have i2 := F.c2; have i3 := F.c3
    refine bodyPost_ret (v := .tuple #[.agg #[.slice none 0 0, .slice none 0 0, .slice none 0 0, .slice none 0 0], .bool false]) ?_ rfl ⟨none, none, none, none, 0, 0, 0, 0, by rw [HE.out]; rfl, ?_, ?_⟩
    · simp [results, Try.results57, go_sem, i0, i1, i2, i3]
    · rw [HE.out]; exact Seen.none _ _ _
    · exact L0.trans (FO.below (by omega) L0.size)
  obtain ⟨kk, rfl⟩ := Int.eq_ofNat_of_zero_le (show 0 ≤ kind by omega)
  obtain ⟨i, rfl⟩ := Int.eq_ofNat_of_zero_le (show 0 ≤ i by omega)
  have kk4 : kk < 4 := by omega
  go_wp2_with fail
  clear A0c0 A0c1 A0c2 A0c3
  refine (kind4 _ _ _ _ _ _ _ _ _ _ _ _ kk _ kk4).mono ?_
  rintro e w2 ⟨rfl, hb⟩
  replace A0 := A0.below hb A0.lt; replace R0 := R0.below hb R0.lt; replace L0 := L0.trans (hb.mono L0.size)
  clear hb
  have A0c0 := A0.c0; have A0c1 := A0.c1; have A0c2 := A0.c2; have A0c3 := A0.c3
  by_cases hi1 : (kindL l0 l1 l2 l3 kk).length ≤ i
  · have HE : Hid ((wthB l0 l1 l2 l3 (kk : Int) (i : Int)) = false) := by show (wthB l0 l1 l2 l3 (kk : Int) (i : Int)) = false; unfold wthB; rw [decide_eq_false (p := 0 ≤ (i : Int) ∧ _) (by omega)]; simp
    obtain ⟨F, FO⟩ := R0.fill (.slice none 0 0) (.slice none 0 0) (.slice none 0 0) (.slice none 0 0)
    have j0' := R0.c0; have j1' := R0.c1; have j2' := R0.c2; have j3' := R0.c3
    have g0 := R0.f0; have g1 := R0.f1; have g2 := R0.f2; have g3 := R0.f3
    go_wp2
    have i0 := F.c0; have i1 := F.c1; have i2 := F.c2; have i3 := F.c3
    refine bodyPost_ret (v := .tuple #[.agg #[.slice none 0 0, .slice none 0 0, .slice none 0 0, .slice none 0 0], .bool false]) ?_ rfl ⟨none, none, none, none, 0, 0, 0, 0, by rw [HE.out]; rfl, ?_, ?_⟩
    · simp [results, Try.results57, go_sem, i0, i1, i2, i3]
    · rw [HE.out]; exact Seen.none _ _ _
    · exact L0.trans (FO.below (by omega) L0.size)
  have HE : Hid ((wthB l0 l1 l2 l3 (kk : Int) (i : Int)) = true) := by show (wthB l0 l1 l2 l3 (kk : Int) (i : Int)) = true; unfold wthB; rw [H1.out, decide_eq_true (by omega), decide_eq_true (by omega)]; rfl
  go_wp2_with fail
  clear A0c0 A0c1 A0c2 A0c3
  refine (kind4 _ _ _ _ _ _ _ _ _ _ _ _ kk _ kk4).mono ?_
  rintro e w3 ⟨rfl, hb⟩
  replace A0 := A0.below hb A0.lt; replace R0 := R0.below hb R0.lt; replace L0 := L0.trans (hb.mono L0.size)
  clear hb
  obtain ⟨oK, nK, zK⟩ := HK.out kk
  obtain ⟨P0, P1, P2, P3⟩ := pick_wth l0 l1 l2 l3 kk kk4 i
  have e1 : ((kindL l0 l1 l2 l3 kk).take i).length = i := by rw [List.length_take]; omega
  have e2 : ((kindL l0 l1 l2 l3 kk).drop (i + 1)).length = (kindL l0 l1 l2 l3 kk).length - (i + 1) := by rw [List.length_drop]
  have rt : PRow w (some ⟨(kindB b0 b1 b2 b3 kk), 0, none⟩) ((kindL l0 l1 l2 l3 kk).take i) := oK.row.take i
  have rd : PRow w (some (dropA (kindB b0 b1 b2 b3 kk) 0 (kindB c0 c1 c2 c3 kk) (i + 1))) ((kindL l0 l1 l2 l3 kk).drop (i + 1)) := drop_row oK.row (i + 1) zK
  have hx : ∀ w : World, (Instr.slice 26 (.slice (some ⟨(kindB b0 b1 b2 b3 kk), 0, none⟩) (kindL l0 l1 l2 l3 kk).length (kindB c0 c1 c2 c3 kk)) none (some (.int .i64 (i : Int))) none).run Try.prog w = .ok (.slice (some ⟨(kindB b0 b1 b2 b3 kk), 0, none⟩) i (kindB c0 c1 c2 c3 kk)) w := fun w => cut_hi _ _ _ _ i (by omega) w
  have hy : ∀ w : World, (Instr.slice 26 (.slice (some ⟨(kindB b0 b1 b2 b3 kk), 0, none⟩) (kindL l0 l1 l2 l3 kk).length (kindB c0 c1 c2 c3 kk)) (some (.int .i64 ((i : Int) + 1))) none none).run Try.prog w = .ok (.slice (some (dropA (kindB b0 b1 b2 b3 kk) 0 (kindB c0 c1 c2 c3 kk) (i + 1))) ((kindL l0 l1 l2 l3 kk).length - (i + 1)) ((kindB c0 c1 c2 c3 kk) - (i + 1))) w := fun w => cut_lo _ _ _ _ (i + 1) (by omega) w
  have PL0 : Hid (pick kk 0 (i + ((kindL l0 l1 l2 l3 kk).length - (i + 1))) l0.length = (wthL l0 (kk : Int) 0 (i : Int)).length) := by show pick _ _ _ _ = _; rw [← P0]; exact pick_len _ _ _ _ _ _ (by rw [List.length_append, e1, e2]) rfl
  have HP0 : Hid (pick kk 0 ((kindL l0 l1 l2 l3 kk).take i ++ (kindL l0 l1 l2 l3 kk).drop (i + 1)) l0 = wthL l0 (kk : Int) 0 (i : Int)) := P0
  have PL1 : Hid (pick kk 1 (i + ((kindL l0 l1 l2 l3 kk).length - (i + 1))) l1.length = (wthL l1 (kk : Int) 1 (i : Int)).length) := by show pick _ _ _ _ = _; rw [← P1]; exact pick_len _ _ _ _ _ _ (by rw [List.length_append, e1, e2]) rfl
  have HP1 : Hid (pick kk 1 ((kindL l0 l1 l2 l3 kk).take i ++ (kindL l0 l1 l2 l3 kk).drop (i + 1)) l1 = wthL l1 (kk : Int) 1 (i : Int)) := P1
  have PL2 : Hid (pick kk 2 (i + ((kindL l0 l1 l2 l3 kk).length - (i + 1))) l2.length = (wthL l2 (kk : Int) 2 (i : Int)).length) := by show pick _ _ _ _ = _; rw [← P2]; exact pick_len _ _ _ _ _ _ (by rw [List.length_append, e1, e2]) rfl
  have HP2 : Hid (pick kk 2 ((kindL l0 l1 l2 l3 kk).take i ++ (kindL l0 l1 l2 l3 kk).drop (i + 1)) l2 = wthL l2 (kk : Int) 2 (i : Int)) := P2
  have PL3 : Hid (pick kk 3 (i + ((kindL l0 l1 l2 l3 kk).length - (i + 1))) l3.length = (wthL l3 (kk : Int) 3 (i : Int)).length) := by show pick _ _ _ _ = _; rw [← P3]; exact pick_len _ _ _ _ _ _ (by rw [List.length_append, e1, e2]) rfl
  have HP3 : Hid (pick kk 3 ((kindL l0 l1 l2 l3 kk).take i ++ (kindL l0 l1 l2 l3 kk).drop (i + 1)) l3 = wthL l3 (kk : Int) 3 (i : Int)) := P3
  clear P0 P1 P2 P3 oK
  have hwr : IntKind.i64.wrap ((i : Int) + 1) = (i : Int) + 1 := by rw [IntKind.wrap_i64]; omega
  generalize (kindB b0 b1 b2 b3 kk) = kb at *
  generalize (kindB c0 c1 c2 c3 kk) = cc at *
  generalize hTT : (kindL l0 l1 l2 l3 kk).take i = lt at *
  generalize hDD : (kindL l0 l1 l2 l3 kk).drop (i + 1) = ld at *
  clear hTT hDD
  generalize (kindL l0 l1 l2 l3 kk).length = n at *
  generalize dropA kb 0 cc (i + 1) = ad at *
  have hS0 : Below w.heap.size w w3.drew ∧ Own w3.drew (w.heap.size + 1) 2 [] 0 ∧ w3.drew.cell? ⟨w.heap.size, 0, none⟩ = some (.slice (some ⟨b0, 0, none⟩) l0.length c0) ∧ w3.drew.cell? ⟨w.heap.size, 1, none⟩ = some (.slice (some ⟨b1, 0, none⟩) l1.length c1) ∧ w3.drew.cell? ⟨w.heap.size, 2, none⟩ = some (.slice (some ⟨b2, 0, none⟩) l2.length c2) ∧ w3.drew.cell? ⟨w.heap.size, 3, none⟩ = some (.slice (some ⟨b3, 0, none⟩) l3.length c3) := ⟨L0.drew, (box_own R0).drew, A0.c0, A0.c1, A0.c2, A0.c3⟩
  clear R0 A0 L0 HK
  go_wp2
  go_region_held3 (fun W => Below w.heap.size w W ∧ Own W (w.heap.size + 1) 2 [] 0 ∧ W.cell? ⟨w.heap.size, 0, none⟩ = some (.slice (some ⟨b0, 0, none⟩) l0.length c0) ∧ W.cell? ⟨w.heap.size, 1, none⟩ = some (.slice (some ⟨b1, 0, none⟩) l1.length c1) ∧ W.cell? ⟨w.heap.size, 2, none⟩ = some (.slice (some ⟨b2, 0, none⟩) l2.length c2) ∧ W.cell? ⟨w.heap.size, 3, none⟩ = some (.slice (some ⟨b3, 0, none⟩) l3.length c3))
    (first | exact hS0 | assumption | (refine jS_ad _ ?_; (first | assumption | (refine ⟨?_, ?_, ?_, ?_, ?_, ?_⟩ <;> assumption))) | (refine jS_alloc _ ?_; (first | assumption | (refine ⟨?_, ?_, ?_, ?_, ?_, ?_⟩ <;> assumption))) | (refine jS_store _ _ _ _ ?_; (first | assumption | (refine ⟨?_, ?_, ?_, ?_, ?_, ?_⟩ <;> assumption))) | (refine ⟨?_, ?_, ?_, ?_, ?_, ?_⟩ <;> assumption))
    (first
      | (go_at_call 150; refine (l1own_any b0 b1 b2 b3 c0 c1 c2 c3 l0 l1 l2 l3 _ n0 n1 n2 n3 (jS_own o0 (by assumption)) (jS_own o1 (by assumption)) (jS_own o2 (by assumption)) (jS_own o3 (by assumption))).mono ?_; rintro e u0 ⟨a0, a1, a2, a3, e0, e1', e2', e3', m1, m2, m3, m4, rfl, t0, t1, t2, t3, g1, g2, g3, g4, g5, h0⟩; have gp := jS_ge (by assumption); have k0 := jS_keep (by assumption) h0; have gk := jS_ge k0; have T : Seen u0 (w.heap.size + 2) u0.heap.size a0 a1 a2 a3 l0.length l1.length l2.length l3.length l0 l1 l2 l3 := ⟨t0.row.mono (by omega) (by omega), t1.row.mono (by omega) (by omega), t2.row.mono (by omega) (by omega), t3.row.mono (by omega) (by omega)⟩)
      | (refine step_freshP (by rfl) _ _ (by rfl) _ ⟨kb, 0, none⟩ i cc lt (by rfl) (by rfl) e1 (rt.below (sB (by assumption)) (Nat.le_refl _)) (by omega) ?_; rintro x1 y1 u1 d1 h1; have k1 := jS_keep (by assumption) h1; have T1 := seen2 T (Nat.le_refl _) (by (first | exact Below.refl _ _ | exact (Below.refl _ _).alloc (Nat.le_refl _) _)) h1; replace d1 := d1.mono (show u0.heap.size ≤ _ from Below.size (show Below u0.heap.size u0 _ from (by (first | exact Below.refl _ _ | exact (Below.refl _ _).alloc (Nat.le_refl _) _)))) (Nat.le_refl _); have gz : u0.heap.size ≤ u1.heap.size := Nat.le_trans (Below.size (show Below u0.heap.size u0 _ from (by (first | exact Below.refl _ _ | exact (Below.refl _ _).alloc (Nat.le_refl _) _)))) h1.size)
      | (refine step_roomP (by rfl) _ _ (by rfl) u0.heap.size u1.heap.size x1 i y1 lt (by rfl) d1 ad (n - (i + 1)) (cc - (i + 1)) ld (by rfl) e2 (rd.below (sB (by assumption)) (Nat.le_refl _)) (by omega) gz ?_; rintro x2 y2 u2 D2 h2; have k2 := jS_out k1 h2 gk; have T2 := T1.out h2 (.inl (Nat.le_refl _)); have X2 := D2.row (B := u0.heap.size) (Nat.le_refl _) gz; have gy := h2.size)
      | (go_at_call 149; refine (l1with_any _ _ _ _ _ _ _ _ _ _ _ _ _ _ _ kk kk4 _).mono ?_; rintro e u3 ⟨rfl, h3⟩; rw [PL0.out, PL1.out, PL2.out, PL3.out]; have k3 := jS_keep k2 h3; have T3 := T2.below h3 (by omega); have X3 := X2.below h3 (Nat.le_refl _); have gx := h3.size; obtain ⟨f0, hf0⟩ := (k3.2.1.2.1 0 (by omega)).1; have ff0 := (k3.2.1.2.1 0 (by omega)).2; obtain ⟨f1, hf1⟩ := (k3.2.1.2.1 1 (by omega)).1; have ff1 := (k3.2.1.2.1 1 (by omega)).2; obtain ⟨f2, hf2⟩ := (k3.2.1.2.1 2 (by omega)).1; have ff2 := (k3.2.1.2.1 2 (by omega)).2; obtain ⟨f3, hf3⟩ := (k3.2.1.2.1 3 (by omega)).1; have ff3 := (k3.2.1.2.1 3 (by omega)).2))
  all_goals
    obtain ⟨F, FO⟩ := Own.fill k3.2.1 (.slice (pick kk 0 x2 a0) (wthL l0 (kk : Int) 0 (i : Int)).length (pick kk 0 y2 e0)) (.slice (pick kk 1 x2 a1) (wthL l1 (kk : Int) 1 (i : Int)).length (pick kk 1 y2 e1')) (.slice (pick kk 2 x2 a2) (wthL l2 (kk : Int) 2 (i : Int)).length (pick kk 2 y2 e2')) (.slice (pick kk 3 x2 a3) (wthL l3 (kk : Int) 3 (i : Int)).length (pick kk 3 y2 e3'))
    have hB := k3.1
    have hy' := FO.size
    clear k0 k1 k2 k3 h0 h1 h2 h3 hS0
    go_wp2
    have i0 := F.c0; have i1 := F.c1; have i2 := F.c2; have i3 := F.c3
    refine bodyPost_ret (v := .tuple #[.agg #[.slice (pick kk 0 x2 a0) (wthL l0 (kk : Int) 0 (i : Int)).length (pick kk 0 y2 e0), .slice (pick kk 1 x2 a1) (wthL l1 (kk : Int) 1 (i : Int)).length (pick kk 1 y2 e1'), .slice (pick kk 2 x2 a2) (wthL l2 (kk : Int) 2 (i : Int)).length (pick kk 2 y2 e2'), .slice (pick kk 3 x2 a3) (wthL l3 (kk : Int) 3 (i : Int)).length (pick kk 3 y2 e3')], .bool true]) ?_ rfl ⟨pick kk 0 x2 a0, pick kk 1 x2 a1, pick kk 2 x2 a2, pick kk 3 x2 a3, pick kk 0 y2 e0, pick kk 1 y2 e1', pick kk 2 y2 e2', pick kk 3 y2 e3', by rw [HE.out]; rfl, ?_, ?_⟩
    · simp [results, Try.results57, go_sem, i0, i1, i2, i3]
    · rw [HE.out]
      replace X3 := X3.mono (show w.heap.size + 2 ≤ _ by omega) (show _ ≤ u3.heap.size by omega)
      replace T3 := T3.mono (Nat.le_refl _) (show _ ≤ u3.heap.size by omega)
      have Q0 := pick_row kk 0 X3 T3.1
      rw [PL0.out, HP0.out] at Q0
      have Q1 := pick_row kk 1 X3 T3.2.1
      rw [PL1.out, HP1.out] at Q1
      have Q2 := pick_row kk 2 X3 T3.2.2.1
      rw [PL2.out, HP2.out] at Q2
      have Q3 := pick_row kk 3 X3 T3.2.2.2
      rw [PL3.out, HP3.out] at Q3
      exact ⟨(Q0.out FO (.inr (by omega))).mono (by omega) hy', (Q1.out FO (.inr (by omega))).mono (by omega) hy', (Q2.out FO (.inr (by omega))).mono (by omega) hy', (Q3.out FO (.inr (by omega))).mono (by omega) hy'⟩
    · exact hB.trans (FO.below (by omega) hB.size)

end Go.Proofs.Ytphchdjbhbmnbaa
namespace Go.Proofs.Ytphchdjbhbmnbaa
open Go.RowKit
set_option linter.unusedVariables false

theorem step_roomR {ops : Array Oper} {o : Oper} {a : Act} {w : World} {K : Act → World → Prop} {Q : Exit → Act → World → Prop} {E : Prop}
    (hg : o.guard = none) (s x : Operand) (hop : o.op = Op.call { callee := Callee.builtin Builtin.append, args := #[s, x], argTypes := #[26, 26] })
    (lo hi : Nat) (a' : Option Addr) (n c : Nat) (l : List (Int × Int)) (hs : a.eval s = .slice a' n c) (hr : RoomIn w lo hi a' n c l)
    (p : Addr) (m d : Nat) (k : List (Int × Int)) (hx : a.eval x = .slice (some p) m d) (hk : k.length = m) (ho : PRow w (some p) k) (hn : n + m ≤ 2097152) (hlo : lo ≤ w.heap.size) (hhi : hi ≤ w.heap.size)
    (hK : ∀ a'' c'' w', RoomIn w' lo w'.heap.size a'' (n + m) c'' (l ++ k) → Out lo hi w w' → K (a.put o.dst (.slice a'' (n + m) c'')) w') :
    if Region.wanted o (yielded ops a.tmps) = true then Oper.wp Try.prog o a w K Q else E := by
  obtain ⟨i0, hi0, hz0, hz1, hz2⟩ := Try.i57
  subst hk
  have hl := hr.1
  by_cases hc : c < n + k.length
  · refine step_append_grows hg s x 26 hop 69 i0 (.agg #[.int .i64 0, .int .i64 0]) 2 16 Try.underlying26 hi0 hz0 hz1 hz2 rfl (by decide) a' n c (pc l) hs ?_ (by rw [pc_length, hl]) ?_ p k.length d (pc k) hx (pc_length k) ho.news pc_one hc (by unfold maxLen; omega) (by omega) ?_
    · obtain ⟨_, ⟨_, _, _, rfl⟩ | ⟨_, rfl, _⟩⟩ := hr <;> intro h <;> cases h
    · intro ad had j u hu
      obtain ⟨_, ⟨h0, _, _, rfl⟩ | ⟨b1, rfl, _, _, hw⟩⟩ := hr
      · have : l = [] := List.eq_nil_of_length_eq_zero (by omega)
        subst this; cases hu
      · cases had; exact hw.cells rfl j u hu
    · intro v' w' hown hgr
      rw [← pc_append] at hown
      obtain ⟨a1, c1, rfl, hR⟩ := RoomIn.ofOwns hown (by omega)
      exact hK _ _ _ (hR.mono hlo (Nat.le_refl _)) (Out.ofBelow ((Below.refl _ _).grown hgr (Nat.le_refl _) (by intro k hk; cases hk)))
  · obtain ⟨_, ⟨h0, h00, Z, rfl⟩ | ⟨b1, rfl, g1, g2, hw⟩⟩ := hr
    · have hl0 : l = [] := List.eq_nil_of_length_eq_zero (by omega)
      have hk0 : k = [] := List.eq_nil_of_length_eq_zero (by omega)
      subst hl0 hk0 h00 h0
      refine step_append_room hg s x 26 hop 69 i0 2 Try.underlying26 hi0 hz1 Z 0 0 0 hs p 0 d [] hx rfl (by intro j u h; cases h) (by intro u h; cases h) (Nat.le_refl _) (by intro j h; exact absurd h (Nat.not_lt_zero _)) ?_
      exact hK _ _ _ ⟨rfl, .inl ⟨rfl, rfl, _, rfl⟩⟩ (Out.refl _ _ _)
    · have sp : ∀ j, j < (pc k).length → (w.cell? ⟨b1, 0 + n * 2 + j, none⟩).isSome = true ∧ w.frozen? ⟨b1, 0 + n * 2 + j, none⟩ = false := fun j hj => owns_room hw _ (by rw [pc_length] at hj; omega)
      obtain ⟨v', w', hrun, r1, r2, _⟩ := run_append_own (P := Try.prog) w lo 26 o.type 69 i0 (.agg #[.int .i64 0, .int .i64 0]) 2 16 Try.underlying26 hi0 hz0 hz1 hz2 rfl (by decide) _ n (pc l) hw p k.length d (pc k) (pc_length k) ho.news pc_one (by unfold maxLen; omega) (by omega) hlo
      have hrun2 := run_append_room_cells (P := Try.prog) w 26 o.type 69 i0 Try.underlying26 hi0 b1 0 n c p k.length d (pc k) (by rw [hz1]; exact pc_length k) ho.news pc_one (by omega) (by rw [hz1]; exact fun j hj => (sp j hj).1) (by rw [hz1]; exact fun j hj => (sp j hj).2)
      rw [hrun] at hrun2
      rw [hz1] at hrun2
      injection hrun2 with e1 e2
      subst e1 e2
      rw [← pc_append] at r1
      obtain ⟨q1, q2, q3⟩ := Own.ofOwns r1
      refine step_append_room hg s x 26 hop 69 i0 2 Try.underlying26 hi0 hz1 b1 0 n c hs p k.length d (pc k) hx (pc_length k) ho.news pc_one (by omega) sp ?_
      exact hK _ _ _ ⟨q1, .inr ⟨b1, rfl, g1, Nat.lt_of_lt_of_le g2 (Nat.le_trans hhi r2.size), r1⟩⟩ ⟨r2.os, r2.tape, r2.output, r2.size, fun i hi' hr' => r2.block i hi' (by intro e; injection e with e; subst e; omega)⟩

def KB (w W : World) : Prop := Below w.heap.size w W ∧ w.heap.size ≤ W.heap.size
theorem KB.mk {w W : World} (h : Below w.heap.size w W) : Below w.heap.size w W ∧ w.heap.size ≤ W.heap.size := ⟨h, h.size⟩
theorem kb_al {w W : World} (o : Obj) (h : Below w.heap.size w W ∧ w.heap.size ≤ W.heap.size) : Below w.heap.size w (W.alloc o) ∧ w.heap.size ≤ (W.alloc o).heap.size := KB.mk (h.1.alloc h.2 o)
theorem kb_ad {w W : World} (h : Below w.heap.size w W ∧ w.heap.size ≤ W.heap.size) : Below w.heap.size w W.drew ∧ w.heap.size ≤ W.drew.heap.size := KB.mk h.1.drew
theorem kb_be {w W u : World} (h : Below w.heap.size w W ∧ w.heap.size ≤ W.heap.size) (hb : Below W.heap.size W u) : Below w.heap.size w u ∧ w.heap.size ≤ u.heap.size := KB.mk (h.1.trans (hb.mono h.2))
theorem kb_out {w W u : World} {lo hi : Nat} (h : Below w.heap.size w W ∧ w.heap.size ≤ W.heap.size) (hb : Out lo hi W u) (hl : w.heap.size ≤ lo) : Below w.heap.size w u ∧ w.heap.size ≤ u.heap.size := KB.mk (h.1.trans (hb.below hl h.2))
theorem kb_fresh {w W u : World} {a : Option Addr} {m c : Nat} {l : List (Int × Int)} (h : Below w.heap.size w W ∧ w.heap.size ≤ W.heap.size) (hb : Below W.heap.size W u) (d : RoomIn u W.heap.size u.heap.size a m c l) : (Below w.heap.size w u ∧ w.heap.size ≤ u.heap.size) ∧ RoomIn u w.heap.size u.heap.size a m c l := ⟨kb_be h hb, d.mono h.2 (Nat.le_refl _)⟩
theorem kb_row {w W : World} {a : Option Addr} {l : List (Int × Int)} (r : PRow w a l) (h : Below w.heap.size w W ∧ w.heap.size ≤ W.heap.size) : PRow W a l := r.below h.1 (Nat.le_refl _)

set_option maxHeartbeats 2000000 in
theorem l4without_any (b cp : Nat) (l : List (Int × Int)) (i : Nat) (w : World) (hi : i < l.length) (hn : l.length ≤ 1048576) (hc : l.length ≤ cp) (ho : Own w b l.length l l.length) :
    Calls Try.prog 180 #[.slice (some ⟨b, 0, none⟩) l.length cp, .int .i64 i] w fun e w' => ∃ a c, e = .returned (.slice a (i + (l.length - (i + 1))) c) ∧ RoomIn w' w.heap.size w'.heap.size a (i + (l.length - (i + 1))) c (l.take i ++ l.drop (i + 1)) ∧ Below w.heap.size w w' := by
  have e1 : (l.take i).length = i := by rw [List.length_take]; omega
  have e2 : (l.drop (i + 1)).length = l.length - (i + 1) := by rw [List.length_drop]
  have rt : PRow w (some ⟨b, 0, none⟩) (l.take i) := ho.row.take i
  have rd : PRow w (some (dropA b 0 cp (i + 1))) (l.drop (i + 1)) := drop_row ho.row (i + 1) hc
  have hx : ∀ w : World, (Instr.slice 26 (.slice (some ⟨b, 0, none⟩) l.length cp) none (some (.int .i64 (i : Int))) none).run Try.prog w = .ok (.slice (some ⟨b, 0, none⟩) i cp) w := fun w => cut_hi _ _ _ _ i (by omega) w
  have hy : ∀ w : World, (Instr.slice 26 (.slice (some ⟨b, 0, none⟩) l.length cp) (some (.int .i64 ((i : Int) + 1))) none none).run Try.prog w = .ok (.slice (some (dropA b 0 cp (i + 1))) (l.length - (i + 1)) (cp - (i + 1))) w := fun w => cut_lo _ _ _ _ (i + 1) (by omega) w
  have hwr : IntKind.i64.wrap ((i : Int) + 1) = (i : Int) + 1 := by rw [IntKind.wrap_i64]; omega
  have hS1 : Below w.heap.size w w ∧ w.heap.size ≤ w.heap.size := KB.mk (Below.refl _ _)
  have hS0 := kb_ad hS1
  clear ho hc
  generalize l.take i = lt at *
  generalize l.drop (i + 1) = ld at *
  generalize l.length = n at *
  generalize dropA b 0 cp (i + 1) = ad at *
  go_enter Try.func180, Try.ntmps180
  go_wp2
  go_region_held3 (fun W => Below w.heap.size w W ∧ w.heap.size ≤ W.heap.size)
    (first | exact hS0 | exact hS1 | assumption | exact kb_al _ hS0 | exact kb_al _ hS1 | exact kb_ad (kb_al _ hS1) | exact kb_al _ (by assumption) | (refine ⟨?_, ?_⟩ <;> assumption))
    (first
      | (refine step_freshP (by rfl) _ _ (by rfl) _ ⟨b, 0, none⟩ i cp lt (by rfl) (by rfl) e1 (kb_row rt (by assumption)) (by omega) ?_; rintro x1 y1 u1 d1 h1; have kk := kb_fresh (by assumption) h1 d1; have k1 := kk.1; have d1' := kk.2)
      | (refine step_roomR (by rfl) _ _ (by rfl) w.heap.size u1.heap.size x1 i y1 lt (by rfl) d1' ad (n - (i + 1)) (cp - (i + 1)) ld (by rfl) e2 (kb_row rd k1) (by omega) k1.2 (Nat.le_refl _) ?_; rintro x2 y2 u2 d2 h2; have k2 := kb_out k1 h2 (Nat.le_refl _)))
  all_goals
    go_wp2
    go_ret
    exact ⟨x2, y2, rfl, d2, k2.1⟩

end Go.Proofs.Ytphchdjbhbmnbaa
namespace Go.Proofs.Ytphchdjbhbmnbaa
open Go.RowKit

theorem run_make62 (w : World) : (Instr.makeSlice 144 (.int .i64 16) (.int .i64 16)).run Try.prog w = .ok (.slice (some ⟨w.heap.size, 0, none⟩) 16 16) (w.alloc (.cells #[.bool false, .bool false, .bool false, .bool false, .bool false, .bool false, .bool false, .bool false, .bool false, .bool false, .bool false, .bool false, .bool false, .bool false, .bool false, .bool false] 4)) := by kernel_rfl

theorem BRow.new (w : World) (t : TypeId) : BRow (w.alloc (.cells #[.bool false, .bool false, .bool false, .bool false, .bool false, .bool false, .bool false, .bool false, .bool false, .bool false, .bool false, .bool false, .bool false, .bool false, .bool false, .bool false] t)) w.heap.size (fun _ => false) := by
  refine ⟨by simp, fun j hj => ⟨?_, by simp⟩⟩
  rw [World.cell?_alloc_new]
  match j, hj with
  | 0, _ => rfl
  | 1, _ => rfl
  | 2, _ => rfl
  | 3, _ => rfl
  | 4, _ => rfl
  | 5, _ => rfl
  | 6, _ => rfl
  | 7, _ => rfl
  | 8, _ => rfl
  | 9, _ => rfl
  | 10, _ => rfl
  | 11, _ => rfl
  | 12, _ => rfl
  | 13, _ => rfl
  | 14, _ => rfl
  | 15, _ => rfl
  | j + 16, h => exact absurd h (by omega)

theorem asnB_toks {l0 l1 l2 l3 : List (Int × Int)} (h : asnB l0 l1 l2 l3 = true) : toks l0 = true ∧ toks l1 = true ∧ toks l2 = true ∧ toks l3 = true := by
  simp [asnB] at h
  exact ⟨h.1.1.1.1.1.1, h.1.1.1.1.1.2, h.1.1.1.1.2, h.1.1.1.2⟩

set_option maxHeartbeats 1000000 in
theorem l1used_any (a0 a1 a2 a3 : Option Addr) (c0 c1 c2 c3 : Nat) (l0 l1 l2 l3 : List (Int × Int)) (w : World)
    (n0 : l0.length ≤ 1048576) (n1 : l1.length ≤ 1048576) (n2 : l2.length ≤ 1048576) (n3 : l3.length ≤ 1048576)
    (r0 : PRow w a0 l0) (r1 : PRow w a1 l1) (r2 : PRow w a2 l2) (r3 : PRow w a3 l3) (ht : asnB l0 l1 l2 l3 = true) :
    Calls Try.prog 211 #[.agg #[.slice a0 l0.length c0, .slice a1 l1.length c1, .slice a2 l2.length c2, .slice a3 l3.length c3]] w fun e w' => ∃ bI, e = .returned (.slice (some ⟨bI, 0, none⟩) 16 16) ∧ w.heap.size ≤ bI ∧ BRow w' bI (usedV l0 l1 l2 l3) ∧ Below w.heap.size w w' := by
  obtain ⟨t0, t1, t2, t3⟩ := asnB_toks ht
  have T0 : Hid (toks l0 = true) := t0
  have T1 : Hid (toks l1 = true) := t1
  have T2 : Hid (toks l2 = true) := t2
  have T3 : Hid (toks l3 = true) := t3
  clear ht t0 t1 t2 t3
  have hmk := run_make62
  have B0 := (Box.new w (.slice a0 l0.length c0) (.slice a1 l1.length c1) (.slice a2 l2.length c2) (.slice a3 l3.length c3) 28).alloc (.cells #[.bool false, .bool false, .bool false, .bool false, .bool false, .bool false, .bool false, .bool false, .bool false, .bool false, .bool false, .bool false, .bool false, .bool false, .bool false, .bool false] 4)
  have I0 := BRow.new (w.alloc (.cells #[.slice a0 l0.length c0, .slice a1 l1.length c1, .slice a2 l2.length c2, .slice a3 l3.length c3] 28)) 4
  have L0 : Below w.heap.size w ((w.alloc (.cells #[.slice a0 l0.length c0, .slice a1 l1.length c1, .slice a2 l2.length c2, .slice a3 l3.length c3] 28)).alloc (.cells #[.bool false, .bool false, .bool false, .bool false, .bool false, .bool false, .bool false, .bool false, .bool false, .bool false, .bool false, .bool false, .bool false, .bool false, .bool false, .bool false] 4)) := ((Below.refl _ _).alloc (Nat.le_refl _) _).alloc (by simp) _
  rw [World.size_alloc] at I0
  have z : w.heap.size + 1 < ((w.alloc (.cells #[.slice a0 l0.length c0, .slice a1 l1.length c1, .slice a2 l2.length c2, .slice a3 l3.length c3] 28)).alloc (.cells #[.bool false, .bool false, .bool false, .bool false, .bool false, .bool false, .bool false, .bool false, .bool false, .bool false, .bool false, .bool false, .bool false, .bool false, .bool false, .bool false] 4)).heap.size := by simp
  go_enter Try.func211, Try.ntmps211
  go_wp2_with fail
  refine (l1mark_any _ _ _ _ _ _ n0 T0.out I0 (by exact r0.below L0 (Nat.le_refl _)) (by exact r0.off (by omega))).mono ?_
  rintro e w1 ⟨rfl, I1, hk⟩
  have L1 := L0.trans (hk.below (by omega) L0.size)
  have B1 := B0.kept hk (by omega)
  clear I0 L0 B0 hk hmk z
  have x := B1.c1
  go_wp2_with fail
  clear x
  refine (l1mark_any _ _ _ _ _ _ n1 T1.out I1 (by exact r1.below L1 (Nat.le_refl _)) (by exact r1.off (by omega))).mono ?_
  rintro e w2 ⟨rfl, I2, hk⟩
  have L2 := L1.trans (hk.below (by omega) L1.size)
  have B2 := B1.kept hk (by omega)
  clear I1 L1 B1 hk
  have x := B2.c2
  go_wp2_with fail
  clear x
  refine (l1mark_any _ _ _ _ _ _ n2 T2.out I2 (by exact r2.below L2 (Nat.le_refl _)) (by exact r2.off (by omega))).mono ?_
  rintro e w3 ⟨rfl, I3, hk⟩
  have L3 := L2.trans (hk.below (by omega) L2.size)
  have B3 := B2.kept hk (by omega)
  clear I2 L2 B2 hk
  have x := B3.c3
  go_wp2_with fail
  clear x
  refine (l1mark_any _ _ _ _ _ _ n3 T3.out I3 (by exact r3.below L3 (Nat.le_refl _)) (by exact r3.off (by omega))).mono ?_
  rintro e w4 ⟨rfl, I4, hk⟩
  have L4 := L3.trans (hk.below (by omega) L3.size)
  have B4 := B3.kept hk (by omega)
  clear I3 L3 B3 hk
  go_wp2
  go_ret
  exact ⟨w.heap.size + 1, rfl, by omega, I4.congr (fun j _ => by simp [usedV]), L4⟩

end Go.Proofs.Ytphchdjbhbmnbaa
namespace Go.Proofs.Ytphchdjbhbmnbaa
open Go.RowKit

theorem BRow.put {w : World} {b : Nat} {g : Nat → Bool} (h : BRow w b g) (i : Nat) (v : Bool) : BRow (w.setCell ⟨b, i, none⟩ (.bool v)) b (fun j => if i = j then v else g j) := by
  refine ⟨by simpa using h.1, fun j hj => ⟨?_, by simpa using (h.2 j hj).2⟩⟩
  rw [cell_set (h.2 j hj).1]
  by_cases e : i = j
  · simp [e]
  · simp [e]

theorem BRow.all {w : World} {b : Nat} {g : Nat → Bool} (h : BRow w b g) (f : Nat → Bool) :
    BRow ((((((((((((((((w.setCell ⟨b, 0, none⟩ (.bool (f 0))).setCell ⟨b, 1, none⟩ (.bool (f 1))).setCell ⟨b, 2, none⟩ (.bool (f 2))).setCell ⟨b, 3, none⟩ (.bool (f 3))).setCell ⟨b, 4, none⟩ (.bool (f 4))).setCell ⟨b, 5, none⟩ (.bool (f 5))).setCell ⟨b, 6, none⟩ (.bool (f 6))).setCell ⟨b, 7, none⟩ (.bool (f 7))).setCell ⟨b, 8, none⟩ (.bool (f 8))).setCell ⟨b, 9, none⟩ (.bool (f 9))).setCell ⟨b, 10, none⟩ (.bool (f 10))).setCell ⟨b, 11, none⟩ (.bool (f 11))).setCell ⟨b, 12, none⟩ (.bool (f 12))).setCell ⟨b, 13, none⟩ (.bool (f 13))).setCell ⟨b, 14, none⟩ (.bool (f 14))).setCell ⟨b, 15, none⟩ (.bool (f 15))) b f :=
  BRow.congr ((((((((((((((((h.put 0 (f 0)).put 1 (f 1)).put 2 (f 2)).put 3 (f 3)).put 4 (f 4)).put 5 (f 5)).put 6 (f 6)).put 7 (f 7)).put 8 (f 8)).put 9 (f 9)).put 10 (f 10)).put 11 (f 11)).put 12 (f 12)).put 13 (f 13)).put 14 (f 14)).put 15 (f 15)) (fun j hj => by
    match j, hj with
    | 0, _ => rfl
    | 1, _ => rfl
    | 2, _ => rfl
    | 3, _ => rfl
    | 4, _ => rfl
    | 5, _ => rfl
    | 6, _ => rfl
    | 7, _ => rfl
    | 8, _ => rfl
    | 9, _ => rfl
    | 10, _ => rfl
    | 11, _ => rfl
    | 12, _ => rfl
    | 13, _ => rfl
    | 14, _ => rfl
    | 15, _ => rfl
    | j + 16, h => exact absurd h (by omega))

def usedTo (l0 l1 l2 l3 : List (Int × Int)) (k j : Nat) : Bool := (decide (0 < k) && inL l0 j) || (decide (1 < k) && inL l1 j) || (decide (2 < k) && inL l2 j) || (decide (3 < k) && inL l3 j)

theorem usedTo_0 (l0 l1 l2 l3 : List (Int × Int)) (j : Nat) : usedTo l0 l1 l2 l3 0 j = false := by simp [usedTo]
theorem usedTo_4 (l0 l1 l2 l3 : List (Int × Int)) (j : Nat) : usedTo l0 l1 l2 l3 4 j = usedV l0 l1 l2 l3 j := by simp [usedTo, usedV]

theorem pick4 (a0 a1 a2 a3 : Option Addr) (c0 c1 c2 c3 : Nat) (l0 l1 l2 l3 : List (Int × Int)) (w : World)
    (n0 : l0.length ≤ 1048576) (n1 : l1.length ≤ 1048576) (n2 : l2.length ≤ 1048576) (n3 : l3.length ≤ 1048576)
    (r0 : PRow w a0 l0) (r1 : PRow w a1 l1) (r2 : PRow w a2 l2) (r3 : PRow w a3 l3) (ht : asnB l0 l1 l2 l3 = true) (k : Nat) (hk : k < 4) :
    ∃ a c l, (∀ w : World, (Instr.index 88 (.agg #[.slice a0 l0.length c0, .slice a1 l1.length c1, .slice a2 l2.length c2, .slice a3 l3.length c3]) (.int .i64 k)).run Try.prog w = .ok (.slice a (l : List (Int × Int)).length c) w) ∧ PRow w a l ∧ l.length ≤ 1048576 ∧ toks l = true ∧
      ∀ j, usedTo l0 l1 l2 l3 (k + 1) j = (usedTo l0 l1 l2 l3 k j || inL l j) := by
  obtain ⟨t0, t1, t2, t3⟩ := asnB_toks ht
  match k, hk with
  | 0, _ => exact ⟨a0, c0, l0, idx0 a0 a1 a2 a3 l0.length l1.length l2.length l3.length c0 c1 c2 c3, r0, n0, t0, fun j => by simp [usedTo]⟩
  | 1, _ => exact ⟨a1, c1, l1, idx1 a0 a1 a2 a3 l0.length l1.length l2.length l3.length c0 c1 c2 c3, r1, n1, t1, fun j => by simp [usedTo]⟩
  | 2, _ => exact ⟨a2, c2, l2, idx2 a0 a1 a2 a3 l0.length l1.length l2.length l3.length c0 c1 c2 c3, r2, n2, t2, fun j => by simp [usedTo]⟩
  | 3, _ => exact ⟨a3, c3, l3, idx3 a0 a1 a2 a3 l0.length l1.length l2.length l3.length c0 c1 c2 c3, r3, n3, t3, fun j => by simp [usedTo]⟩

set_option maxHeartbeats 1000000 in
theorem termsIn_any (a0 a1 a2 a3 : Option Addr) (c0 c1 c2 c3 : Nat) (l0 l1 l2 l3 : List (Int × Int)) (w : World)
    (n0 : l0.length ≤ 1048576) (n1 : l1.length ≤ 1048576) (n2 : l2.length ≤ 1048576) (n3 : l3.length ≤ 1048576)
    (r0 : PRow w a0 l0) (r1 : PRow w a1 l1) (r2 : PRow w a2 l2) (r3 : PRow w a3 l3) (ht : asnB l0 l1 l2 l3 = true) :
    Calls Try.prog 141 #[.agg #[.slice a0 l0.length c0, .slice a1 l1.length c1, .slice a2 l2.length c2, .slice a3 l3.length c3]] w fun e w' => e = .returned (.agg #[.bool (usedV l0 l1 l2 l3 0), .bool (usedV l0 l1 l2 l3 1), .bool (usedV l0 l1 l2 l3 2), .bool (usedV l0 l1 l2 l3 3), .bool (usedV l0 l1 l2 l3 4), .bool (usedV l0 l1 l2 l3 5), .bool (usedV l0 l1 l2 l3 6), .bool (usedV l0 l1 l2 l3 7), .bool (usedV l0 l1 l2 l3 8), .bool (usedV l0 l1 l2 l3 9), .bool (usedV l0 l1 l2 l3 10), .bool (usedV l0 l1 l2 l3 11), .bool (usedV l0 l1 l2 l3 12), .bool (usedV l0 l1 l2 l3 13), .bool (usedV l0 l1 l2 l3 14), .bool (usedV l0 l1 l2 l3 15)]) ∧ Below w.heap.size w w' := by
  have PK : Hid (∀ k : Nat, k < 4 → ∃ a c l, (∀ w : World, (Instr.index 88 (.agg #[.slice a0 l0.length c0, .slice a1 l1.length c1, .slice a2 l2.length c2, .slice a3 l3.length c3]) (.int .i64 k)).run Try.prog w = .ok (.slice a (l : List (Int × Int)).length c) w) ∧ PRow w a l ∧ l.length ≤ 1048576 ∧ toks l = true ∧
      ∀ j, usedTo l0 l1 l2 l3 (k + 1) j = (usedTo l0 l1 l2 l3 k j || inL l j)) := fun k hk => pick4 a0 a1 a2 a3 c0 c1 c2 c3 l0 l1 l2 l3 w n0 n1 n2 n3 r0 r1 r2 r3 ht k hk
  clear ht r0 r1 r2 r3 n0 n1 n2 n3
  have R0 := (BRow.new (w.alloc (.cells #[.slice a0 l0.length c0, .slice a1 l1.length c1, .slice a2 l2.length c2, .slice a3 l3.length c3] 28)) 94).below ((Below.refl _ _).alloc (Nat.le_refl _) (.cells #[.bool false, .bool false, .bool false, .bool false, .bool false, .bool false, .bool false, .bool false, .bool false, .bool false, .bool false, .bool false, .bool false, .bool false, .bool false, .bool false] 94)) (by simp)
  have I0 := BRow.new ((w.alloc (.cells #[.slice a0 l0.length c0, .slice a1 l1.length c1, .slice a2 l2.length c2, .slice a3 l3.length c3] 28)).alloc (.cells #[.bool false, .bool false, .bool false, .bool false, .bool false, .bool false, .bool false, .bool false, .bool false, .bool false, .bool false, .bool false, .bool false, .bool false, .bool false, .bool false] 94)) 94
  have L0 : Below w.heap.size w (((w.alloc (.cells #[.slice a0 l0.length c0, .slice a1 l1.length c1, .slice a2 l2.length c2, .slice a3 l3.length c3] 28)).alloc (.cells #[.bool false, .bool false, .bool false, .bool false, .bool false, .bool false, .bool false, .bool false, .bool false, .bool false, .bool false, .bool false, .bool false, .bool false, .bool false, .bool false] 94)).alloc (.cells #[.bool false, .bool false, .bool false, .bool false, .bool false, .bool false, .bool false, .bool false, .bool false, .bool false, .bool false, .bool false, .bool false, .bool false, .bool false, .bool false] 94)) := (((Below.refl _ _).alloc (Nat.le_refl _) _).alloc (by simp) _).alloc (by simp; omega) _
  simp only [World.size_alloc] at R0 I0
  go_enter Try.func141, Try.ntmps141
  go_wp2_with fail
  refine (listsOf_any _ _ _ _ _ ⟨_, _, _, rfl⟩ ⟨_, _, _, rfl⟩ ⟨_, _, _, rfl⟩ ⟨_, _, _, rfl⟩).mono ?_
  rintro e w1 ⟨rfl, hb⟩
  have R1 := R0.below hb R0.1
  have I1 := I0.below hb I0.1
  have L1 := L0.trans (hb.mono L0.size)
  clear hb R0 I0 L0
  go_wp2
  go_loopw [10] (fun i wr => ∃ k : Nat, k ≤ 4 ∧ i = .int .i64 k ∧ BRow wr (w.heap.size + 1) (fun _ => false) ∧ BRow wr (w.heap.size + 1 + 1) (usedTo l0 l1 l2 l3 k) ∧ Below w.heap.size w wr) (fun i _ => 4 - (intOf i).toNat)
  case atStart => exact ⟨0, Nat.zero_le _, rfl, R1, I1.congr (fun j _ => (usedTo_0 l0 l1 l2 l3 j).symm), L1⟩
  case round =>
    clear R1 I1 L1
    obtain ⟨k, hk, rfl, R, I, L⟩ := hrel
    by_cases hlt : k < 4
    · obtain ⟨a, c, l, hidx, hr, hn, hT, hU⟩ := PK.out k hlt
      have HT : Hid (toks l = true) := hT
      have HU : Hid (∀ j, usedTo l0 l1 l2 l3 (k + 1) j = (usedTo l0 l1 l2 l3 k j || inL l j)) := hU
      clear hT hU
      rcases hr with rfl | ⟨b, off, rfl, hb, hc⟩
      · go_wp2
        go_loopw [15] (fun i wr => i = .int .i64 0 ∧ BRow wr (w.heap.size + 1) (fun _ => false) ∧ BRow wr (w.heap.size + 1 + 1) (usedTo l0 l1 l2 l3 k) ∧ Below w.heap.size w wr) (fun _ _ => 0)
        case atStart => exact ⟨rfl, R, I, L⟩
        case round =>
          clear R I L
          obtain ⟨rfl, R, I, L⟩ := hrel
          go_wp2
          go_roundw
          case rel => exact ⟨k + 1, by omega, by go_num, R, I.congr (fun j _ => by rw [HU.out j]; simp [inL]), L⟩
          case measure => simp [intOf]; omega
      · generalize hN : l.length = n at *
        have HN : Hid (l.length = n) := hN
        clear hN
        go_wp2
        go_loopw [15] (fun i wr => ∃ m : Nat, m ≤ n ∧ i = .int .i64 m ∧ BRow wr (w.heap.size + 1) (fun _ => false) ∧ BRow wr (w.heap.size + 1 + 1) (fun j => usedTo l0 l1 l2 l3 k j || inL (l.take m) j) ∧ Below w.heap.size w wr) (fun i _ => n - (intOf i).toNat)
        case atStart => exact ⟨0, Nat.zero_le _, rfl, R, I.congr (fun j _ => by simp [inL]), L⟩
        case round =>
          clear R I L
          obtain ⟨m, hm, rfl, R, I, L⟩ := hrel
          by_cases hlt2 : m < n
          · have hck := hc m hlt2
            clear hc
            have hx := L.cell (p := ⟨b, off + m * 2, none⟩) hb
            have hy := L.cell (p := ⟨b, off + m * 2 + 1, none⟩) hb
            rw [hck.1] at hx
            rw [hck.2] at hy
            clear hck
            obtain ⟨⟨p1, p2⟩, p3, p4⟩ := toks_at HT.out (k := m) (by rw [HN.out]; exact hlt2)
            have hst := fun j => inL_step (l := l) (k := m) (by rw [HN.out]; exact hlt2) j
            rw [List.getD_eq_getElem?_getD] at hx hy
            generalize (l[m]?.getD (0, 0)).1 = X at hx p1 p2 hst
            generalize (l[m]?.getD (0, 0)).2 = Y at hy p3 p4 hst
            obtain ⟨x, rfl⟩ := Int.eq_ofNat_of_zero_le p1
            obtain ⟨y, rfl⟩ := Int.eq_ofNat_of_zero_le p3
            have HS : Hid (∀ j, inL (l.take (m + 1)) j = (inL (l.take m) j || (((x : Int) == (j : Int)) || ((y : Int) == (j : Int))))) := hst
            clear hst
            have cx := (I.2 x (by omega)).1
            have fx := (I.2 x (by omega)).2
            have I1 := I.set x
            have cy := (I1.2 y (by omega)).1
            have fy := (I.2 y (by omega)).2
            have I2 := (I1.set y).below ((Below.refl _ _).alloc (Nat.le_refl _) (.cells #[.int .i64 x, .int .i64 y] 69)) (I1.set y).1
            have L2 := (Below.set (Below.set L (w.heap.size + 1 + 1) x (by omega) (.bool true)) (w.heap.size + 1 + 1) y (by omega) (.bool true)).alloc (Below.set (Below.set L (w.heap.size + 1 + 1) x (by omega) (.bool true)) (w.heap.size + 1 + 1) y (by omega) (.bool true)).size (.cells #[.int .i64 x, .int .i64 y] 69)
            have R2 := ((R.other (w.heap.size + 1 + 1) x (by omega) (.bool true)).other (w.heap.size + 1 + 1) y (by omega) (.bool true)).below ((Below.refl _ _).alloc (Nat.le_refl _) (.cells #[.int .i64 x, .int .i64 y] 69)) ((R.other (w.heap.size + 1 + 1) x (by omega) (.bool true)).other (w.heap.size + 1 + 1) y (by omega) (.bool true)).1
            have hsz : w.heap.size + 1 + 1 < wr.heap.size := I.1
            clear I I1 L R
            go_wp2
            go_roundw
            case rel => exact ⟨m + 1, by omega, by go_num, R2, I2.congr (fun j hj => by
              rw [HS.out j]
              have e1 : ((x : Int) == (j : Int)) = (j == x) := by rw [Bool.eq_iff_iff]; simp; omega
              have e2 : ((y : Int) == (j : Int)) = (j == y) := by rw [Bool.eq_iff_iff]; simp; omega
              rw [e1, e2]
              simp [Bool.or_assoc]), L2⟩
            case measure => simp [intOf]; omega
          · obtain rfl : m = n := by omega
            have e := HN.out
            have I2 : BRow wr (w.heap.size + 1 + 1) (usedTo l0 l1 l2 l3 (k + 1)) := I.congr (fun j _ => by rw [HU.out j, List.take_of_length_le (by omega)])
            clear e I hc
            go_wp2
            go_roundw
            case rel => exact ⟨k + 1, by omega, by go_num, R, I2, L⟩
            case measure => simp [intOf]; omega
    · obtain rfl : k = 4 := by omega
      have I2 : BRow wr (w.heap.size + 1 + 1) (usedV l0 l1 l2 l3) := I.congr (fun j _ => usedTo_4 l0 l1 l2 l3 j)
      clear I
      have q0 := (I2.2 0 (by omega)).1
      have q1 := (I2.2 1 (by omega)).1
      have q2 := (I2.2 2 (by omega)).1
      have q3 := (I2.2 3 (by omega)).1
      have q4 := (I2.2 4 (by omega)).1
      have q5 := (I2.2 5 (by omega)).1
      have q6 := (I2.2 6 (by omega)).1
      have q7 := (I2.2 7 (by omega)).1
      have q8 := (I2.2 8 (by omega)).1
      have q9 := (I2.2 9 (by omega)).1
      have q10 := (I2.2 10 (by omega)).1
      have q11 := (I2.2 11 (by omega)).1
      have q12 := (I2.2 12 (by omega)).1
      have q13 := (I2.2 13 (by omega)).1
      have q14 := (I2.2 14 (by omega)).1
      have q15 := (I2.2 15 (by omega)).1
      have r0 := (R.2 0 (by omega)).1
      have f0 := (R.2 0 (by omega)).2
      have r1 := (R.2 1 (by omega)).1
      have f1 := (R.2 1 (by omega)).2
      have r2 := (R.2 2 (by omega)).1
      have f2 := (R.2 2 (by omega)).2
      have r3 := (R.2 3 (by omega)).1
      have f3 := (R.2 3 (by omega)).2
      have r4 := (R.2 4 (by omega)).1
      have f4 := (R.2 4 (by omega)).2
      have r5 := (R.2 5 (by omega)).1
      have f5 := (R.2 5 (by omega)).2
      have r6 := (R.2 6 (by omega)).1
      have f6 := (R.2 6 (by omega)).2
      have r7 := (R.2 7 (by omega)).1
      have f7 := (R.2 7 (by omega)).2
      have r8 := (R.2 8 (by omega)).1
      have f8 := (R.2 8 (by omega)).2
      have r9 := (R.2 9 (by omega)).1
      have f9 := (R.2 9 (by omega)).2
      have r10 := (R.2 10 (by omega)).1
      have f10 := (R.2 10 (by omega)).2
      have r11 := (R.2 11 (by omega)).1
      have f11 := (R.2 11 (by omega)).2
      have r12 := (R.2 12 (by omega)).1
      have f12 := (R.2 12 (by omega)).2
      have r13 := (R.2 13 (by omega)).1
      have f13 := (R.2 13 (by omega)).2
      have r14 := (R.2 14 (by omega)).1
      have f14 := (R.2 14 (by omega)).2
      have r15 := (R.2 15 (by omega)).1
      have f15 := (R.2 15 (by omega)).2
      go_wp2
      refine bodyPost_ret (v := .agg #[.bool (usedV l0 l1 l2 l3 0), .bool (usedV l0 l1 l2 l3 1), .bool (usedV l0 l1 l2 l3 2), .bool (usedV l0 l1 l2 l3 3), .bool (usedV l0 l1 l2 l3 4), .bool (usedV l0 l1 l2 l3 5), .bool (usedV l0 l1 l2 l3 6), .bool (usedV l0 l1 l2 l3 7), .bool (usedV l0 l1 l2 l3 8), .bool (usedV l0 l1 l2 l3 9), .bool (usedV l0 l1 l2 l3 10), .bool (usedV l0 l1 l2 l3 11), .bool (usedV l0 l1 l2 l3 12), .bool (usedV l0 l1 l2 l3 13), .bool (usedV l0 l1 l2 l3 14), .bool (usedV l0 l1 l2 l3 15)]) ?_ rfl ⟨rfl, ?_⟩
      · have R3 := R.all (usedV l0 l1 l2 l3)
        have z0 := (R3.2 0 (by omega)).1
        have z1 := (R3.2 1 (by omega)).1
        have z2 := (R3.2 2 (by omega)).1
        have z3 := (R3.2 3 (by omega)).1
        have z4 := (R3.2 4 (by omega)).1
        have z5 := (R3.2 5 (by omega)).1
        have z6 := (R3.2 6 (by omega)).1
        have z7 := (R3.2 7 (by omega)).1
        have z8 := (R3.2 8 (by omega)).1
        have z9 := (R3.2 9 (by omega)).1
        have z10 := (R3.2 10 (by omega)).1
        have z11 := (R3.2 11 (by omega)).1
        have z12 := (R3.2 12 (by omega)).1
        have z13 := (R3.2 13 (by omega)).1
        have z14 := (R3.2 14 (by omega)).1
        have z15 := (R3.2 15 (by omega)).1
        simp [results, Try.results141, go_sem, z0, z1, z2, z3, z4, z5, z6, z7, z8, z9, z10, z11, z12, z13, z14, z15]
      · exact Below.set (Below.set (Below.set (Below.set (Below.set (Below.set (Below.set (Below.set (Below.set (Below.set (Below.set (Below.set (Below.set (Below.set (Below.set (Below.set L _ _ (by omega) _) _ _ (by omega) _) _ _ (by omega) _) _ _ (by omega) _) _ _ (by omega) _) _ _ (by omega) _) _ _ (by omega) _) _ _ (by omega) _) _ _ (by omega) _) _ _ (by omega) _) _ _ (by omega) _) _ _ (by omega) _) _ _ (by omega) _) _ _ (by omega) _) _ _ (by omega) _) _ _ (by omega) _

end Go.Proofs.Ytphchdjbhbmnbaa
namespace Go.Proofs.Ytphchdjbhbmnbaa
open Go.RowKit

def freshGo (f : Nat → Bool) : Nat → Nat → Int
  | 0, _ => -1
  | n + 1, t => if f t = true then freshGo f n (t + 1) else t

theorem freshGo_hit (f : Nat → Bool) : ∀ (n t k : Nat), t ≤ k → k < t + n → (∀ i, t ≤ i → i < k → f i = true) → f k = false → freshGo f n t = k
  | 0, t, k, h1, h2, _, _ => absurd h1 (by omega)
  | n + 1, t, k, h1, h2, h3, h4 => by
    unfold freshGo
    by_cases e : t = k
    · subst e; rw [h4]; simp
    · rw [h3 t (Nat.le_refl _) (by omega), if_pos rfl]
      exact freshGo_hit f n (t + 1) k (by omega) (by omega) (fun i hi hk => h3 i (by omega) hk) h4

theorem freshGo_miss (f : Nat → Bool) : ∀ (n t : Nat), (∀ i, t ≤ i → i < t + n → f i = true) → freshGo f n t = -1
  | 0, _, _ => rfl
  | n + 1, t, h => by
    unfold freshGo
    rw [h t (Nat.le_refl _) (by omega), if_pos rfl]
    exact freshGo_miss f n (t + 1) (fun i hi hk => h i (by omega) (by omega))

def freshF (f : Nat → Bool) : Int := freshGo f 10 6
def freshV (l0 l1 l2 l3 : List (Int × Int)) : Int := if asnB l0 l1 l2 l3 = true then freshF (usedV l0 l1 l2 l3) else -1

theorem freshF_hit {f : Nat → Bool} {k : Nat} (h1 : 6 ≤ k) (h2 : k < 16) (h3 : ∀ i, 6 ≤ i → i < k → f i = true) (h4 : f k = false) : freshF f = k := freshGo_hit f 10 6 k h1 (by omega) h3 h4
theorem freshF_miss {f : Nat → Bool} (h3 : ∀ i, 6 ≤ i → i < 16 → f i = true) : freshF f = -1 := freshGo_miss f 10 6 (fun i h k => h3 i h (by omega))

theorem BRow.lit (w : World) (t : TypeId) (f : Nat → Bool) : BRow (w.alloc (.cells #[.bool (f 0), .bool (f 1), .bool (f 2), .bool (f 3), .bool (f 4), .bool (f 5), .bool (f 6), .bool (f 7), .bool (f 8), .bool (f 9), .bool (f 10), .bool (f 11), .bool (f 12), .bool (f 13), .bool (f 14), .bool (f 15)] t)) w.heap.size f := by
  refine ⟨by simp, fun j hj => ⟨?_, by simp⟩⟩
  rw [World.cell?_alloc_new]
  match j, hj with
  | 0, _ => rfl
  | 1, _ => rfl
  | 2, _ => rfl
  | 3, _ => rfl
  | 4, _ => rfl
  | 5, _ => rfl
  | 6, _ => rfl
  | 7, _ => rfl
  | 8, _ => rfl
  | 9, _ => rfl
  | 10, _ => rfl
  | 11, _ => rfl
  | 12, _ => rfl
  | 13, _ => rfl
  | 14, _ => rfl
  | 15, _ => rfl
  | j + 16, h => exact absurd h (by omega)

theorem idxB (f : Nat → Bool) (j : Nat) (hj : j < 16) (w : World) : (Instr.index 94 (.agg #[.bool (f 0), .bool (f 1), .bool (f 2), .bool (f 3), .bool (f 4), .bool (f 5), .bool (f 6), .bool (f 7), .bool (f 8), .bool (f 9), .bool (f 10), .bool (f 11), .bool (f 12), .bool (f 13), .bool (f 14), .bool (f 15)]) (.int .i64 j)).run Try.prog w = .ok (.bool (f j)) w := by
  obtain rfl | rfl | rfl | rfl | rfl | rfl | rfl | rfl | rfl | rfl | rfl | rfl | rfl | rfl | rfl | rfl : j = 0 ∨ j = 1 ∨ j = 2 ∨ j = 3 ∨ j = 4 ∨ j = 5 ∨ j = 6 ∨ j = 7 ∨ j = 8 ∨ j = 9 ∨ j = 10 ∨ j = 11 ∨ j = 12 ∨ j = 13 ∨ j = 14 ∨ j = 15 := by omega
  all_goals kernel_rfl

set_option maxHeartbeats 1000000 in
theorem l1fresh_any (a0 a1 a2 a3 : Option Addr) (c0 c1 c2 c3 : Nat) (l0 l1 l2 l3 : List (Int × Int)) (w : World)
    (n0 : l0.length ≤ 1048576) (n1 : l1.length ≤ 1048576) (n2 : l2.length ≤ 1048576) (n3 : l3.length ≤ 1048576)
    (r0 : PRow w a0 l0) (r1 : PRow w a1 l1) (r2 : PRow w a2 l2) (r3 : PRow w a3 l3) (ht : asnB l0 l1 l2 l3 = true) :
    Calls Try.prog 140 #[.agg #[.slice a0 l0.length c0, .slice a1 l1.length c1, .slice a2 l2.length c2, .slice a3 l3.length c3]] w fun e w' => e = .returned (.int .i64 (freshF (usedV l0 l1 l2 l3))) ∧ Below w.heap.size w w' := by
  have HT : Hid (asnB l0 l1 l2 l3 = true) := ht
  clear ht
  have L : Below w.heap.size w (w.alloc (.cells #[.slice a0 l0.length c0, .slice a1 l1.length c1, .slice a2 l2.length c2, .slice a3 l3.length c3] 28)) := (Below.refl _ _).alloc (Nat.le_refl _) _
  go_enter Try.func140, Try.ntmps140
  go_wp2_with fail
  refine (l1used_any _ _ _ _ _ _ _ _ _ _ _ _ _ n0 n1 n2 n3 (by exact r0.below L (Nat.le_refl _)) (by exact r1.below L (Nat.le_refl _)) (by exact r2.below L (Nat.le_refl _)) (by exact r3.below L (Nat.le_refl _)) HT.out).mono ?_
  rintro e w1 ⟨bI, rfl, hI, I, hb⟩
  have L1 := L.trans (hb.mono L.size)
  clear hb L hI HT
  obtain ⟨f, hf⟩ : ∃ f, usedV l0 l1 l2 l3 = f := ⟨_, rfl⟩
  have HV : Hid (freshF (usedV l0 l1 l2 l3) = freshF f) := by show freshF (usedV l0 l1 l2 l3) = _; rw [hf]
  rw [hf] at I
  clear hf
  go_wp2
  go_loop [4] (fun i => ∃ k : Nat, 6 ≤ k ∧ k ≤ 16 ∧ i = .int .i64 k ∧ Hid (∀ i, 6 ≤ i → i < k → f i = true)) (fun i => 16 - (intOf i).toNat)
  case atStart => exact ⟨6, by omega, by omega, rfl, fun i h1 h2 => by omega⟩
  case round =>
    obtain ⟨k, hk0, hk, rfl, hall⟩ := hrel
    by_cases hlt : k < 16
    · have hx := (I.2 k hlt).1
      cases hf : f k
      · rw [hf] at hx
        have HF : Hid (f k = false) := hf
        clear hf
        go_wp2
        go_ret
        exact ⟨ret_int (HV.out.trans (freshF_hit hk0 hlt hall.out HF.out)).symm, L1⟩
      · rw [hf] at hx
        have HF : Hid (f k = true) := hf
        clear hf
        go_wp2
        go_round
        case rel => exact ⟨k + 1, by omega, by omega, by go_num, fun i h1 h2 => by
          by_cases e : i = k
          · subst e; exact HF.out
          · exact hall.out i h1 (by omega)⟩
        case measure => simp [intOf]; omega
    · obtain rfl : k = 16 := by omega
      go_wp2
      go_ret
      exact ⟨ret_int (HV.out.trans (freshF_miss hall.out)).symm, L1⟩

set_option maxHeartbeats 1000000 in
theorem sFresh_any (a0 a1 a2 a3 : Option Addr) (c0 c1 c2 c3 : Nat) (l0 l1 l2 l3 : List (Int × Int)) (w : World)
    (n0 : l0.length ≤ 1048576) (n1 : l1.length ≤ 1048576) (n2 : l2.length ≤ 1048576) (n3 : l3.length ≤ 1048576)
    (r0 : PRow w a0 l0) (r1 : PRow w a1 l1) (r2 : PRow w a2 l2) (r3 : PRow w a3 l3) :
    Calls Try.prog 48 #[.agg #[.slice a0 l0.length c0, .slice a1 l1.length c1, .slice a2 l2.length c2, .slice a3 l3.length c3]] w fun e w' => e = .returned (.int .i64 (freshV l0 l1 l2 l3)) ∧ Below w.heap.size w w' := by
  have B0 := Box.new w (.slice a0 l0.length c0) (.slice a1 l1.length c1) (.slice a2 l2.length c2) (.slice a3 l3.length c3) 28
  have L : Below w.heap.size w (w.alloc (.cells #[.slice a0 l0.length c0, .slice a1 l1.length c1, .slice a2 l2.length c2, .slice a3 l3.length c3] 28)) := (Below.refl _ _).alloc (Nat.le_refl _) _
  go_enter Try.func48, Try.ntmps48
  go_wp2_with fail
  refine (sAsnOk_any _ _ _ _ _ _ _ _ _ _ _ _ _ n0 n1 n2 n3 (by exact r0.below L (Nat.le_refl _)) (by exact r1.below L (Nat.le_refl _)) (by exact r2.below L (Nat.le_refl _)) (by exact r3.below L (Nat.le_refl _))).mono ?_
  rintro e w1 ⟨rfl, hb⟩
  have B1 := B0.below hb B0.lt; have L1 := L.trans (hb.mono L.size)
  clear hb B0 L
  have x0 := B1.c0; have x1 := B1.c1; have x2 := B1.c2; have x3 := B1.c3
  cases h : asnB l0 l1 l2 l3
  · go_wp2
    go_ret
    exact ⟨ret_int (by simp [freshV, h]), L1⟩
  · have HT : Hid (asnB l0 l1 l2 l3 = true) := h
    clear h
    go_wp2_with fail
    refine (l1fresh_any _ _ _ _ _ _ _ _ _ _ _ _ _ n0 n1 n2 n3 (by exact r0.below L1 (Nat.le_refl _)) (by exact r1.below L1 (Nat.le_refl _)) (by exact r2.below L1 (Nat.le_refl _)) (by exact r3.below L1 (Nat.le_refl _)) HT.out).mono ?_
    rintro e w2 ⟨rfl, hb⟩
    have L2 := L1.trans (hb.mono L1.size)
    go_wp2
    go_ret
    exact ⟨ret_int (by unfold freshV; rw [if_pos HT.out]), L2⟩

set_option maxHeartbeats 1000000 in
theorem iFresh_any (a0 a1 a2 a3 : Option Addr) (c0 c1 c2 c3 : Nat) (l0 l1 l2 l3 : List (Int × Int)) (w : World)
    (n0 : l0.length ≤ 1048576) (n1 : l1.length ≤ 1048576) (n2 : l2.length ≤ 1048576) (n3 : l3.length ≤ 1048576)
    (r0 : PRow w a0 l0) (r1 : PRow w a1 l1) (r2 : PRow w a2 l2) (r3 : PRow w a3 l3) :
    Calls Try.prog 49 #[.agg #[.slice a0 l0.length c0, .slice a1 l1.length c1, .slice a2 l2.length c2, .slice a3 l3.length c3]] w fun e w' => e = .returned (.int .i64 (freshV l0 l1 l2 l3)) ∧ Below w.heap.size w w' := by
  have B0 := Box.new w (.slice a0 l0.length c0) (.slice a1 l1.length c1) (.slice a2 l2.length c2) (.slice a3 l3.length c3) 28
  have L : Below w.heap.size w (w.alloc (.cells #[.slice a0 l0.length c0, .slice a1 l1.length c1, .slice a2 l2.length c2, .slice a3 l3.length c3] 28)) := (Below.refl _ _).alloc (Nat.le_refl _) _
  go_enter Try.func49, Try.ntmps49
  go_wp2_with fail
  refine (iAsnOk_any _ _ _ _ _ _ _ _ _ _ _ _ _ n0 n1 n2 n3 (by exact r0.below L (Nat.le_refl _)) (by exact r1.below L (Nat.le_refl _)) (by exact r2.below L (Nat.le_refl _)) (by exact r3.below L (Nat.le_refl _))).mono ?_
  rintro e w1 ⟨rfl, hb⟩
  have B1 := B0.below hb B0.lt; have L1 := L.trans (hb.mono L.size)
  clear hb B0 L
  have x0 := B1.c0; have x1 := B1.c1; have x2 := B1.c2; have x3 := B1.c3
  cases h : asnB l0 l1 l2 l3
  · go_wp2
    go_ret
    exact ⟨ret_int (by simp [freshV, h]), L1⟩
  · have HT : Hid (asnB l0 l1 l2 l3 = true) := h
    clear h
    go_wp2_with fail
    refine (termsIn_any _ _ _ _ _ _ _ _ _ _ _ _ _ n0 n1 n2 n3 (by exact r0.below L1 (Nat.le_refl _)) (by exact r1.below L1 (Nat.le_refl _)) (by exact r2.below L1 (Nat.le_refl _)) (by exact r3.below L1 (Nat.le_refl _)) HT.out).mono ?_
    rintro e w2 ⟨rfl, hb⟩
    have L2 := L1.trans (hb.mono L1.size)
    have HV : Hid (freshV l0 l1 l2 l3 = freshF (usedV l0 l1 l2 l3)) := by show freshV l0 l1 l2 l3 = _; unfold freshV; rw [if_pos HT.out]
    clear hb L1 B1 x0 x1 x2 x3 HT
    generalize usedV l0 l1 l2 l3 = f at *
    have I := BRow.lit w2 94 f
    have L3 := L2.alloc L2.size (.cells #[.bool (f 0), .bool (f 1), .bool (f 2), .bool (f 3), .bool (f 4), .bool (f 5), .bool (f 6), .bool (f 7), .bool (f 8), .bool (f 9), .bool (f 10), .bool (f 11), .bool (f 12), .bool (f 13), .bool (f 14), .bool (f 15)] 94)
    clear L2
    go_wp2
    go_loop [4] (fun i => ∃ k : Nat, 6 ≤ k ∧ k ≤ 16 ∧ i = .int .i64 k ∧ Hid (∀ i, 6 ≤ i → i < k → f i = true)) (fun i => 16 - (intOf i).toNat)
    case atStart => exact ⟨6, by omega, by omega, rfl, fun i h1 h2 => by omega⟩
    case round =>
      obtain ⟨k, hk0, hk, rfl, hall⟩ := hrel
      by_cases hlt : k < 16
      · have hx := (I.2 k hlt).1
        generalize w2.alloc (.cells #[.bool (f 0), .bool (f 1), .bool (f 2), .bool (f 3), .bool (f 4), .bool (f 5), .bool (f 6), .bool (f 7), .bool (f 8), .bool (f 9), .bool (f 10), .bool (f 11), .bool (f 12), .bool (f 13), .bool (f 14), .bool (f 15)] 94) = w3 at *
        cases hf : f k
        · rw [hf] at hx
          have HF : Hid (f k = false) := hf
          clear hf
          go_wp2
          go_ret
          exact ⟨ret_int (HV.out.trans (freshF_hit hk0 hlt hall.out HF.out)).symm, L3⟩
        · rw [hf] at hx
          have HF : Hid (f k = true) := hf
          clear hf
          go_wp2
          go_round
          case rel => exact ⟨k + 1, by omega, by omega, by go_num, fun i h1 h2 => by
            by_cases e : i = k
            · subst e; exact HF.out
            · exact hall.out i h1 (by omega)⟩
          case measure => simp [intOf]; omega
      · obtain rfl : k = 16 := by omega
        go_wp2
        go_ret
        exact ⟨ret_int (HV.out.trans (freshF_miss hall.out)).symm, L3⟩

end Go.Proofs.Ytphchdjbhbmnbaa
namespace Go.Proofs.Ytphchdjbhbmnbaa
open Go.RowKit
set_option linter.unusedVariables false

def unfC (l2 : List (Int × Int)) (s : Int × Int) (f : Int) : List (Int × Int) := l2 ++ [(s.1, f)]
def unfS (l3 : List (Int × Int)) (i : Nat) (s : Int × Int) (f : Int) : List (Int × Int) := l3.take i ++ l3.drop (i + 1) ++ [(f, s.2)]
theorem own_pair (w : World) (p q : Int) : Own (w.alloc (.cells #[.int .i64 p, .int .i64 q] 69)) w.heap.size 1 [(p, q)] 1 := by
  refine ⟨by simp, fun j hj => ?_, fun k hk => ?_⟩
  · obtain rfl | rfl : j = 0 ∨ j = 1 := by omega
    · simp
    · simp
  · obtain rfl : k = 0 := by omega
    simp

/-- What the region that appends to Segs keeps. -/
abbrev UJ (wR : World) (Z A S : Nat) (x0 x1 x2 vs vy : Value) (W : World) : Prop := Out Z (Z + 1) wR W ∧ (∃ x, Box W Z x0 x1 x2 x) ∧ W.cell? ⟨A, 3, none⟩ = some vs ∧ W.cell? ⟨S, 1, none⟩ = some vy
theorem uj_out {wR W u : World} {Z A S lo hi : Nat} {x0 x1 x2 vs vy : Value} (h : UJ wR Z A S x0 x1 x2 vs vy W) (hb : Out lo hi W u) (hl : wR.heap.size ≤ lo) (hz : Z < wR.heap.size) (ha : A < wR.heap.size) (hs : S < wR.heap.size) : UJ wR Z A S x0 x1 x2 vs vy u := by
  obtain ⟨h0, ⟨x, h1⟩, h2, h3⟩ := h
  have hB : Below wR.heap.size W u := hb.below hl h0.size
  refine ⟨⟨hb.os.trans h0.os, hb.tape.trans h0.tape, hb.output.trans h0.output, Nat.le_trans h0.size hb.size, fun k hk hr => (hB.block k hk).trans (h0.block k hk hr)⟩, ⟨x, h1.below hB hz⟩, by rw [hB.cell (p := ⟨A, 3, none⟩) ha]; exact h2, by rw [hB.cell (p := ⟨S, 1, none⟩) hs]; exact h3⟩
theorem uj_keep {wR W u : World} {Z A S : Nat} {x0 x1 x2 vs vy : Value} (hz : Z < wR.heap.size ∧ A < wR.heap.size ∧ S < wR.heap.size) (h : UJ wR Z A S x0 x1 x2 vs vy W) (hb : Below W.heap.size W u) : UJ wR Z A S x0 x1 x2 vs vy u :=
  uj_out h (Out.ofBelow (lo := wR.heap.size) (hi := wR.heap.size) hb) (Nat.le_refl _) hz.1 hz.2.1 hz.2.2
theorem uj_al {wR W : World} {Z A S : Nat} {x0 x1 x2 vs vy : Value} (hz : Z < wR.heap.size ∧ A < wR.heap.size ∧ S < wR.heap.size) (o : Obj) (h : UJ wR Z A S x0 x1 x2 vs vy W) : UJ wR Z A S x0 x1 x2 vs vy (W.alloc o) := uj_keep hz h ((Below.refl _ _).alloc (Nat.le_refl _) o)
theorem uj_ad {wR W : World} {Z A S : Nat} {x0 x1 x2 vs vy : Value} (hz : Z < wR.heap.size ∧ A < wR.heap.size ∧ S < wR.heap.size) (h : UJ wR Z A S x0 x1 x2 vs vy W) : UJ wR Z A S x0 x1 x2 vs vy W.drew := uj_keep hz h (Below.refl _ _).drew
theorem uj_store {wR W : World} {Z A S : Nat} {x0 x1 x2 vs vy : Value} (hz : A ≠ Z ∧ S ≠ Z) (u : Value) (h : UJ wR Z A S x0 x1 x2 vs vy W) : UJ wR Z A S x0 x1 x2 vs vy (W.setCell ⟨Z, 3, none⟩ u) := by
  obtain ⟨h0, ⟨x, h1⟩, h2, h3⟩ := h
  refine ⟨h0.trans (Out.set Z 3 W u), ⟨u, h1.set3 u⟩, ?_, ?_⟩
  · rw [World.cell?_setCell_other _ _ _ _ (by intro e; injection e with e _; exact hz.1 e.symm)]; exact h2
  · rw [World.cell?_setCell_other _ _ _ _ (by intro e; injection e with e _; exact hz.2 e.symm)]; exact h3
theorem uj_own {wR W : World} {Z A S b n k : Nat} {x0 x1 x2 vs vy : Value} {l : List (Int × Int)} (o : Own wR b n l k) (hb : b < Z) (h : UJ wR Z A S x0 x1 x2 vs vy W) : Own W b n l k := o.out h.1 (.inl hb)
theorem uj_room {wR W u : World} {Z A S m c : Nat} {a : Option Addr} {l : List (Int × Int)} {x0 x1 x2 vs vy : Value} (hz : Z < wR.heap.size ∧ A < wR.heap.size ∧ S < wR.heap.size) (h : UJ wR Z A S x0 x1 x2 vs vy W) (hb : Below W.heap.size W u) (d : RoomIn u W.heap.size u.heap.size a m c l) : UJ wR Z A S x0 x1 x2 vs vy u ∧ RoomIn u wR.heap.size u.heap.size a m c l ∧ wR.heap.size ≤ u.heap.size := ⟨uj_keep hz h hb, d.mono h.1.size (Nat.le_refl _), Nat.le_trans h.1.size hb.size⟩
theorem pair_be {w u : World} {p q : Int} (h : Below ((w.alloc (.cells #[.int .i64 p, .int .i64 q] 69)).drew).heap.size (w.alloc (.cells #[.int .i64 p, .int .i64 q] 69)).drew u) : Own u w.heap.size 1 [(p, q)] 1 := by
  have o := (own_pair w p q).below ((Below.refl _ _).drew) (own_pair w p q).1
  exact o.below h o.1

theorem RoomIn.ne {w : World} {lo hi n c : Nat} {a : Option Addr} {l : List (Int × Int)} (h : RoomIn w lo hi a n c l) : a ≠ none := by
  obtain ⟨_, ⟨_, _, _, rfl⟩ | ⟨_, rfl, _⟩⟩ := h <;> intro e <;> cases e
theorem RowOr.ne {w : World} {lo hi S n : Nat} {a : Option Addr} {l : List (Int × Int)} (h : RowOr w lo hi S a n l) (hn : 0 < n) : a ≠ none := by
  obtain ⟨_, h0 | ⟨_, rfl, _⟩⟩ := h
  · omega
  · intro e; cases e
theorem RowIn.ne {w : World} {lo hi n : Nat} {a : Option Addr} {l : List (Int × Int)} (h : RowIn w lo hi a n l) (hn : 0 < n) : a ≠ none := by
  obtain ⟨_, h0 | ⟨_, rfl, _⟩⟩ := h
  · omega
  · intro e; cases e

set_option maxRecDepth 20000 in
set_option maxHeartbeats 4000000 in
theorem l4unfold_ne (b0 b1 b2 b3 c0 c1 c2 c3 : Nat) (l0 l1 l2 l3 : List (Int × Int)) (i : Nat) (w : World) (n0 : l0.length ≤ 1048576) (n1 : l1.length ≤ 1048576) (n2 : l2.length ≤ 1048576) (n3 : l3.length ≤ 1048576) (o0 : Own w b0 l0.length l0 l0.length) (o1 : Own w b1 l1.length l1 l1.length) (o2 : Own w b2 l2.length l2 l2.length) (o3 : Own w b3 l3.length l3 l3.length) (z3 : l3.length ≤ c3) (ht : asnB l0 l1 l2 l3 = true) (hi : i < l3.length) (hf : 0 ≤ freshF (usedV l0 l1 l2 l3)) (hr : l2.length + l3.length < 6) :
    Calls Try.prog 177 #[.agg #[.slice (some ⟨b0, 0, none⟩) l0.length c0, .slice (some ⟨b1, 0, none⟩) l1.length c1, .slice (some ⟨b2, 0, none⟩) l2.length c2, .slice (some ⟨b3, 0, none⟩) l3.length c3], .int .i64 i] w fun e w' => ∃ p0 p1 p2 p3 q0 q1 q2 q3, e = .returned (.tuple #[.agg #[.slice p0 l0.length q0, .slice p1 l1.length q1, .slice p2 (l2.length + 1) q2, .slice p3 (i + (l3.length - (i + 1)) + 1) q3], .bool true]) ∧ Seen w' w.heap.size w'.heap.size p0 p1 p2 p3 l0.length l1.length (l2.length + 1) (i + (l3.length - (i + 1)) + 1) l0 l1 (unfC l2 (l3.getD i (0, 0)) (freshF (usedV l0 l1 l2 l3))) (unfS l3 i (l3.getD i (0, 0)) (freshF (usedV l0 l1 l2 l3))) ∧ (p0 ≠ none ∧ p1 ≠ none ∧ p2 ≠ none ∧ p3 ≠ none) ∧ Below w.heap.size w w' := by
  obtain ⟨f, hff⟩ : ∃ f, Hid (freshF (usedV l0 l1 l2 l3) = f) := ⟨_, rfl⟩
  rw [hff.out] at hf ⊢
  have zb := o3.1
  have A0 := (Box.new w (.slice (some ⟨b0, 0, none⟩) l0.length c0) (.slice (some ⟨b1, 0, none⟩) l1.length c1) (.slice (some ⟨b2, 0, none⟩) l2.length c2) (.slice (some ⟨b3, 0, none⟩) l3.length c3) 28).alloc (.cells #[.slice none 0 0, .slice none 0 0, .slice none 0 0, .slice none 0 0] 28)
  have R0 := Box.new (w.alloc (.cells #[.slice (some ⟨b0, 0, none⟩) l0.length c0, .slice (some ⟨b1, 0, none⟩) l1.length c1, .slice (some ⟨b2, 0, none⟩) l2.length c2, .slice (some ⟨b3, 0, none⟩) l3.length c3] 28)) (.slice none 0 0) (.slice none 0 0) (.slice none 0 0) (.slice none 0 0) 28
  have L0 : Below w.heap.size w ((w.alloc (.cells #[.slice (some ⟨b0, 0, none⟩) l0.length c0, .slice (some ⟨b1, 0, none⟩) l1.length c1, .slice (some ⟨b2, 0, none⟩) l2.length c2, .slice (some ⟨b3, 0, none⟩) l3.length c3] 28)).alloc (.cells #[.slice none 0 0, .slice none 0 0, .slice none 0 0, .slice none 0 0] 28)) := ((Below.refl _ _).alloc (Nat.le_refl _) _).alloc (by simp) _
  rw [World.size_alloc] at R0
  go_enter Try.func177, Try.ntmps177
  go_wp2_with fail
  refine (l1fresh_any _ _ _ _ _ _ _ _ l0 l1 l2 l3 _ n0 n1 n2 n3 (o0.row.below L0 (Nat.le_refl _)) (o1.row.below L0 (Nat.le_refl _)) (o2.row.below L0 (Nat.le_refl _)) (o3.row.below L0 (Nat.le_refl _)) ht).mono ?_
  rintro e w1 ⟨rfl, hb⟩
  rw [hff.out]
  replace A0 := A0.below hb A0.lt; replace R0 := R0.below hb R0.lt; replace L0 := L0.trans (hb.mono L0.size)
  replace o0 := o0.below (L0) o0.1; replace o1 := o1.below (L0) o1.1; replace o2 := o2.below (L0) o2.1; replace o3 := o3.below (L0) o3.1
  clear hb ht
  have A0c0 := A0.c0; have A0c1 := A0.c1; have A0c2 := A0.c2; have A0c3 := A0.c3
  have hfn : ¬ f < 0 := by omega
  have hrn : ¬ (6 ≤ (l2.length : Int) + (l3.length : Int)) := by omega
  have s0 := o3.2.2 i hi
  obtain ⟨sg, HSG⟩ : ∃ sg, Hid (l3.getD i (0, 0) = sg) := ⟨_, rfl⟩
  rw [HSG.out] at s0
  have hil : (i : Int) < (l3.length : Int) := by omega
  have zA := A0.lt
  have zR := R0.lt
  go_wp2_with fail
  have K1 := own_pair w1 sg.1 sg.2
  have al : Below w1.heap.size w1 (w1.alloc (.cells #[.int .i64 sg.1, .int .i64 sg.2] 69)) := (Below.refl _ _).alloc (Nat.le_refl _) _
  replace A0 := A0.below al A0.lt; replace R0 := R0.below al R0.lt; replace L0 := L0.trans (al.mono L0.size)
  replace o0 := o0.below (al) o0.1; replace o1 := o1.below (al) o1.1; replace o2 := o2.below (al) o2.1; replace o3 := o3.below (al) o3.1
  clear al A0c0 A0c1 A0c2 A0c3 s0
  have zS : (w1.alloc (.cells #[.int .i64 sg.1, .int .i64 sg.2] 69)).heap.size = w1.heap.size + 1 := by simp
  generalize w1.alloc (.cells #[.int .i64 sg.1, .int .i64 sg.2] 69) = w2 at *
  generalize hS : w1.heap.size = S at *
  clear hS
  refine (l1own_any b0 b1 b2 b3 c0 c1 c2 c3 l0 l1 l2 l3 _ n0 n1 n2 n3 o0 o1 o2 o3).mono ?_
  rintro e u0 ⟨a0, a1, a2, a3, e0, e1, e2, e3, m1, m2, m3, m4, rfl, t0, t1, t2, t3, g1, g2, g3, g4, g5, hb⟩
  have hz := hb.size
  have zb3 := Nat.lt_of_lt_of_le o3.1 hz
  replace A0 := A0.below hb A0.lt; replace R0 := R0.below hb R0.lt; replace L0 := L0.trans (hb.mono L0.size); replace K1 := K1.below hb K1.1; replace o3 := o3.below hb o3.1
  clear hb o0 o1 o2 t3
  have X0 := Box.new u0 (.slice a0 l0.length e0) (.slice a1 l1.length e1) (.slice a2 l2.length e2) (.slice a3 l3.length e3) 28
  have al : Below u0.heap.size u0 (u0.alloc (.cells #[.slice a0 l0.length e0, .slice a1 l1.length e1, .slice a2 l2.length e2, .slice a3 l3.length e3] 28)) := (Below.refl _ _).alloc (Nat.le_refl _) _
  have zU : (u0.alloc (.cells #[.slice a0 l0.length e0, .slice a1 l1.length e1, .slice a2 l2.length e2, .slice a3 l3.length e3] 28)).heap.size = u0.heap.size + 1 := by simp
  replace t0 := t0.below al (by omega); replace t1 := t1.below al (by omega); replace t2 := t2.below al (by omega)
  replace A0 := A0.below al A0.lt; replace R0 := R0.below al R0.lt; replace L0 := L0.trans (al.mono L0.size); replace K1 := K1.below al K1.1; replace o3 := o3.below al o3.1
  clear al
  have T2 := t2.below ((Below.refl _ _).alloc (Nat.le_refl _) (.cells #[.int .i64 sg.1, .int .i64 f] 69)) (by omega)
  have xx := Box.new u0 (.slice a0 l0.length e0) (.slice a1 l1.length e1) (.slice a2 l2.length e2) (.slice a3 l3.length e3) 28
  have x0 := X0.c0; have x1 := X0.c1; have x2 := X0.c2; have x3 := X0.c3; have xf := X0.f2
  have y1 := (K1.2.2 0 (by omega)).1
  have y2 := (K1.2.2 0 (by omega)).2
  have zS2 : S < u0.heap.size := by omega
  go_wp2_with (first | (at_builtin; refine wpList_room rfl _ _ rfl m2 m3 a2 l2.length e2 l2 rfl (by exact T2) (u0.heap.size + 1) 1 1 [(sg.1, f)] rfl rfl (by rw [← zU]; exact own_pair _ _ _) (by omega) (by simp; omega) ?_))
  intro p2 q2 u5 r2 ho
  have al : Below (u0.alloc (.cells #[.slice a0 l0.length e0, .slice a1 l1.length e1, .slice a2 l2.length e2, .slice a3 l3.length e3] 28)).heap.size (u0.alloc (.cells #[.slice a0 l0.length e0, .slice a1 l1.length e1, .slice a2 l2.length e2, .slice a3 l3.length e3] 28)) ((u0.alloc (.cells #[.slice a0 l0.length e0, .slice a1 l1.length e1, .slice a2 l2.length e2, .slice a3 l3.length e3] 28)).alloc (.cells #[.int .i64 sg.1, .int .i64 f] 69)) := (Below.refl _ _).alloc (Nat.le_refl _) _
  have zV : ((u0.alloc (.cells #[.slice a0 l0.length e0, .slice a1 l1.length e1, .slice a2 l2.length e2, .slice a3 l3.length e3] 28)).alloc (.cells #[.int .i64 sg.1, .int .i64 f] 69)).heap.size = u0.heap.size + 2 := by simp
  replace X0 := X0.below al X0.lt; replace t0 := t0.below al (by omega); replace t1 := t1.below al (by omega)
  replace A0 := A0.below al A0.lt; replace R0 := R0.below al R0.lt; replace L0 := L0.trans (al.mono L0.size); replace K1 := K1.below al K1.1; replace o3 := o3.below al o3.1
  clear al x0 x1 x2 x3 xf y1 y2 T2 xx t2
  have hs5 := ho.size
  replace X0 := X0.out ho (.inr (by omega)); replace t0 := t0.out ho (.inl (by omega)); replace t1 := t1.out ho (.inl (by omega))
  replace A0 := A0.out ho (.inl (by omega)); replace R0 := R0.out ho (.inl (by omega)); replace L0 := L0.trans (ho.below (by omega) L0.size); replace K1 := K1.out ho (.inl (by omega)); replace o3 := o3.out ho (.inl (by omega))
  clear ho
  generalize hZ : u0.heap.size = Z at *
  clear hZ
  have x2 := X0.c2; have xf := X0.f2
  go_upto_region 7 with fail
  have ho := Out.set Z 2 u5 (.slice p2 (l2.length + 1) q2)
  replace X0 := X0.set2 (.slice p2 (l2.length + 1) q2)
  replace t0 := t0.out ho (.inl (by omega)); replace t1 := t1.out ho (.inl (by omega)); replace r2 := r2.out ho (.inl (by omega)) (by omega)
  replace A0 := A0.out ho (.inl (by omega)); replace R0 := R0.out ho (.inl (by omega)); replace L0 := L0.trans (ho.below (by omega) L0.size); replace K1 := K1.out ho (.inl (by omega)); replace o3 := o3.out ho (.inl (by omega))
  have hsz : (u5.setCell ⟨Z, 2, none⟩ (.slice p2 (l2.length + 1) q2)).heap.size = u5.heap.size := by simp
  clear ho x2 xf
  generalize u5.setCell ⟨Z, 2, none⟩ (.slice p2 (l2.length + 1) q2) = wR at *
  rw [← hsz] at hs5
  clear hsz
  have zz : Z < wR.heap.size ∧ w.heap.size < wR.heap.size ∧ S < wR.heap.size := by omega
  have zn : w.heap.size ≠ Z ∧ S ≠ Z := by omega
  have zb3' : b3 < Z := by omega
  have ky := (K1.2.2 0 (by omega)).2
  have hS1 : UJ wR Z w.heap.size S (.slice a0 l0.length e0) (.slice a1 l1.length e1) (.slice p2 (l2.length + 1) q2) (.slice (some ⟨b3, 0, none⟩) l3.length c3) (.int .i64 sg.2) wR := ⟨Out.refl _ _ _, ⟨_, X0⟩, A0.c3, ky⟩
  have hS0 := uj_ad zz hS1
  go_cut [] (fun wz => ∃ p3 q3, Box wz Z (.slice a0 l0.length e0) (.slice a1 l1.length e1) (.slice p2 (l2.length + 1) q2) (.slice p3 (i + (l3.length - (i + 1)) + 1) q3) ∧ RowIn wz wR.heap.size wz.heap.size p3 (i + (l3.length - (i + 1)) + 1) (l3.take i ++ l3.drop (i + 1) ++ [(f, sg.2)]) ∧ Out Z (Z + 1) wR wz)
  case first =>
    go_region_held3 (fun W => Out Z (Z + 1) wR W ∧ (∃ x, Box W Z (.slice a0 l0.length e0) (.slice a1 l1.length e1) (.slice p2 (l2.length + 1) q2) x) ∧ W.cell? ⟨w.heap.size, 3, none⟩ = some (.slice (some ⟨b3, 0, none⟩) l3.length c3) ∧ W.cell? ⟨S, 1, none⟩ = some (.int .i64 sg.2))
      (first | exact hS0 | exact hS1 | assumption | (refine uj_ad zz ?_; assumption) | (refine uj_al zz _ ?_; (first | exact hS0 | exact hS1 | assumption)) | exact uj_ad zz (uj_al zz _ hS1) | (refine uj_store zn _ ?_; assumption) | (refine ⟨?_, ?_, ?_, ?_⟩ <;> assumption))
      (first
        | (go_at_call 180; refine (l4without_any b3 c3 l3 i _ hi n3 z3 (uj_own o3 zb3' (by assumption))).mono ?_; rintro e u6 ⟨x6, y6, rfl, d6, h6⟩; have kk := uj_room zz (by assumption) h6 d6; have k1 := kk.1; have d6' := kk.2.1; have g6 := kk.2.2)
        | (refine step_roomR (by rfl) _ _ (by rfl) wR.heap.size u6.heap.size x6 (i + (l3.length - (i + 1))) y6 (l3.take i ++ l3.drop (i + 1)) (by rfl) (d6'.below ((Below.refl _ _).alloc (Nat.le_refl _) _) (Nat.le_refl _)) ⟨u6.heap.size, 0, none⟩ 1 1 [(f, sg.2)] (by rfl) rfl (own_pair u6 f sg.2).row (by omega) (Nat.le_trans g6 (by simp)) (by simp) ?_; rintro x7 y7 u7 d7 h7; have k2 := uj_out (uj_al zz _ k1) h7 (Nat.le_refl _) zz.1 zz.2.1 zz.2.2; obtain ⟨xo, bx⟩ := k2.2.1; have c3' := bx.c3; have f3' := bx.f3)
        | (refine step_roomR (by rfl) _ _ (by rfl) wR.heap.size u6.heap.size x6 (i + (l3.length - (i + 1))) y6 (l3.take i ++ l3.drop (i + 1)) (by rfl) d6' ⟨wR.heap.size, 0, none⟩ 1 1 [(f, sg.2)] (by rfl) rfl (pair_be h6).row (by omega) g6 (Nat.le_refl _) ?_; rintro x7 y7 u7 d7 h7; have k2 := uj_out k1 h7 (Nat.le_refl _) zz.1 zz.2.1 zz.2.2; obtain ⟨xo, bx⟩ := k2.2.1; have c3' := bx.c3; have f3' := bx.f3))
    all_goals
      have bz := bx.set3 (.slice x7 (i + (l3.length - (i + 1)) + 1) y7)
      have ho7 := k2.1.trans (Out.set Z 3 u7 (.slice x7 (i + (l3.length - (i + 1)) + 1) y7))
      have d7' := d7.row.out (Out.set Z 3 u7 (.slice x7 (i + (l3.length - (i + 1)) + 1) y7)) (.inr (by omega))
      go_wp2_with fail
      go_meet
      exact ⟨x7, y7, bz, by simpa using d7', ho7⟩
  case rest =>
    obtain ⟨p3, q3, X7, r3, hO⟩ := hcut
    rename World => w7
    clear hS0 hS1 ky A0 K1 o3
    have s7 := hO.size
    replace t0 := t0.out hO (.inl (by omega)); replace t1 := t1.out hO (.inl (by omega)); replace r2 := r2.out hO (.inl (by omega)) (by omega)
    replace R0 := R0.out hO (.inl (by omega)); replace L0 := L0.trans (hO.below (by omega) L0.size)
    clear hO
    obtain ⟨F, FO⟩ := R0.fill (.slice a0 l0.length e0) (.slice a1 l1.length e1) (.slice p2 (l2.length + 1) q2) (.slice p3 (i + (l3.length - (i + 1)) + 1) q3)
    have x0 := X7.c0; have x1 := X7.c1; have x2 := X7.c2; have x3 := X7.c3
    have j0' := R0.c0; have j1' := R0.c1; have j2' := R0.c2; have j3' := R0.c3
    have g0 := R0.f0; have g1 := R0.f1; have g2 := R0.f2; have g3 := R0.f3
    go_wp2
    have i0 := F.c0; have i1 := F.c1; have i2 := F.c2; have i3 := F.c3
    refine bodyPost_ret (v := .tuple #[.agg #[.slice a0 l0.length e0, .slice a1 l1.length e1, .slice p2 (l2.length + 1) q2, .slice p3 (i + (l3.length - (i + 1)) + 1) q3], .bool true]) ?_ rfl ⟨a0, a1, p2, p3, e0, e1, q2, q3, rfl, ?_, ⟨t0.ne, t1.ne, r2.ne (by omega), r3.ne (by omega)⟩, ?_⟩
    · simp [results, Try.results177, go_sem, i0, i1, i2, i3]
    · have hfs := FO.size
      rw [HSG.out]
      exact ⟨(t0.row.out FO (.inr (by omega))).mono (by omega) (by omega), (t1.row.out FO (.inr (by omega))).mono (by omega) (by omega), ((r2.row (B := w.heap.size + 2) (by omega) (by omega)).out FO (.inr (by omega))).mono (by omega) (by omega), (r3.out FO (.inr (by omega))).mono (by omega) (by omega)⟩
    · exact L0.trans (FO.below (by omega) L0.size)

theorem l4unfold_yes (b0 b1 b2 b3 c0 c1 c2 c3 : Nat) (l0 l1 l2 l3 : List (Int × Int)) (i : Nat) (w : World) (n0 : l0.length ≤ 1048576) (n1 : l1.length ≤ 1048576) (n2 : l2.length ≤ 1048576) (n3 : l3.length ≤ 1048576) (o0 : Own w b0 l0.length l0 l0.length) (o1 : Own w b1 l1.length l1 l1.length) (o2 : Own w b2 l2.length l2 l2.length) (o3 : Own w b3 l3.length l3 l3.length) (z3 : l3.length ≤ c3) (ht : asnB l0 l1 l2 l3 = true) (hi : i < l3.length) (hf : 0 ≤ freshF (usedV l0 l1 l2 l3)) (hr : l2.length + l3.length < 6) :
    Calls Try.prog 177 #[.agg #[.slice (some ⟨b0, 0, none⟩) l0.length c0, .slice (some ⟨b1, 0, none⟩) l1.length c1, .slice (some ⟨b2, 0, none⟩) l2.length c2, .slice (some ⟨b3, 0, none⟩) l3.length c3], .int .i64 i] w fun e w' => ∃ p0 p1 p2 p3 q0 q1 q2 q3, e = .returned (.tuple #[.agg #[.slice p0 l0.length q0, .slice p1 l1.length q1, .slice p2 (l2.length + 1) q2, .slice p3 (i + (l3.length - (i + 1)) + 1) q3], .bool true]) ∧ Seen w' w.heap.size w'.heap.size p0 p1 p2 p3 l0.length l1.length (l2.length + 1) (i + (l3.length - (i + 1)) + 1) l0 l1 (unfC l2 (l3.getD i (0, 0)) (freshF (usedV l0 l1 l2 l3))) (unfS l3 i (l3.getD i (0, 0)) (freshF (usedV l0 l1 l2 l3))) ∧ Below w.heap.size w w' :=
  (l4unfold_ne b0 b1 b2 b3 c0 c1 c2 c3 l0 l1 l2 l3 i w n0 n1 n2 n3 o0 o1 o2 o3 z3 ht hi hf hr).mono fun e w' h => by
    obtain ⟨p0, p1, p2, p3, q0, q1, q2, q3, h1, h2, _, h3⟩ := h
    exact ⟨p0, p1, p2, p3, q0, q1, q2, q3, h1, h2, h3⟩

set_option maxRecDepth 20000 in
set_option maxHeartbeats 2000000 in
theorem l4unfold_no (b0 b1 b2 b3 c0 c1 c2 c3 : Nat) (l0 l1 l2 l3 : List (Int × Int)) (i : Nat) (w : World) (n0 : l0.length ≤ 1048576) (n1 : l1.length ≤ 1048576) (n2 : l2.length ≤ 1048576) (n3 : l3.length ≤ 1048576) (o0 : Own w b0 l0.length l0 l0.length) (o1 : Own w b1 l1.length l1 l1.length) (o2 : Own w b2 l2.length l2 l2.length) (o3 : Own w b3 l3.length l3 l3.length) (ht : asnB l0 l1 l2 l3 = true) (hno : freshF (usedV l0 l1 l2 l3) < 0 ∨ 6 ≤ l2.length + l3.length) :
    Calls Try.prog 177 #[.agg #[.slice (some ⟨b0, 0, none⟩) l0.length c0, .slice (some ⟨b1, 0, none⟩) l1.length c1, .slice (some ⟨b2, 0, none⟩) l2.length c2, .slice (some ⟨b3, 0, none⟩) l3.length c3], .int .i64 i] w fun e w' => e = .returned (.tuple #[.agg #[.slice (some ⟨b0, 0, none⟩) l0.length c0, .slice (some ⟨b1, 0, none⟩) l1.length c1, .slice (some ⟨b2, 0, none⟩) l2.length c2, .slice (some ⟨b3, 0, none⟩) l3.length c3], .bool false]) ∧ Below w.heap.size w w' := by
  obtain ⟨f, hff⟩ : ∃ f, Hid (freshF (usedV l0 l1 l2 l3) = f) := ⟨_, rfl⟩
  rw [hff.out] at hno
  have A0 := (Box.new w (.slice (some ⟨b0, 0, none⟩) l0.length c0) (.slice (some ⟨b1, 0, none⟩) l1.length c1) (.slice (some ⟨b2, 0, none⟩) l2.length c2) (.slice (some ⟨b3, 0, none⟩) l3.length c3) 28).alloc (.cells #[.slice none 0 0, .slice none 0 0, .slice none 0 0, .slice none 0 0] 28)
  have R0 := Box.new (w.alloc (.cells #[.slice (some ⟨b0, 0, none⟩) l0.length c0, .slice (some ⟨b1, 0, none⟩) l1.length c1, .slice (some ⟨b2, 0, none⟩) l2.length c2, .slice (some ⟨b3, 0, none⟩) l3.length c3] 28)) (.slice none 0 0) (.slice none 0 0) (.slice none 0 0) (.slice none 0 0) 28
  have L0 : Below w.heap.size w ((w.alloc (.cells #[.slice (some ⟨b0, 0, none⟩) l0.length c0, .slice (some ⟨b1, 0, none⟩) l1.length c1, .slice (some ⟨b2, 0, none⟩) l2.length c2, .slice (some ⟨b3, 0, none⟩) l3.length c3] 28)).alloc (.cells #[.slice none 0 0, .slice none 0 0, .slice none 0 0, .slice none 0 0] 28)) := ((Below.refl _ _).alloc (Nat.le_refl _) _).alloc (by simp) _
  rw [World.size_alloc] at R0
  go_enter Try.func177, Try.ntmps177
  go_wp2_with fail
  refine (l1fresh_any _ _ _ _ _ _ _ _ l0 l1 l2 l3 _ n0 n1 n2 n3 (o0.row.below L0 (Nat.le_refl _)) (o1.row.below L0 (Nat.le_refl _)) (o2.row.below L0 (Nat.le_refl _)) (o3.row.below L0 (Nat.le_refl _)) ht).mono ?_
  rintro e w1 ⟨rfl, hb⟩
  rw [hff.out]
  replace A0 := A0.below hb A0.lt; replace R0 := R0.below hb R0.lt; replace L0 := L0.trans (hb.mono L0.size)
  clear hb ht o0 o1 o2 o3
  have A0c0 := A0.c0; have A0c1 := A0.c1; have A0c2 := A0.c2; have A0c3 := A0.c3
  obtain ⟨F, FO⟩ := R0.fill (.slice (some ⟨b0, 0, none⟩) l0.length c0) (.slice (some ⟨b1, 0, none⟩) l1.length c1) (.slice (some ⟨b2, 0, none⟩) l2.length c2) (.slice (some ⟨b3, 0, none⟩) l3.length c3)
  have j0' := R0.c0; have j1' := R0.c1; have j2' := R0.c2; have j3' := R0.c3
  have g0 := R0.f0; have g1 := R0.f1; have g2 := R0.f2; have g3 := R0.f3
  have i0 := F.c0; have i1 := F.c1; have i2 := F.c2; have i3 := F.c3
  by_cases hf : f < 0
  · go_wp2
    refine bodyPost_ret (v := .tuple #[.agg #[.slice (some ⟨b0, 0, none⟩) l0.length c0, .slice (some ⟨b1, 0, none⟩) l1.length c1, .slice (some ⟨b2, 0, none⟩) l2.length c2, .slice (some ⟨b3, 0, none⟩) l3.length c3], .bool false]) ?_ rfl ⟨rfl, L0.trans (FO.below (by omega) L0.size)⟩
    simp [results, Try.results177, go_sem, i0, i1, i2, i3]
  · have hr : 6 ≤ (l2.length : Int) + (l3.length : Int) := by omega
    go_wp2
    refine bodyPost_ret (v := .tuple #[.agg #[.slice (some ⟨b0, 0, none⟩) l0.length c0, .slice (some ⟨b1, 0, none⟩) l1.length c1, .slice (some ⟨b2, 0, none⟩) l2.length c2, .slice (some ⟨b3, 0, none⟩) l3.length c3], .bool false]) ?_ rfl ⟨rfl, L0.trans (FO.below (by omega) L0.size)⟩
    simp [results, Try.results177, go_sem, i0, i1, i2, i3]

end Go.Proofs.Ytphchdjbhbmnbaa
