/-
  The contract of spec.Without.
-/
import Derived.Test.YtldhbooginlcpaaWts0
import Derived.Test.YtldhbooginlcpaaCu
import Derived.Test.YtldhbooginlcpaaSr
namespace Go.Proofs.Ytldhbooginlcpaa
open Go.RowKit
set_option linter.unusedVariables false

theorem kind_cap {c0 c1 c2 c3 : Nat} {l0 l1 l2 l3 : List (Int × Int)} (z0 : l0.length ≤ c0) (z1 : l1.length ≤ c1) (z2 : l2.length ≤ c2) (z3 : l3.length ≤ c3) (k : Int) : (kindL l0 l1 l2 l3 k).length ≤ kindB c0 c1 c2 c3 k := by
  unfold kindL kindB
  split
  · exact z0
  · split
    · exact z1
    · split
      · exact z2
      · exact z3

theorem jS_out {w W u : World} {lo hi : Nat} {v0 v1 v2 v3 : Value} (h : Below w.heap.size w W ∧ Own W (w.heap.size + 1) 2 [] 0 ∧ W.cell? ⟨w.heap.size, 0, none⟩ = some v0 ∧ W.cell? ⟨w.heap.size, 1, none⟩ = some v1 ∧ W.cell? ⟨w.heap.size, 2, none⟩ = some v2 ∧ W.cell? ⟨w.heap.size, 3, none⟩ = some v3) (ho : Out lo hi W u) (hl : w.heap.size + 2 ≤ lo) : Below w.heap.size w u ∧ Own u (w.heap.size + 1) 2 [] 0 ∧ u.cell? ⟨w.heap.size, 0, none⟩ = some v0 ∧ u.cell? ⟨w.heap.size, 1, none⟩ = some v1 ∧ u.cell? ⟨w.heap.size, 2, none⟩ = some v2 ∧ u.cell? ⟨w.heap.size, 3, none⟩ = some v3 := by
  obtain ⟨h0, h5, h1, h2, h3, h4⟩ := h
  have z := World.block_lt_of_cell? _ _ h1
  have e : ∀ o, u.cell? ⟨w.heap.size, o, none⟩ = W.cell? ⟨w.heap.size, o, none⟩ := fun o => World.cell?_of_block (w := W) (ho.block w.heap.size z (.inl (by omega)))
  exact ⟨h0.trans (ho.below (by omega) h0.size), h5.out ho (.inl (by omega)), by rw [e]; exact h1, by rw [e]; exact h2, by rw [e]; exact h3, by rw [e]; exact h4⟩

theorem seen2 {u0 W u1 : World} {lo hi : Nat} {a0 a1 a2 a3 : Option Addr} {n0 n1 n2 n3 : Nat} {l0 l1 l2 l3 : List (Int × Int)} (T : Seen u0 lo hi a0 a1 a2 a3 n0 n1 n2 n3 l0 l1 l2 l3) (hh : hi ≤ u0.heap.size) (h1 : Below u0.heap.size u0 W) (h2 : Below W.heap.size W u1) : Seen u1 lo hi a0 a1 a2 a3 n0 n1 n2 n3 l0 l1 l2 l3 :=
  (T.below h1 hh).below h2 (Nat.le_trans hh h1.size)

theorem pick_row {u : World} {lo hi : Nat} {ax ay : Option Addr} {nx ny : Nat} {lx ly : List (Int × Int)} (k j : Nat) (X : RowIn u lo hi ax nx lx) (Y : RowIn u lo hi ay ny ly) : RowIn u lo hi (pick k j ax ay) (pick k j nx ny) (pick k j lx ly) := by
  unfold pick; split
  · exact X
  · exact Y

theorem pick_wth (l0 l1 l2 l3 : List (Int × Int)) (k : Nat) (hk : k < 4) (i : Nat) :
    pick k 0 ((kindL l0 l1 l2 l3 k).take i ++ (kindL l0 l1 l2 l3 k).drop (i + 1)) l0 = wthL l0 (k : Int) 0 (i : Int) ∧ pick k 1 ((kindL l0 l1 l2 l3 k).take i ++ (kindL l0 l1 l2 l3 k).drop (i + 1)) l1 = wthL l1 (k : Int) 1 (i : Int) ∧ pick k 2 ((kindL l0 l1 l2 l3 k).take i ++ (kindL l0 l1 l2 l3 k).drop (i + 1)) l2 = wthL l2 (k : Int) 2 (i : Int) ∧ pick k 3 ((kindL l0 l1 l2 l3 k).take i ++ (kindL l0 l1 l2 l3 k).drop (i + 1)) l3 = wthL l3 (k : Int) 3 (i : Int) := by
  obtain rfl | rfl | rfl | rfl : k = 0 ∨ k = 1 ∨ k = 2 ∨ k = 3 := by omega
  · exact ⟨rfl, rfl, rfl, rfl⟩
  · exact ⟨rfl, rfl, rfl, rfl⟩
  · exact ⟨rfl, rfl, rfl, rfl⟩
  · exact ⟨rfl, rfl, rfl, rfl⟩

theorem pick_len (k j : Nat) (l m : List (Int × Int)) (n n' : Nat) (h1 : l.length = n) (h2 : m.length = n') : pick k j n n' = (pick k j l m).length := by
  unfold pick; split
  · exact h1.symm
  · exact h2.symm

set_option maxRecDepth 20000 in
set_option maxHeartbeats 16000000 in
theorem sWithout_any (b0 b1 b2 b3 c0 c1 c2 c3 : Nat) (l0 l1 l2 l3 : List (Int × Int)) (kind i : Int) (w : World) (n0 : l0.length ≤ 1048576) (n1 : l1.length ≤ 1048576) (n2 : l2.length ≤ 1048576) (n3 : l3.length ≤ 1048576) (o0 : Own w b0 l0.length l0 l0.length) (o1 : Own w b1 l1.length l1 l1.length) (o2 : Own w b2 l2.length l2 l2.length) (o3 : Own w b3 l3.length l3 l3.length) (z0 : l0.length ≤ c0) (z1 : l1.length ≤ c1) (z2 : l2.length ≤ c2) (z3 : l3.length ≤ c3) :
    Calls Try.prog 51 #[.agg #[.slice (some ⟨b0, 0, none⟩) l0.length c0, .slice (some ⟨b1, 0, none⟩) l1.length c1, .slice (some ⟨b2, 0, none⟩) l2.length c2, .slice (some ⟨b3, 0, none⟩) l3.length c3], .int .i64 kind, .int .i64 i] w fun e w' => ∃ p0 p1 p2 p3 q0 q1 q2 q3, e = .returned (.tuple #[.agg #[.slice p0 (okL (wthB l0 l1 l2 l3 kind i) (wthL l0 kind 0 i)).length q0, .slice p1 (okL (wthB l0 l1 l2 l3 kind i) (wthL l1 kind 1 i)).length q1, .slice p2 (okL (wthB l0 l1 l2 l3 kind i) (wthL l2 kind 2 i)).length q2, .slice p3 (okL (wthB l0 l1 l2 l3 kind i) (wthL l3 kind 3 i)).length q3], .bool (wthB l0 l1 l2 l3 kind i)]) ∧ Seen w' w.heap.size w'.heap.size p0 p1 p2 p3 (okL (wthB l0 l1 l2 l3 kind i) (wthL l0 kind 0 i)).length (okL (wthB l0 l1 l2 l3 kind i) (wthL l1 kind 1 i)).length (okL (wthB l0 l1 l2 l3 kind i) (wthL l2 kind 2 i)).length (okL (wthB l0 l1 l2 l3 kind i) (wthL l3 kind 3 i)).length (okL (wthB l0 l1 l2 l3 kind i) (wthL l0 kind 0 i)) (okL (wthB l0 l1 l2 l3 kind i) (wthL l1 kind 1 i)) (okL (wthB l0 l1 l2 l3 kind i) (wthL l2 kind 2 i)) (okL (wthB l0 l1 l2 l3 kind i) (wthL l3 kind 3 i)) ∧ Below w.heap.size w w' := by
  have A0 := (Box.new w (.slice (some ⟨b0, 0, none⟩) l0.length c0) (.slice (some ⟨b1, 0, none⟩) l1.length c1) (.slice (some ⟨b2, 0, none⟩) l2.length c2) (.slice (some ⟨b3, 0, none⟩) l3.length c3) 28).alloc (.cells #[.slice none 0 0, .slice none 0 0, .slice none 0 0, .slice none 0 0] 28)
  have R0 := Box.new (w.alloc (.cells #[.slice (some ⟨b0, 0, none⟩) l0.length c0, .slice (some ⟨b1, 0, none⟩) l1.length c1, .slice (some ⟨b2, 0, none⟩) l2.length c2, .slice (some ⟨b3, 0, none⟩) l3.length c3] 28)) (.slice none 0 0) (.slice none 0 0) (.slice none 0 0) (.slice none 0 0) 28
  rw [World.size_alloc] at R0
  have L0 : Below w.heap.size w ((w.alloc (.cells #[.slice (some ⟨b0, 0, none⟩) l0.length c0, .slice (some ⟨b1, 0, none⟩) l1.length c1, .slice (some ⟨b2, 0, none⟩) l2.length c2, .slice (some ⟨b3, 0, none⟩) l3.length c3] 28)).alloc (.cells #[.slice none 0 0, .slice none 0 0, .slice none 0 0, .slice none 0 0] 28)) := ((Below.refl _ _).alloc (Nat.le_refl _) _).alloc (by simp) _
  have HK : Hid (∀ k : Int, Own w (kindB b0 b1 b2 b3 k) (kindL l0 l1 l2 l3 k).length (kindL l0 l1 l2 l3 k) (kindL l0 l1 l2 l3 k).length ∧ (kindL l0 l1 l2 l3 k).length ≤ 1048576 ∧ (kindL l0 l1 l2 l3 k).length ≤ (kindB c0 c1 c2 c3 k)) := fun k => ⟨kind_own o0 o1 o2 o3 k, kind_le n0 n1 n2 n3 k, kind_cap z0 z1 z2 z3 k⟩
  go_enter Try.func51, Try.ntmps51
  go_wp2_with fail
  refine (sAsnOk_any _ _ _ _ _ _ _ _ _ _ _ _ _ n0 n1 n2 n3 (by exact (o0.below L0 o0.1).row) (by exact (o1.below L0 o1.1).row) (by exact (o2.below L0 o2.1).row) (by exact (o3.below L0 o3.1).row)).mono ?_
  rintro e w1 ⟨rfl, hb⟩
  replace A0 := A0.below hb A0.lt; replace R0 := R0.below hb R0.lt; replace L0 := L0.trans (hb.mono L0.size)
  clear hb
  have A0c0 := A0.c0; have A0c1 := A0.c1; have A0c2 := A0.c2; have A0c3 := A0.c3
  cases h1 : asnB l0 l1 l2 l3
  · have HE : Hid ((wthB l0 l1 l2 l3 kind i) = false) := by show (wthB l0 l1 l2 l3 kind i) = false; unfold wthB; rw [h1]; rfl
    obtain ⟨F, FO⟩ := R0.fill (.slice none 0 0) (.slice none 0 0) (.slice none 0 0) (.slice none 0 0)
    have j0' := R0.c0; have j1' := R0.c1; have j2' := R0.c2; have j3' := R0.c3
    have g0 := R0.f0; have g1 := R0.f1; have g2 := R0.f2; have g3 := R0.f3
    go_wp2
    have i0 := F.c0; have i1 := F.c1; have i2 := F.c2; have i3 := F.c3
    refine bodyPost_ret (v := .tuple #[.agg #[.slice none 0 0, .slice none 0 0, .slice none 0 0, .slice none 0 0], .bool false]) ?_ rfl ⟨none, none, none, none, 0, 0, 0, 0, by rw [HE.out]; rfl, ?_, ?_⟩
    · simp [results, Try.results51, go_sem, i0, i1, i2, i3]
    · rw [HE.out]; exact Seen.none _ _ _
    · exact L0.trans (FO.below (by omega) L0.size)
  have H1 : Hid (asnB l0 l1 l2 l3 = true) := h1
  clear h1
  by_cases kd0 : kind < 0
  · have HE : Hid ((wthB l0 l1 l2 l3 kind i) = false) := by show (wthB l0 l1 l2 l3 kind i) = false; unfold wthB; rw [decide_eq_false (p := 0 ≤ kind ∧ _) (by omega)]; simp
    obtain ⟨F, FO⟩ := R0.fill (.slice none 0 0) (.slice none 0 0) (.slice none 0 0) (.slice none 0 0)
    have j0' := R0.c0; have j1' := R0.c1; have j2' := R0.c2; have j3' := R0.c3
    have g0 := R0.f0; have g1 := R0.f1; have g2 := R0.f2; have g3 := R0.f3
    go_wp2
    have i0 := F.c0; have i1 := F.c1; have i2 := F.c2; have i3 := F.c3
    refine bodyPost_ret (v := .tuple #[.agg #[.slice none 0 0, .slice none 0 0, .slice none 0 0, .slice none 0 0], .bool false]) ?_ rfl ⟨none, none, none, none, 0, 0, 0, 0, by rw [HE.out]; rfl, ?_, ?_⟩
    · simp [results, Try.results51, go_sem, i0, i1, i2, i3]
    · rw [HE.out]; exact Seen.none _ _ _
    · exact L0.trans (FO.below (by omega) L0.size)
  by_cases kd3 : 3 < kind
  · have HE : Hid ((wthB l0 l1 l2 l3 kind i) = false) := by show (wthB l0 l1 l2 l3 kind i) = false; unfold wthB; rw [decide_eq_false (p := 0 ≤ kind ∧ _) (by omega)]; simp
    obtain ⟨F, FO⟩ := R0.fill (.slice none 0 0) (.slice none 0 0) (.slice none 0 0) (.slice none 0 0)
    have j0' := R0.c0; have j1' := R0.c1; have j2' := R0.c2; have j3' := R0.c3
    have g0 := R0.f0; have g1 := R0.f1; have g2 := R0.f2; have g3 := R0.f3
    go_wp2
    have i0 := F.c0; have i1 := F.c1; have i2 := F.c2; have i3 := F.c3
    refine bodyPost_ret (v := .tuple #[.agg #[.slice none 0 0, .slice none 0 0, .slice none 0 0, .slice none 0 0], .bool false]) ?_ rfl ⟨none, none, none, none, 0, 0, 0, 0, by rw [HE.out]; rfl, ?_, ?_⟩
    · simp [results, Try.results51, go_sem, i0, i1, i2, i3]
    · rw [HE.out]; exact Seen.none _ _ _
    · exact L0.trans (FO.below (by omega) L0.size)
  by_cases hi0 : i < 0
  · have HE : Hid ((wthB l0 l1 l2 l3 kind i) = false) := by show (wthB l0 l1 l2 l3 kind i) = false; unfold wthB; rw [decide_eq_false (p := 0 ≤ i ∧ _) (by omega)]; simp
    obtain ⟨F, FO⟩ := R0.fill (.slice none 0 0) (.slice none 0 0) (.slice none 0 0) (.slice none 0 0)
    have j0' := R0.c0; have j1' := R0.c1; have j2' := R0.c2; have j3' := R0.c3
    have g0 := R0.f0; have g1 := R0.f1; have g2 := R0.f2; have g3 := R0.f3
    go_wp2
    have i0 := F.c0; have i1 := F.c1; have i2 := F.c2; have i3 := F.c3
    refine bodyPost_ret (v := .tuple #[.agg #[.slice none 0 0, .slice none 0 0, .slice none 0 0, .slice none 0 0], .bool false]) ?_ rfl ⟨none, none, none, none, 0, 0, 0, 0, by rw [HE.out]; rfl, ?_, ?_⟩
    · simp [results, Try.results51, go_sem, i0, i1, i2, i3]
    · rw [HE.out]; exact Seen.none _ _ _
    · exact L0.trans (FO.below (by omega) L0.size)
  obtain ⟨kk, rfl⟩ := Int.eq_ofNat_of_zero_le (show 0 ≤ kind by omega)
  obtain ⟨i, rfl⟩ := Int.eq_ofNat_of_zero_le (show 0 ≤ i by omega)
  have kk4 : kk < 4 := by omega
  go_wp2_with fail
  clear A0c0 A0c1 A0c2 A0c3
  refine (kind4 _ _ _ _ _ _ _ _ _ _ _ _ kk _ kk4).mono ?_
  rintro e w2 ⟨rfl, hb⟩
  replace A0 := A0.below hb A0.lt; replace R0 := R0.below hb R0.lt; replace L0 := L0.trans (hb.mono L0.size)
  clear hb
  have A0c0 := A0.c0; have A0c1 := A0.c1; have A0c2 := A0.c2; have A0c3 := A0.c3
  by_cases hi1 : (kindL l0 l1 l2 l3 kk).length ≤ i
  · have HE : Hid ((wthB l0 l1 l2 l3 (kk : Int) (i : Int)) = false) := by show (wthB l0 l1 l2 l3 (kk : Int) (i : Int)) = false; unfold wthB; rw [decide_eq_false (p := 0 ≤ (i : Int) ∧ _) (by omega)]; simp
    obtain ⟨F, FO⟩ := R0.fill (.slice none 0 0) (.slice none 0 0) (.slice none 0 0) (.slice none 0 0)
    have j0' := R0.c0; have j1' := R0.c1; have j2' := R0.c2; have j3' := R0.c3
    have g0 := R0.f0; have g1 := R0.f1; have g2 := R0.f2; have g3 := R0.f3
    go_wp2
    have i0 := F.c0; have i1 := F.c1; have i2 := F.c2; have i3 := F.c3
    refine bodyPost_ret (v := .tuple #[.agg #[.slice none 0 0, .slice none 0 0, .slice none 0 0, .slice none 0 0], .bool false]) ?_ rfl ⟨none, none, none, none, 0, 0, 0, 0, by rw [HE.out]; rfl, ?_, ?_⟩
    · simp [results, Try.results51, go_sem, i0, i1, i2, i3]
    · rw [HE.out]; exact Seen.none _ _ _
    · exact L0.trans (FO.below (by omega) L0.size)
  have HE : Hid ((wthB l0 l1 l2 l3 (kk : Int) (i : Int)) = true) := by show (wthB l0 l1 l2 l3 (kk : Int) (i : Int)) = true; unfold wthB; rw [H1.out, decide_eq_true (by omega), decide_eq_true (by omega)]; rfl
  go_wp2_with fail
  clear A0c0 A0c1 A0c2 A0c3
  refine (kind4 _ _ _ _ _ _ _ _ _ _ _ _ kk _ kk4).mono ?_
  rintro e w3 ⟨rfl, hb⟩
  replace A0 := A0.below hb A0.lt; replace R0 := R0.below hb R0.lt; replace L0 := L0.trans (hb.mono L0.size)
  clear hb
  obtain ⟨oK, nK, zK⟩ := HK.out kk
  obtain ⟨P0, P1, P2, P3⟩ := pick_wth l0 l1 l2 l3 kk kk4 i
  have e1 : ((kindL l0 l1 l2 l3 kk).take i).length = i := by rw [List.length_take]; omega
  have e2 : ((kindL l0 l1 l2 l3 kk).drop (i + 1)).length = (kindL l0 l1 l2 l3 kk).length - (i + 1) := by rw [List.length_drop]
  have rt : PRow w (some ⟨(kindB b0 b1 b2 b3 kk), 0, none⟩) ((kindL l0 l1 l2 l3 kk).take i) := oK.row.take i
  have rd : PRow w (some (dropA (kindB b0 b1 b2 b3 kk) 0 (kindB c0 c1 c2 c3 kk) (i + 1))) ((kindL l0 l1 l2 l3 kk).drop (i + 1)) := drop_row oK.row (i + 1) zK
  have hx : ∀ w : World, (Instr.slice 26 (.slice (some ⟨(kindB b0 b1 b2 b3 kk), 0, none⟩) (kindL l0 l1 l2 l3 kk).length (kindB c0 c1 c2 c3 kk)) none (some (.int .i64 (i : Int))) none).run Try.prog w = .ok (.slice (some ⟨(kindB b0 b1 b2 b3 kk), 0, none⟩) i (kindB c0 c1 c2 c3 kk)) w := fun w => cut_hi _ _ _ _ i (by omega) w
  have hy : ∀ w : World, (Instr.slice 26 (.slice (some ⟨(kindB b0 b1 b2 b3 kk), 0, none⟩) (kindL l0 l1 l2 l3 kk).length (kindB c0 c1 c2 c3 kk)) (some (.int .i64 ((i : Int) + 1))) none none).run Try.prog w = .ok (.slice (some (dropA (kindB b0 b1 b2 b3 kk) 0 (kindB c0 c1 c2 c3 kk) (i + 1))) ((kindL l0 l1 l2 l3 kk).length - (i + 1)) ((kindB c0 c1 c2 c3 kk) - (i + 1))) w := fun w => cut_lo _ _ _ _ (i + 1) (by omega) w
  have PL0 : Hid (pick kk 0 (i + ((kindL l0 l1 l2 l3 kk).length - (i + 1))) l0.length = (wthL l0 (kk : Int) 0 (i : Int)).length) := by show pick _ _ _ _ = _; rw [← P0]; exact pick_len _ _ _ _ _ _ (by rw [List.length_append, e1, e2]) rfl
  have HP0 : Hid (pick kk 0 ((kindL l0 l1 l2 l3 kk).take i ++ (kindL l0 l1 l2 l3 kk).drop (i + 1)) l0 = wthL l0 (kk : Int) 0 (i : Int)) := P0
  have PL1 : Hid (pick kk 1 (i + ((kindL l0 l1 l2 l3 kk).length - (i + 1))) l1.length = (wthL l1 (kk : Int) 1 (i : Int)).length) := by show pick _ _ _ _ = _; rw [← P1]; exact pick_len _ _ _ _ _ _ (by rw [List.length_append, e1, e2]) rfl
  have HP1 : Hid (pick kk 1 ((kindL l0 l1 l2 l3 kk).take i ++ (kindL l0 l1 l2 l3 kk).drop (i + 1)) l1 = wthL l1 (kk : Int) 1 (i : Int)) := P1
  have PL2 : Hid (pick kk 2 (i + ((kindL l0 l1 l2 l3 kk).length - (i + 1))) l2.length = (wthL l2 (kk : Int) 2 (i : Int)).length) := by show pick _ _ _ _ = _; rw [← P2]; exact pick_len _ _ _ _ _ _ (by rw [List.length_append, e1, e2]) rfl
  have HP2 : Hid (pick kk 2 ((kindL l0 l1 l2 l3 kk).take i ++ (kindL l0 l1 l2 l3 kk).drop (i + 1)) l2 = wthL l2 (kk : Int) 2 (i : Int)) := P2
  have PL3 : Hid (pick kk 3 (i + ((kindL l0 l1 l2 l3 kk).length - (i + 1))) l3.length = (wthL l3 (kk : Int) 3 (i : Int)).length) := by show pick _ _ _ _ = _; rw [← P3]; exact pick_len _ _ _ _ _ _ (by rw [List.length_append, e1, e2]) rfl
  have HP3 : Hid (pick kk 3 ((kindL l0 l1 l2 l3 kk).take i ++ (kindL l0 l1 l2 l3 kk).drop (i + 1)) l3 = wthL l3 (kk : Int) 3 (i : Int)) := P3
  clear P0 P1 P2 P3 oK
  have hwr : IntKind.i64.wrap ((i : Int) + 1) = (i : Int) + 1 := by rw [IntKind.wrap_i64]; omega
  generalize (kindB b0 b1 b2 b3 kk) = kb at *
  generalize (kindB c0 c1 c2 c3 kk) = cc at *
  generalize hTT : (kindL l0 l1 l2 l3 kk).take i = lt at *
  generalize hDD : (kindL l0 l1 l2 l3 kk).drop (i + 1) = ld at *
  clear hTT hDD
  generalize (kindL l0 l1 l2 l3 kk).length = n at *
  generalize dropA kb 0 cc (i + 1) = ad at *
  have hS0 : Below w.heap.size w w3.drew ∧ Own w3.drew (w.heap.size + 1) 2 [] 0 ∧ w3.drew.cell? ⟨w.heap.size, 0, none⟩ = some (.slice (some ⟨b0, 0, none⟩) l0.length c0) ∧ w3.drew.cell? ⟨w.heap.size, 1, none⟩ = some (.slice (some ⟨b1, 0, none⟩) l1.length c1) ∧ w3.drew.cell? ⟨w.heap.size, 2, none⟩ = some (.slice (some ⟨b2, 0, none⟩) l2.length c2) ∧ w3.drew.cell? ⟨w.heap.size, 3, none⟩ = some (.slice (some ⟨b3, 0, none⟩) l3.length c3) := ⟨L0.drew, (box_own R0).drew, A0.c0, A0.c1, A0.c2, A0.c3⟩
  clear R0 A0 L0 HK
  go_wp2
  go_region_held3 (fun W => Below w.heap.size w W ∧ Own W (w.heap.size + 1) 2 [] 0 ∧ W.cell? ⟨w.heap.size, 0, none⟩ = some (.slice (some ⟨b0, 0, none⟩) l0.length c0) ∧ W.cell? ⟨w.heap.size, 1, none⟩ = some (.slice (some ⟨b1, 0, none⟩) l1.length c1) ∧ W.cell? ⟨w.heap.size, 2, none⟩ = some (.slice (some ⟨b2, 0, none⟩) l2.length c2) ∧ W.cell? ⟨w.heap.size, 3, none⟩ = some (.slice (some ⟨b3, 0, none⟩) l3.length c3))
    (first | exact hS0 | assumption | (refine jS_ad _ ?_; (first | assumption | (refine ⟨?_, ?_, ?_, ?_, ?_, ?_⟩ <;> assumption))) | (refine jS_alloc _ ?_; (first | assumption | (refine ⟨?_, ?_, ?_, ?_, ?_, ?_⟩ <;> assumption))) | (refine jS_store _ _ _ _ ?_; (first | assumption | (refine ⟨?_, ?_, ?_, ?_, ?_, ?_⟩ <;> assumption))) | (refine ⟨?_, ?_, ?_, ?_, ?_, ?_⟩ <;> assumption))
    (first
      | (go_at_call 132; refine (l1own_any b0 b1 b2 b3 c0 c1 c2 c3 l0 l1 l2 l3 _ n0 n1 n2 n3 (jS_own o0 (by assumption)) (jS_own o1 (by assumption)) (jS_own o2 (by assumption)) (jS_own o3 (by assumption))).mono ?_; rintro e u0 ⟨a0, a1, a2, a3, e0, e1', e2', e3', m1, m2, m3, m4, rfl, t0, t1, t2, t3, g1, g2, g3, g4, g5, h0⟩; have gp := jS_ge (by assumption); have k0 := jS_keep (by assumption) h0; have gk := jS_ge k0; have T : Seen u0 (w.heap.size + 2) u0.heap.size a0 a1 a2 a3 l0.length l1.length l2.length l3.length l0 l1 l2 l3 := ⟨t0.row.mono (by omega) (by omega), t1.row.mono (by omega) (by omega), t2.row.mono (by omega) (by omega), t3.row.mono (by omega) (by omega)⟩)
      | (refine step_freshP (by rfl) _ _ (by rfl) _ ⟨kb, 0, none⟩ i cc lt (by rfl) (by rfl) e1 (rt.below (sB (by assumption)) (Nat.le_refl _)) (by omega) ?_; rintro x1 y1 u1 d1 h1; have k1 := jS_keep (by assumption) h1; have T1 := seen2 T (Nat.le_refl _) (by (first | exact Below.refl _ _ | exact (Below.refl _ _).alloc (Nat.le_refl _) _)) h1; replace d1 := d1.mono (show u0.heap.size ≤ _ from Below.size (show Below u0.heap.size u0 _ from (by (first | exact Below.refl _ _ | exact (Below.refl _ _).alloc (Nat.le_refl _) _)))) (Nat.le_refl _); have gz : u0.heap.size ≤ u1.heap.size := Nat.le_trans (Below.size (show Below u0.heap.size u0 _ from (by (first | exact Below.refl _ _ | exact (Below.refl _ _).alloc (Nat.le_refl _) _)))) h1.size)
      | (refine step_roomP (by rfl) _ _ (by rfl) u0.heap.size u1.heap.size x1 i y1 lt (by rfl) d1 ad (n - (i + 1)) (cc - (i + 1)) ld (by rfl) e2 (rd.below (sB (by assumption)) (Nat.le_refl _)) (by omega) gz ?_; rintro x2 y2 u2 D2 h2; have k2 := jS_out k1 h2 gk; have T2 := T1.out h2 (.inl (Nat.le_refl _)); have X2 := D2.row (B := u0.heap.size) (Nat.le_refl _) gz; have gy := h2.size)
      | (go_at_call 131; refine (l1with_any _ _ _ _ _ _ _ _ _ _ _ _ _ _ _ kk kk4 _).mono ?_; rintro e u3 ⟨rfl, h3⟩; rw [PL0.out, PL1.out, PL2.out, PL3.out]; have k3 := jS_keep k2 h3; have T3 := T2.below h3 (by omega); have X3 := X2.below h3 (Nat.le_refl _); have gx := h3.size; obtain ⟨f0, hf0⟩ := (k3.2.1.2.1 0 (by omega)).1; have ff0 := (k3.2.1.2.1 0 (by omega)).2; obtain ⟨f1, hf1⟩ := (k3.2.1.2.1 1 (by omega)).1; have ff1 := (k3.2.1.2.1 1 (by omega)).2; obtain ⟨f2, hf2⟩ := (k3.2.1.2.1 2 (by omega)).1; have ff2 := (k3.2.1.2.1 2 (by omega)).2; obtain ⟨f3, hf3⟩ := (k3.2.1.2.1 3 (by omega)).1; have ff3 := (k3.2.1.2.1 3 (by omega)).2))
  all_goals
    obtain ⟨F, FO⟩ := Own.fill k3.2.1 (.slice (pick kk 0 x2 a0) (wthL l0 (kk : Int) 0 (i : Int)).length (pick kk 0 y2 e0)) (.slice (pick kk 1 x2 a1) (wthL l1 (kk : Int) 1 (i : Int)).length (pick kk 1 y2 e1')) (.slice (pick kk 2 x2 a2) (wthL l2 (kk : Int) 2 (i : Int)).length (pick kk 2 y2 e2')) (.slice (pick kk 3 x2 a3) (wthL l3 (kk : Int) 3 (i : Int)).length (pick kk 3 y2 e3'))
    have hB := k3.1
    have hy' := FO.size
    clear k0 k1 k2 k3 h0 h1 h2 h3 hS0
    go_wp2
    have i0 := F.c0; have i1 := F.c1; have i2 := F.c2; have i3 := F.c3
    refine bodyPost_ret (v := .tuple #[.agg #[.slice (pick kk 0 x2 a0) (wthL l0 (kk : Int) 0 (i : Int)).length (pick kk 0 y2 e0), .slice (pick kk 1 x2 a1) (wthL l1 (kk : Int) 1 (i : Int)).length (pick kk 1 y2 e1'), .slice (pick kk 2 x2 a2) (wthL l2 (kk : Int) 2 (i : Int)).length (pick kk 2 y2 e2'), .slice (pick kk 3 x2 a3) (wthL l3 (kk : Int) 3 (i : Int)).length (pick kk 3 y2 e3')], .bool true]) ?_ rfl ⟨pick kk 0 x2 a0, pick kk 1 x2 a1, pick kk 2 x2 a2, pick kk 3 x2 a3, pick kk 0 y2 e0, pick kk 1 y2 e1', pick kk 2 y2 e2', pick kk 3 y2 e3', by rw [HE.out]; rfl, ?_, ?_⟩
    · simp [results, Try.results51, go_sem, i0, i1, i2, i3]
    · rw [HE.out]
      replace X3 := X3.mono (show w.heap.size + 2 ≤ _ by omega) (show _ ≤ u3.heap.size by omega)
      replace T3 := T3.mono (Nat.le_refl _) (show _ ≤ u3.heap.size by omega)
      have Q0 := pick_row kk 0 X3 T3.1
      rw [PL0.out, HP0.out] at Q0
      have Q1 := pick_row kk 1 X3 T3.2.1
      rw [PL1.out, HP1.out] at Q1
      have Q2 := pick_row kk 2 X3 T3.2.2.1
      rw [PL2.out, HP2.out] at Q2
      have Q3 := pick_row kk 3 X3 T3.2.2.2
      rw [PL3.out, HP3.out] at Q3
      exact ⟨(Q0.out FO (.inr (by omega))).mono (by omega) hy', (Q1.out FO (.inr (by omega))).mono (by omega) hy', (Q2.out FO (.inr (by omega))).mono (by omega) hy', (Q3.out FO (.inr (by omega))).mono (by omega) hy'⟩
    · exact hB.trans (FO.below (by omega) hB.size)

end Go.Proofs.Ytldhbooginlcpaa
