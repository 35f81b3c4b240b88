/-
  The contract of impl.Unfold.
-/
import Derived.Test.YtldhbooginlcpaaUs2
import Derived.Test.YtldhbooginlcpaaAm
import Derived.Test.YtldhbooginlcpaaCl
namespace Go.Proofs.Ytldhbooginlcpaa
open Go.RowKit
set_option linter.unusedVariables false

theorem hd_tl {n : Nat} {l : List Int} (h : l.length = n + 1) : ∃ x t, l = x :: t ∧ t.length = n := by
  cases l with
  | nil => simp at h
  | cons x t => exact ⟨x, t, rfl, by simpa using h⟩
theorem sixteen (l : List Int) (h : l.length = 16) : ∃ x0 x1 x2 x3 x4 x5 x6 x7 x8 x9 x10 x11 x12 x13 x14 x15 : Int, l = [x0, x1, x2, x3, x4, x5, x6, x7, x8, x9, x10, x11, x12, x13, x14, x15] := by
  obtain ⟨x0, t0, rfl, h0⟩ := hd_tl h
  obtain ⟨x1, t1, rfl, h1⟩ := hd_tl h0
  obtain ⟨x2, t2, rfl, h2⟩ := hd_tl h1
  obtain ⟨x3, t3, rfl, h3⟩ := hd_tl h2
  obtain ⟨x4, t4, rfl, h4⟩ := hd_tl h3
  obtain ⟨x5, t5, rfl, h5⟩ := hd_tl h4
  obtain ⟨x6, t6, rfl, h6⟩ := hd_tl h5
  obtain ⟨x7, t7, rfl, h7⟩ := hd_tl h6
  obtain ⟨x8, t8, rfl, h8⟩ := hd_tl h7
  obtain ⟨x9, t9, rfl, h9⟩ := hd_tl h8
  obtain ⟨x10, t10, rfl, h10⟩ := hd_tl h9
  obtain ⟨x11, t11, rfl, h11⟩ := hd_tl h10
  obtain ⟨x12, t12, rfl, h12⟩ := hd_tl h11
  obtain ⟨x13, t13, rfl, h13⟩ := hd_tl h12
  obtain ⟨x14, t14, rfl, h14⟩ := hd_tl h13
  obtain ⟨x15, t15, rfl, h15⟩ := hd_tl h14
  obtain rfl := List.eq_nil_of_length_eq_zero h15
  exact ⟨x0, x1, x2, x3, x4, x5, x6, x7, x8, x9, x10, x11, x12, x13, x14, x15, rfl⟩

/-- What the region that asks keeps. -/
abbrev UK (wB : World) (A D C : Nat) (v1 v2 v3 : Value) (s t : Int) (c : List Int) (W : World) : Prop := Below wB.heap.size wB W ∧ W.cell? ⟨A, 1, none⟩ = some v1 ∧ W.cell? ⟨A, 2, none⟩ = some v2 ∧ W.cell? ⟨A, 3, none⟩ = some v3 ∧ W.cell? ⟨D, 0, none⟩ = some (.int .i64 s) ∧ W.cell? ⟨D, 1, none⟩ = some (.int .i64 t) ∧ W.rangeAt C 0 (ic c)
theorem uk_own {wB W : World} {A D C : Nat} {v1 v2 v3 : Value} {s t : Int} {c : List Int} (hl : c.length = 16) (hz : A < wB.heap.size ∧ D < wB.heap.size) (c1 : wB.cell? ⟨A, 1, none⟩ = some v1) (c2 : wB.cell? ⟨A, 2, none⟩ = some v2) (c3 : wB.cell? ⟨A, 3, none⟩ = some v3) (d0 : wB.cell? ⟨D, 0, none⟩ = some (.int .i64 s)) (d1 : wB.cell? ⟨D, 1, none⟩ = some (.int .i64 t)) (h : OwnI wB C 16 c 16) (hb : Below wB.heap.size wB W) : UK wB A D C v1 v2 v3 s t c W := by
  have e : ∀ b o, b < wB.heap.size → W.cell? ⟨b, o, none⟩ = wB.cell? ⟨b, o, none⟩ := fun b o hb' => hb.cell (p := ⟨b, o, none⟩) hb'
  exact ⟨hb, (e _ _ hz.1).trans c1, (e _ _ hz.1).trans c2, (e _ _ hz.1).trans c3, (e _ _ hz.2).trans d0, (e _ _ hz.2).trans d1, (h.below hb h.1).range hl⟩
theorem uk_row {wB W : World} {A D C : Nat} {v1 v2 v3 : Value} {s t : Int} {c : List Int} {a : Option Addr} {l : List (Int × Int)} (r : PRow wB a l) (h : UK wB A D C v1 v2 v3 s t c W) : PRow W a l := r.below h.1 (Nat.le_refl _)
theorem uk_trans {wB W u : World} {A D C : Nat} {v1 v2 v3 : Value} {s t : Int} {c : List Int} (h : UK wB A D C v1 v2 v3 s t c W) (hb : Below W.heap.size W u) : Below wB.heap.size wB u := h.1.trans (hb.mono h.1.size)

theorem PBox.out {lo hi : Nat} {w w' : World} {b : Nat} {x y : Int} (h : PBox w b x y) (ho : Out lo hi w w') (hr : b < lo ∨ hi ≤ b) : PBox w' b x y := by
  have e := ho.block b h.lt hr
  exact ⟨Nat.lt_of_lt_of_le h.lt ho.size, by rw [World.cell?_of_block e]; exact h.c0, by rw [World.cell?_of_block e]; exact h.c1⟩
theorem wth3 {l0 l1 l2 l3 : List (Int × Int)} {i : Int} : wthB l0 l1 l2 l3 3 i = (asnB l0 l1 l2 l3 && decide (0 ≤ i ∧ i < (l3.length : Int))) := by
  unfold wthB
  rw [decide_eq_true (by omega), Bool.true_and]
  rfl

theorem iWithout3_no (a0 a1 a2 a3 : Option Addr) (c0 c1 c2 c3 : Nat) (l0 l1 l2 l3 : List (Int × Int)) (i : Int) (w : World) (n0 : l0.length ≤ 1048576) (n1 : l1.length ≤ 1048576) (n2 : l2.length ≤ 1048576) (n3 : l3.length ≤ 1048576) (r0 : PRow w a0 l0) (r1 : PRow w a1 l1) (r2 : PRow w a2 l2) (r3 : PRow w a3 l3) (z0 : CapZ a0 l0.length c0) (z1 : CapZ a1 l1.length c1) (z2 : CapZ a2 l2.length c2) (z3 : CapZ a3 l3.length c3) (hB : wthB l0 l1 l2 l3 3 i = false) :
    Calls Try.prog 52 #[.agg #[.slice a0 l0.length c0, .slice a1 l1.length c1, .slice a2 l2.length c2, .slice a3 l3.length c3], .int .i64 3, .int .i64 i] w fun e w' => ∃ p0 p1 p2 p3 q0 q1 q2 q3, e = .returned (.tuple #[.agg #[.slice p0 0 q0, .slice p1 0 q1, .slice p2 0 q2, .slice p3 0 q3], .bool false]) ∧ Below w.heap.size w w' := by
  refine (iWithout_any a0 a1 a2 a3 c0 c1 c2 c3 l0 l1 l2 l3 3 i w n0 n1 n2 n3 r0 r1 r2 r3 z0 z1 z2 z3).mono ?_
  rintro e w1 ⟨p0, p1, p2, p3, q0, q1, q2, q3, rfl, _, _, hb⟩
  rw [hB]
  exact ⟨p0, p1, p2, p3, q0, q1, q2, q3, rfl, hb⟩
theorem iWithout3_yes (a0 a1 a2 a3 : Option Addr) (c0 c1 c2 c3 : Nat) (l0 l1 l2 l3 : List (Int × Int)) (k : Nat) (w : World) (n0 : l0.length ≤ 1048576) (n1 : l1.length ≤ 1048576) (n2 : l2.length ≤ 1048576) (n3 : l3.length ≤ 1048576) (r0 : PRow w a0 l0) (r1 : PRow w a1 l1) (r2 : PRow w a2 l2) (r3 : PRow w a3 l3) (z0 : CapZ a0 l0.length c0) (z1 : CapZ a1 l1.length c1) (z2 : CapZ a2 l2.length c2) (z3 : CapZ a3 l3.length c3) (hB : wthB l0 l1 l2 l3 3 (k : Int) = true) (hk : k < l3.length) :
    Calls Try.prog 52 #[.agg #[.slice a0 l0.length c0, .slice a1 l1.length c1, .slice a2 l2.length c2, .slice a3 l3.length c3], .int .i64 3, .int .i64 k] w fun e w' => ∃ p0 p1 p2 p3 q0 q1 q2 q3, e = .returned (.tuple #[.agg #[.slice p0 l0.length q0, .slice p1 l1.length q1, .slice p2 l2.length q2, .slice p3 (k + (l3.length - (k + 1))) q3], .bool true]) ∧ Four w' w.heap.size w'.heap.size p0 p1 p2 p3 l0.length l1.length l2.length (k + (l3.length - (k + 1))) l0 l1 l2 (l3.take k ++ l3.drop (k + 1)) ∧ (CapZ p0 l0.length q0 ∧ CapZ p1 l1.length q1 ∧ CapZ p2 l2.length q2 ∧ CapZ p3 (k + (l3.length - (k + 1))) q3) ∧ Below w.heap.size w w' := by
  have e3 : (l3.take k ++ l3.drop (k + 1)).length = k + (l3.length - (k + 1)) := by simp; omega
  have h0 : wthL l0 3 0 (k : Int) = l0 := if_neg (by decide)
  have h1 : wthL l1 3 1 (k : Int) = l1 := if_neg (by decide)
  have h2 : wthL l2 3 2 (k : Int) = l2 := if_neg (by decide)
  have h3 : wthL l3 3 3 (k : Int) = l3.take k ++ l3.drop (k + 1) := if_pos rfl
  refine (iWithout_any a0 a1 a2 a3 c0 c1 c2 c3 l0 l1 l2 l3 3 k w n0 n1 n2 n3 r0 r1 r2 r3 z0 z1 z2 z3).mono ?_
  rintro e w1 ⟨p0, p1, p2, p3, q0, q1, q2, q3, rfl, T, Y, hb⟩
  rw [hB, h0, h1, h2, h3] at T Y ⊢
  simp only [okL, if_true, e3] at T Y ⊢
  exact ⟨p0, p1, p2, p3, q0, q1, q2, q3, rfl, T, Y, hb⟩

set_option linter.unusedSimpArgs false in
set_option maxRecDepth 20000 in
set_option maxHeartbeats 8000000 in
theorem iUnfold_any (a0 a1 a2 a3 : Option Addr) (c0 c1 c2 c3 : Nat) (l0 l1 l2 l3 : List (Int × Int)) (i : Int) (w : World) (n0 : l0.length ≤ 1048576) (n1 : l1.length ≤ 1048576) (n2 : l2.length ≤ 1048576) (n3 : l3.length ≤ 1048576) (r0 : PRow w a0 l0) (r1 : PRow w a1 l1) (r2 : PRow w a2 l2) (r3 : PRow w a3 l3) (z0 : CapZ a0 l0.length c0) (z1 : CapZ a1 l1.length c1) (z2 : CapZ a2 l2.length c2) (z3 : CapZ a3 l3.length c3) :
    Calls Try.prog 84 #[.agg #[.slice a0 l0.length c0, .slice a1 l1.length c1, .slice a2 l2.length c2, .slice a3 l3.length c3], .int .i64 i] w fun e w' => ∃ p0 p1 p2 p3 q0 q1 q2 q3, e = .returned (.tuple #[.agg #[.slice p0 (okL (unfB l0 l1 l2 l3 i) l0).length q0, .slice p1 (okL (unfB l0 l1 l2 l3 i) l1).length q1, .slice p2 (okL (unfB l0 l1 l2 l3 i) (unfC l2 (l3.getD i.toNat (0, 0)) (freshF (usedV l0 l1 l2 l3)))).length q2, .slice p3 (okL (unfB l0 l1 l2 l3 i) (unfS l3 i.toNat (l3.getD i.toNat (0, 0)) (freshF (usedV l0 l1 l2 l3)))).length q3], .bool (unfB l0 l1 l2 l3 i)]) ∧ Four w' w.heap.size w'.heap.size p0 p1 p2 p3 (okL (unfB l0 l1 l2 l3 i) l0).length (okL (unfB l0 l1 l2 l3 i) l1).length (okL (unfB l0 l1 l2 l3 i) (unfC l2 (l3.getD i.toNat (0, 0)) (freshF (usedV l0 l1 l2 l3)))).length (okL (unfB l0 l1 l2 l3 i) (unfS l3 i.toNat (l3.getD i.toNat (0, 0)) (freshF (usedV l0 l1 l2 l3)))).length (okL (unfB l0 l1 l2 l3 i) l0) (okL (unfB l0 l1 l2 l3 i) l1) (okL (unfB l0 l1 l2 l3 i) (unfC l2 (l3.getD i.toNat (0, 0)) (freshF (usedV l0 l1 l2 l3)))) (okL (unfB l0 l1 l2 l3 i) (unfS l3 i.toNat (l3.getD i.toNat (0, 0)) (freshF (usedV l0 l1 l2 l3)))) ∧ Below w.heap.size w w' := by
  have A0 := (Box.new w (.slice a0 l0.length c0) (.slice a1 l1.length c1) (.slice a2 l2.length c2) (.slice a3 l3.length c3) 28).alloc (.cells #[.slice none 0 0, .slice none 0 0, .slice none 0 0, .slice none 0 0] 28)
  have R0 := Box.new (w.alloc (.cells #[.slice a0 l0.length c0, .slice a1 l1.length c1, .slice a2 l2.length c2, .slice a3 l3.length c3] 28)) (.slice none 0 0) (.slice none 0 0) (.slice none 0 0) (.slice none 0 0) 28
  have L0 : Below w.heap.size w ((w.alloc (.cells #[.slice a0 l0.length c0, .slice a1 l1.length c1, .slice a2 l2.length c2, .slice a3 l3.length c3] 28)).alloc (.cells #[.slice none 0 0, .slice none 0 0, .slice none 0 0, .slice none 0 0] 28)) := ((Below.refl _ _).alloc (Nat.le_refl _) _).alloc (by simp) _
  rw [World.size_alloc] at R0
  go_enter Try.func84, Try.ntmps84
  by_cases hwb : wthB l0 l1 l2 l3 3 i = true
  rotate_left
  · replace hwb : wthB l0 l1 l2 l3 3 i = false := by simpa using hwb
    go_wp2_with fail
    refine (iWithout3_no a0 a1 a2 a3 c0 c1 c2 c3 l0 l1 l2 l3 i _ n0 n1 n2 n3 (r0.below L0 (Nat.le_refl _)) (r1.below L0 (Nat.le_refl _)) (r2.below L0 (Nat.le_refl _)) (r3.below L0 (Nat.le_refl _)) z0 z1 z2 z3 hwb).mono ?_
    rintro e w1 ⟨p0, p1, p2, p3, q0, q1, q2, q3, rfl, hb⟩
    have al : Below w1.heap.size w1 (w1.alloc (.cells #[.slice p0 0 q0, .slice p1 0 q1, .slice p2 0 q2, .slice p3 0 q3] 28)) := (Below.refl _ _).alloc (Nat.le_refl _) _
    have zz : w.heap.size + 1 < w1.heap.size := Nat.lt_of_lt_of_le R0.lt hb.size
    replace R0 := (R0.below hb R0.lt).below al zz; replace L0 := (L0.trans (hb.mono L0.size)).trans (al.mono (Nat.le_trans L0.size hb.size))
    clear hb al A0
    go_upto_region 2 with fail
    generalize w1.alloc (.cells #[.slice p0 0 q0, .slice p1 0 q1, .slice p2 0 q2, .slice p3 0 q3] 28) = w2 at *
    have HE : Hid ((unfB l0 l1 l2 l3 i) = false) := by show (unfB l0 l1 l2 l3 i) = false; rw [wth3] at hwb; unfold unfB; rw [hwb]; rfl
    obtain ⟨F, FO⟩ := R0.fill (.slice none 0 0) (.slice none 0 0) (.slice none 0 0) (.slice none 0 0)
    have j0' := R0.c0; have j1' := R0.c1; have j2' := R0.c2; have j3' := R0.c3
    have g0 := R0.f0; have g1 := R0.f1; have g2 := R0.f2; have g3 := R0.f3
    go_wp2
    have i0 := F.c0; have i1 := F.c1; have i2 := F.c2; have i3 := F.c3
    refine bodyPost_ret (v := .tuple #[.agg #[.slice none 0 0, .slice none 0 0, .slice none 0 0, .slice none 0 0], .bool false]) ?_ rfl ⟨none, none, none, none, 0, 0, 0, 0, by rw [HE.out]; rfl, ?_, ?_⟩
    · simp [results, Try.results84, go_sem, i0, i1, i2, i3]
    · rw [HE.out]; exact (Four.none _ w.heap.size).mono (Nat.le_refl _) (by have := FO.size; have := L0.size; omega)
    · exact L0.trans (FO.below (by omega) L0.size)

  obtain ⟨hok, hi⟩ : asnB l0 l1 l2 l3 = true ∧ (0 ≤ i ∧ i < (l3.length : Int)) := by rw [wth3] at hwb; simpa using hwb
  obtain ⟨k, rfl⟩ := Int.eq_ofNat_of_zero_le hi.1
  have hk : k < l3.length := by omega
  have HT : Hid (asnB l0 l1 l2 l3 = true) := hok
  obtain ⟨t0, t1, t2, t3⟩ := asnB_toks hok
  go_wp2_with fail
  refine (iWithout3_yes a0 a1 a2 a3 c0 c1 c2 c3 l0 l1 l2 l3 k _ n0 n1 n2 n3 (r0.below L0 (Nat.le_refl _)) (r1.below L0 (Nat.le_refl _)) (r2.below L0 (Nat.le_refl _)) (r3.below L0 (Nat.le_refl _)) z0 z1 z2 z3 hwb hk).mono ?_
  rintro e w1 ⟨p0, p1, p2, p3, q0, q1, q2, q3, rfl, T, ⟨y0, y1, y2, y3⟩, hb⟩
  have al : Below w1.heap.size w1 (w1.alloc (.cells #[.slice p0 l0.length q0, .slice p1 l1.length q1, .slice p2 l2.length q2, .slice p3 (k + (l3.length - (k + 1))) q3] 28)) := (Below.refl _ _).alloc (Nat.le_refl _) _
  have s0 := L0.size
  have X0 := Box.new w1 (.slice p0 l0.length q0) (.slice p1 l1.length q1) (.slice p2 l2.length q2) (.slice p3 (k + (l3.length - (k + 1))) q3) 28
  have zR := R0.lt
  have zA := A0.lt
  have zb := hb.size
  have za := al.size
  replace A0 := (A0.below hb A0.lt).below al (Nat.lt_of_lt_of_le A0.lt hb.size); replace R0 := (R0.below hb R0.lt).below al (Nat.lt_of_lt_of_le R0.lt hb.size); replace L0 := (L0.trans (hb.mono L0.size)).trans (al.mono (Nat.le_trans L0.size hb.size))
  replace T := T.below al (Nat.le_refl _)
  replace T := T.mono (show w.heap.size + 2 ≤ _ by simp) (Nat.le_refl _)
  replace r0 := r0.below (L0) (Nat.le_refl _); replace r1 := r1.below (L0) (Nat.le_refl _); replace r2 := r2.below (L0) (Nat.le_refl _); replace r3 := r3.below (L0) (Nat.le_refl _)
  clear hb al hwb hok
  go_upto_region 4 with fail
  have zx : w1.heap.size < (w1.alloc (.cells #[.slice p0 l0.length q0, .slice p1 l1.length q1, .slice p2 l2.length q2, .slice p3 (k + (l3.length - (k + 1))) q3] 28)).heap.size := by simp
  have zX : w.heap.size + 2 ≤ w1.heap.size := by simp at zb; omega
  clear zR zA zb za s0
  generalize w1.alloc (.cells #[.slice p0 l0.length q0, .slice p1 l1.length q1, .slice p2 l2.length q2, .slice p3 (k + (l3.length - (k + 1))) q3] 28) = w2 at *
  generalize hX : w1.heap.size = X at *
  clear hX
  have A3 := A0.c3
  obtain ⟨b, off, rfl, hbl, hcl⟩ : ∃ b off, a3 = some ⟨b, off, none⟩ ∧ b < w2.heap.size ∧ (w2.cell? ⟨b, off + k * 2, none⟩ = some (.int .i64 (l3.getD k (0, 0)).1) ∧ w2.cell? ⟨b, off + k * 2 + 1, none⟩ = some (.int .i64 (l3.getD k (0, 0)).2) ) := by
    rcases r3 with h | ⟨b, off, h, h1, h2⟩
    · rw [h] at hk; simp at hk
    · exact ⟨b, off, h, h1, h2 k hk⟩
  obtain ⟨d0, d1⟩ := hcl
  have htk := toks_get t3 hk
  have HSG : Hid (l3.getD k (0, 0) = ((l3.getD k (0, 0)).1, (l3.getD k (0, 0)).2)) := rfl
  obtain ⟨⟨g1, g2⟩, g3, g4⟩ := htk
  obtain ⟨s, t, hs, ht, es, et⟩ : ∃ s t : Nat, (l3.getD k (0, 0)).1 = (s : Int) ∧ (l3.getD k (0, 0)).2 = (t : Int) ∧ s < 16 ∧ t < 16 := ⟨(l3.getD k (0, 0)).1.toNat, (l3.getD k (0, 0)).2.toNat, by omega, by omega, by omega, by omega⟩
  rw [hs, ht] at HSG
  rw [hs] at d0
  rw [ht] at d1
  clear g1 g2 g3 g4 hs ht
  have hkl : (k : Int) < (l3.length : Int) := by omega
  have hk0' : (0 : Int) ≤ (k : Int) := by omega
  go_upto_region 5 with fail
  have P0 := PBox.new w2 s t 67
  have al : Below w2.heap.size w2 (w2.alloc (.cells #[.int .i64 (s : Int), .int .i64 (t : Int)] 67)) := (Below.refl _ _).alloc (Nat.le_refl _) _
  have zD : w2.heap.size < (w2.alloc (.cells #[.int .i64 (s : Int), .int .i64 (t : Int)] 67)).heap.size := by simp
  replace A0 := A0.below al A0.lt; replace R0 := R0.below al R0.lt; replace L0 := L0.trans (al.mono L0.size); replace X0 := X0.below al X0.lt; replace T := T.below al (by omega)
  replace r0 := r0.below (al) (Nat.le_refl _); replace r1 := r1.below (al) (Nat.le_refl _); replace r2 := r2.below (al) (Nat.le_refl _); replace r3 := r3.below (al) (Nat.le_refl _)
  clear al d0 d1 A3 hbl
  generalize w2.alloc (.cells #[.int .i64 (s : Int), .int .i64 (t : Int)] 67) = w3 at *
  generalize hD : w2.heap.size = D at *
  clear hD
  have A0c0 := A0.c0; have A0c1 := A0.c1; have A0c2 := A0.c2; have A0c3 := A0.c3
  go_wp2_with fail
  clear A0c0 A0c1 A0c2 A0c3
  refine (classesOf_any _ _ _ _ _ _ _ _ l0 l1 l2 l3 _ n0 t0 r0).mono ?_
  rintro e w4 ⟨rfl, hb⟩
  have HC := Cls.all t0
  replace A0 := A0.below hb A0.lt; replace R0 := R0.below hb R0.lt; replace L0 := L0.trans (hb.mono L0.size); replace X0 := X0.below hb X0.lt; replace T := T.below hb (by omega); replace P0 := P0.below hb P0.lt
  replace r0 := r0.below (hb) (Nat.le_refl _); replace r1 := r1.below (hb) (Nat.le_refl _); replace r2 := r2.below (hb) (Nat.le_refl _); replace r3 := r3.below (hb) (Nat.le_refl _)
  have z34 := hb.size
  clear hb
  obtain ⟨c, HCE⟩ : ∃ c, Hid (clsV l0 = c) := ⟨_, rfl⟩
  rw [HCE.out] at HC ⊢
  obtain ⟨x0, x1, x2, x3, x4, x5, x6, x7, x8, x9, x10, x11, x12, x13, x14, x15, rfl⟩ := sixteen c HC.1
  rw [show aV [x0, x1, x2, x3, x4, x5, x6, x7, x8, x9, x10, x11, x12, x13, x14, x15] = .agg #[.int .i64 x0, .int .i64 x1, .int .i64 x2, .int .i64 x3, .int .i64 x4, .int .i64 x5, .int .i64 x6, .int .i64 x7, .int .i64 x8, .int .i64 x9, .int .i64 x10, .int .i64 x11, .int .i64 x12, .int .i64 x13, .int .i64 x14, .int .i64 x15] from rfl]
  have C0 : OwnI (w4.alloc (.cells #[.int .i64 x0, .int .i64 x1, .int .i64 x2, .int .i64 x3, .int .i64 x4, .int .i64 x5, .int .i64 x6, .int .i64 x7, .int .i64 x8, .int .i64 x9, .int .i64 x10, .int .i64 x11, .int .i64 x12, .int .i64 x13, .int .i64 x14, .int .i64 x15] 95)) w4.heap.size 16 [x0, x1, x2, x3, x4, x5, x6, x7, x8, x9, x10, x11, x12, x13, x14, x15] 16 := OwnI.new w4 [x0, x1, x2, x3, x4, x5, x6, x7, x8, x9, x10, x11, x12, x13, x14, x15] 16 rfl 95
  have al : Below w4.heap.size w4 (w4.alloc (.cells #[.int .i64 x0, .int .i64 x1, .int .i64 x2, .int .i64 x3, .int .i64 x4, .int .i64 x5, .int .i64 x6, .int .i64 x7, .int .i64 x8, .int .i64 x9, .int .i64 x10, .int .i64 x11, .int .i64 x12, .int .i64 x13, .int .i64 x14, .int .i64 x15] 95)) := (Below.refl _ _).alloc (Nat.le_refl _) _
  have zC : w4.heap.size < (w4.alloc (.cells #[.int .i64 x0, .int .i64 x1, .int .i64 x2, .int .i64 x3, .int .i64 x4, .int .i64 x5, .int .i64 x6, .int .i64 x7, .int .i64 x8, .int .i64 x9, .int .i64 x10, .int .i64 x11, .int .i64 x12, .int .i64 x13, .int .i64 x14, .int .i64 x15] 95)).heap.size := by simp
  replace A0 := A0.below al A0.lt; replace R0 := R0.below al R0.lt; replace L0 := L0.trans (al.mono L0.size); replace X0 := X0.below al X0.lt; replace T := T.below al (by omega); replace P0 := P0.below al P0.lt
  replace r0 := r0.below (al) (Nat.le_refl _); replace r1 := r1.below (al) (Nat.le_refl _); replace r2 := r2.below (al) (Nat.le_refl _); replace r3 := r3.below (al) (Nat.le_refl _)
  clear al
  go_upto_region 6 with fail
  generalize w4.alloc (.cells #[.int .i64 x0, .int .i64 x1, .int .i64 x2, .int .i64 x3, .int .i64 x4, .int .i64 x5, .int .i64 x6, .int .i64 x7, .int .i64 x8, .int .i64 x9, .int .i64 x10, .int .i64 x11, .int .i64 x12, .int .i64 x13, .int .i64 x14, .int .i64 x15] 95) = w5 at *
  generalize hC : w4.heap.size = C at *
  clear hC
  have A0c0 := A0.c0; have A0c1 := A0.c1; have A0c2 := A0.c2; have A0c3 := A0.c3
  go_wp2_with fail
  clear A0c0 A0c1 A0c2 A0c3
  refine (iFresh_any _ _ _ _ _ _ _ _ l0 l1 l2 l3 _ n0 n1 n2 n3 r0 r1 r2 r3).mono ?_
  rintro e w6 ⟨rfl, hb⟩
  rw [show freshV l0 l1 l2 l3 = freshF (usedV l0 l1 l2 l3) by unfold freshV; rw [HT.out]; rfl]
  obtain ⟨f, hff⟩ : ∃ f, Hid (freshF (usedV l0 l1 l2 l3) = f) := ⟨_, rfl⟩
  rw [hff.out]
  have z56 := hb.size
  replace A0 := A0.below hb A0.lt; replace R0 := R0.below hb R0.lt; replace L0 := L0.trans (hb.mono L0.size); replace X0 := X0.below hb X0.lt; replace T := T.below hb (by omega); replace P0 := P0.below hb P0.lt; replace C0 := C0.below hb C0.1
  replace r0 := r0.below (hb) (Nat.le_refl _); replace r1 := r1.below (hb) (Nat.le_refl _); replace r2 := r2.below (hb) (Nat.le_refl _); replace r3 := r3.below (hb) (Nat.le_refl _)
  clear hb
  go_upto_region 7 with fail
  obtain ⟨gs, hgs⟩ : ∃ g, Hid (([x0, x1, x2, x3, x4, x5, x6, x7, x8, x9, x10, x11, x12, x13, x14, x15] : List Int).getD s 0 = g) := ⟨_, rfl⟩
  obtain ⟨gt, hgt⟩ : ∃ g, Hid (([x0, x1, x2, x3, x4, x5, x6, x7, x8, x9, x10, x11, x12, x13, x14, x15] : List Int).getD t 0 = g) := ⟨_, rfl⟩
  have bgs : 0 ≤ gs ∧ gs < 16 := by rw [← hgs.out]; exact HC.2 s es
  have bgt : 0 ≤ gt ∧ gt < 16 := by rw [← hgt.out]; exact HC.2 t et
  obtain ⟨am, ham⟩ : ∃ am, Hid (amongV [x0, x1, x2, x3, x4, x5, x6, x7, x8, x9, x10, x11, x12, x13, x14, x15] l1 gs gt = am) := ⟨_, rfl⟩
  have zz : w.heap.size < w6.heap.size ∧ D < w6.heap.size ∧ C < w6.heap.size := ⟨A0.lt, P0.lt, C0.1⟩
  have hK : ∀ u : World, Below w6.heap.size w6 u → UK w6 w.heap.size D C (.slice a1 l1.length c1) (.slice a2 l2.length c2) (.slice (some ⟨b, off, none⟩) l3.length c3) s t [x0, x1, x2, x3, x4, x5, x6, x7, x8, x9, x10, x11, x12, x13, x14, x15] u := fun u hu => uk_own rfl ⟨zz.1, zz.2.1⟩ A0.c1 A0.c2 A0.c3 P0.c0 P0.c1 C0 hu
  have hS1 := hK w6 (Below.refl _ _)
  have hS0 := hK w6.drew (Below.refl _ _).drew
  replace hK : Hid (∀ u : World, Below w6.heap.size w6 u → UK w6 w.heap.size D C (.slice a1 l1.length c1) (.slice a2 l2.length c2) (.slice (some ⟨b, off, none⟩) l3.length c3) s t [x0, x1, x2, x3, x4, x5, x6, x7, x8, x9, x10, x11, x12, x13, x14, x15] u) := hK
  have u95 := Try.underlying95
  have i95 : (Try.prog.info? 95).map (·.size) = some (ic [x0, x1, x2, x3, x4, x5, x6, x7, x8, x9, x10, x11, x12, x13, x14, x15]).length := by kernel_rfl
  have HOPV : Hid (openV (clsV l0) l1 [l3.getD k (0, 0)] = am) := by
    show openV (clsV l0) l1 [l3.getD k (0, 0)] = am
    rw [HCE.out, HSG.out]
    simp only [openV, List.all_cons, List.all_nil, Bool.and_true, Int.toNat_natCast]
    rw [hgs.out, hgt.out, ham.out]
  go_cut [50] (fun v50 wz => v50 = .bool (!(am && decide (0 ≤ f) && decide (l2.length + l3.length < 6))) ∧ Below w6.heap.size w6 wz)
  case first =>
    cases am
    · -- not among
      refine wp_region_held_drew (S := fun W => Below w6.heap.size w6 W ∧ W.cell? ⟨w.heap.size, 1, none⟩ = some (.slice a1 l1.length c1) ∧ W.cell? ⟨w.heap.size, 2, none⟩ = some (.slice a2 l2.length c2) ∧ W.cell? ⟨w.heap.size, 3, none⟩ = some (.slice (some ⟨b, off, none⟩) l3.length c3) ∧ W.cell? ⟨D, 0, none⟩ = some (.int .i64 s) ∧ W.cell? ⟨D, 1, none⟩ = some (.int .i64 t) ∧ W.rangeAt C 0 (ic [x0, x1, x2, x3, x4, x5, x6, x7, x8, x9, x10, x11, x12, x13, x14, x15])) (by kernel_rfl) hS0 (fun _ => ?_)
      generalize w6.drew = w7 at *
      refine wpAnyH_take (i := 0) rfl (by kernel_rfl) (by kernel_rfl) (by kernel_rfl) (fun _ _ _ h => h) (yieldsIf_load_mid (by rfl) _ _ rfl _ _ rfl _ _ (fun w' h => h.2.2.2.2.2.2) u95 rfl i95) hS0 ?_
      simp only [Act.put, List.setIfInBounds_toArray, List.set_cons_zero, List.set_cons_succ]
      refine wpAnyH_take (i := 1) (v := .pointer (some ⟨w.heap.size, 1, none⟩)) rfl (by kernel_rfl) (by kernel_rfl) (by kernel_rfl) (fun _ _ _ h => h) (Or.inl ⟨by rfl, ?_⟩) hS0 ?_
      · intro w2 hSw; go_simp
      simp only [Act.put, List.setIfInBounds_toArray, List.set_cons_zero, List.set_cons_succ]
      refine wpAnyH_take (i := 2) (v := .slice a1 l1.length c1) rfl (by kernel_rfl) (by kernel_rfl) (by kernel_rfl) (fun _ _ _ h => h) (Or.inl ⟨by rfl, ?_⟩) hS0 ?_
      · intro w2 hSw; go_simp
      simp only [Act.put, List.setIfInBounds_toArray, List.set_cons_zero, List.set_cons_succ]
      refine wpAnyH_take (i := 3) rfl (by kernel_rfl) (by kernel_rfl) (by kernel_rfl) (fun _ _ _ h => h) (yieldsIf_load_mid (by rfl) _ _ rfl _ _ rfl _ _ (fun w' h => h.2.2.2.2.2.2) u95 rfl i95) hS0 ?_
      simp only [Act.put, List.setIfInBounds_toArray, List.set_cons_zero, List.set_cons_succ]
      refine wpAnyH_take (i := 4) (v := .agg #[.int .i64 (s : Int), .int .i64 (t : Int)]) rfl (by kernel_rfl) (by kernel_rfl) (by kernel_rfl) (fun _ _ _ h => h) (Or.inl ⟨by rfl, ?_⟩) hS0 ?_
      · intro w2 hSw; go_simp
      simp only [Act.put, List.setIfInBounds_toArray, List.set_cons_zero, List.set_cons_succ]
      refine wpAnyH_ready (rs := [5]) (by kernel_rfl) (by simp) ?_
      refine AllReadyH.cons rfl (fun K hK' => ?_) AllReadyH.nil
      rw [if_pos (by rfl)]
      go_simp
      refine (of_any [x0, x1, x2, x3, x4, x5, x6, x7, x8, x9, x10, x11, x12, x13, x14, x15] s t _ rfl es et).mono ?_
      rintro e v0 ⟨rfl, h0⟩
      rw [hgs.out, hgt.out]
      have k1 := hK.out v0 (uk_trans hS0 h0)
      refine hK'.out _ _ k1 (fun _ => ?_)
      clear hK' K h0
      refine wpAnyH_ready (rs := [6]) (by kernel_rfl) (by simp) ?_
      refine AllReadyH.cons rfl (fun K hK' => ?_) AllReadyH.nil
      rw [if_pos (by rfl)]
      go_simp
      refine (among_any [x0, x1, x2, x3, x4, x5, x6, x7, x8, x9, x10, x11, x12, x13, x14, x15] _ _ l1 gs gt HC _ n1 t1 (uk_row r1 k1) bgs bgt).mono ?_
      rintro e v1 ⟨rfl, h1⟩
      rw [ham.out]
      have k2 := hK.out v1 (uk_trans k1 h1)
      refine hK'.out _ _ k2 (fun _ => ?_)
      clear hK' K h1
      refine wpAnyH_take (i := 7) (v := .bool true) rfl (by kernel_rfl) (by kernel_rfl) (by kernel_rfl) (fun _ _ _ h => h) (Or.inl ⟨by rfl, ?_⟩) k2 ?_
      · intro w2 hSw; go_simp
      simp only [Act.put, List.setIfInBounds_toArray, List.set_cons_zero, List.set_cons_succ]
      refine wpAnyH_take (i := 8) (v := .bool true) rfl (by kernel_rfl) (by kernel_rfl) (by kernel_rfl) (fun _ _ _ h => h) (Or.inl ⟨by rfl, ?_⟩) k2 ?_
      · intro w2 hSw; go_simp
      simp only [Act.put, List.setIfInBounds_toArray, List.set_cons_zero, List.set_cons_succ]
      refine wpAnyH_take (i := 9) (v := undef) rfl (by kernel_rfl) (by kernel_rfl) (by kernel_rfl) (fun _ _ _ h => h) (Or.inr ⟨by simp [Region.wanted, yielded], rfl⟩) k2 ?_
      simp only [Act.put, List.setIfInBounds_toArray, List.set_cons_zero, List.set_cons_succ]
      refine wpAnyH_take (i := 10) (v := undef) rfl (by kernel_rfl) (by kernel_rfl) (by kernel_rfl) (fun _ _ _ h => h) (Or.inr ⟨by simp [Region.wanted, yielded], rfl⟩) k2 ?_
      simp only [Act.put, List.setIfInBounds_toArray, List.set_cons_zero, List.set_cons_succ]
      refine wpAnyH_take (i := 11) (v := .bool true) rfl (by kernel_rfl) (by kernel_rfl) (by kernel_rfl) (fun _ _ _ h => h) (Or.inl ⟨by rfl, ?_⟩) k2 ?_
      · intro w2 hSw; go_simp
      simp only [Act.put, List.setIfInBounds_toArray, List.set_cons_zero, List.set_cons_succ]
      refine wpAnyH_take (i := 12) (v := .bool true) rfl (by kernel_rfl) (by kernel_rfl) (by kernel_rfl) (fun _ _ _ h => h) (Or.inl ⟨by rfl, ?_⟩) k2 ?_
      · intro w2 hSw; go_simp
      simp only [Act.put, List.setIfInBounds_toArray, List.set_cons_zero, List.set_cons_succ]
      refine wpAnyH_take (i := 13) (v := undef) rfl (by kernel_rfl) (by kernel_rfl) (by kernel_rfl) (fun _ _ _ h => h) (Or.inr ⟨by simp [Region.wanted, yielded], rfl⟩) k2 ?_
      simp only [Act.put, List.setIfInBounds_toArray, List.set_cons_zero, List.set_cons_succ]
      refine wpAnyH_take (i := 14) (v := undef) rfl (by kernel_rfl) (by kernel_rfl) (by kernel_rfl) (fun _ _ _ h => h) (Or.inr ⟨by simp [Region.wanted, yielded], rfl⟩) k2 ?_
      simp only [Act.put, List.setIfInBounds_toArray, List.set_cons_zero, List.set_cons_succ]
      refine wpAnyH_take (i := 15) (v := undef) rfl (by kernel_rfl) (by kernel_rfl) (by kernel_rfl) (fun _ _ _ h => h) (Or.inr ⟨by simp [Region.wanted, yielded], rfl⟩) k2 ?_
      simp only [Act.put, List.setIfInBounds_toArray, List.set_cons_zero, List.set_cons_succ]
      refine wpAnyH_take (i := 16) (v := undef) rfl (by kernel_rfl) (by kernel_rfl) (by kernel_rfl) (fun _ _ _ h => h) (Or.inr ⟨by simp [Region.wanted, yielded], rfl⟩) k2 ?_
      simp only [Act.put, List.setIfInBounds_toArray, List.set_cons_zero, List.set_cons_succ]
      refine wpAnyH_take (i := 17) (v := undef) rfl (by kernel_rfl) (by kernel_rfl) (by kernel_rfl) (fun _ _ _ h => h) (Or.inr ⟨by simp [Region.wanted, yielded], rfl⟩) k2 ?_
      simp only [Act.put, List.setIfInBounds_toArray, List.set_cons_zero, List.set_cons_succ]
      refine wpAnyH_take (i := 18) (v := undef) rfl (by kernel_rfl) (by kernel_rfl) (by kernel_rfl) (fun _ _ _ h => h) (Or.inr ⟨by simp [Region.wanted, yielded], rfl⟩) k2 ?_
      simp only [Act.put, List.setIfInBounds_toArray, List.set_cons_zero, List.set_cons_succ]
      refine wpAnyH_take (i := 19) (v := undef) rfl (by kernel_rfl) (by kernel_rfl) (by kernel_rfl) (fun _ _ _ h => h) (Or.inr ⟨by simp [Region.wanted, yielded], rfl⟩) k2 ?_
      simp only [Act.put, List.setIfInBounds_toArray, List.set_cons_zero, List.set_cons_succ]
      refine wpAnyH_take (i := 20) (v := undef) rfl (by kernel_rfl) (by kernel_rfl) (by kernel_rfl) (fun _ _ _ h => h) (Or.inr ⟨by simp [Region.wanted, yielded], rfl⟩) k2 ?_
      simp only [Act.put, List.setIfInBounds_toArray, List.set_cons_zero, List.set_cons_succ]
      refine wpAnyH_take (i := 21) (v := .bool true) rfl (by kernel_rfl) (by kernel_rfl) (by kernel_rfl) (fun _ _ _ h => h) (Or.inl ⟨by rfl, ?_⟩) k2 ?_
      · intro w2 hSw; go_simp
      simp only [Act.put, List.setIfInBounds_toArray, List.set_cons_zero, List.set_cons_succ]
      refine wpAnyH_done (by kernel_rfl) ?_ _
      simp only [List.getElem_toArray, List.getElem_cons_succ, List.getElem_cons_zero, Act.put, List.setIfInBounds_toArray, List.set_cons_zero, List.set_cons_succ]
      go_wp2_with fail
      go_meet
      exact ⟨by simp, k2.1⟩
    · by_cases hf : f < 0
      · have hnf : ¬ (0 ≤ f) := by omega
        refine wp_region_held_drew (S := fun W => Below w6.heap.size w6 W ∧ W.cell? ⟨w.heap.size, 1, none⟩ = some (.slice a1 l1.length c1) ∧ W.cell? ⟨w.heap.size, 2, none⟩ = some (.slice a2 l2.length c2) ∧ W.cell? ⟨w.heap.size, 3, none⟩ = some (.slice (some ⟨b, off, none⟩) l3.length c3) ∧ W.cell? ⟨D, 0, none⟩ = some (.int .i64 s) ∧ W.cell? ⟨D, 1, none⟩ = some (.int .i64 t) ∧ W.rangeAt C 0 (ic [x0, x1, x2, x3, x4, x5, x6, x7, x8, x9, x10, x11, x12, x13, x14, x15])) (by kernel_rfl) hS0 (fun _ => ?_)
        generalize w6.drew = w7 at *
        refine wpAnyH_take (i := 0) rfl (by kernel_rfl) (by kernel_rfl) (by kernel_rfl) (fun _ _ _ h => h) (yieldsIf_load_mid (by rfl) _ _ rfl _ _ rfl _ _ (fun w' h => h.2.2.2.2.2.2) u95 rfl i95) hS0 ?_
        simp only [Act.put, List.setIfInBounds_toArray, List.set_cons_zero, List.set_cons_succ]
        refine wpAnyH_take (i := 1) (v := .pointer (some ⟨w.heap.size, 1, none⟩)) rfl (by kernel_rfl) (by kernel_rfl) (by kernel_rfl) (fun _ _ _ h => h) (Or.inl ⟨by rfl, ?_⟩) hS0 ?_
        · intro w2 hSw; go_simp
        simp only [Act.put, List.setIfInBounds_toArray, List.set_cons_zero, List.set_cons_succ]
        refine wpAnyH_take (i := 2) (v := .slice a1 l1.length c1) rfl (by kernel_rfl) (by kernel_rfl) (by kernel_rfl) (fun _ _ _ h => h) (Or.inl ⟨by rfl, ?_⟩) hS0 ?_
        · intro w2 hSw; go_simp
        simp only [Act.put, List.setIfInBounds_toArray, List.set_cons_zero, List.set_cons_succ]
        refine wpAnyH_take (i := 3) rfl (by kernel_rfl) (by kernel_rfl) (by kernel_rfl) (fun _ _ _ h => h) (yieldsIf_load_mid (by rfl) _ _ rfl _ _ rfl _ _ (fun w' h => h.2.2.2.2.2.2) u95 rfl i95) hS0 ?_
        simp only [Act.put, List.setIfInBounds_toArray, List.set_cons_zero, List.set_cons_succ]
        refine wpAnyH_take (i := 4) (v := .agg #[.int .i64 (s : Int), .int .i64 (t : Int)]) rfl (by kernel_rfl) (by kernel_rfl) (by kernel_rfl) (fun _ _ _ h => h) (Or.inl ⟨by rfl, ?_⟩) hS0 ?_
        · intro w2 hSw; go_simp
        simp only [Act.put, List.setIfInBounds_toArray, List.set_cons_zero, List.set_cons_succ]
        refine wpAnyH_ready (rs := [5]) (by kernel_rfl) (by simp) ?_
        refine AllReadyH.cons rfl (fun K hK' => ?_) AllReadyH.nil
        rw [if_pos (by rfl)]
        go_simp
        refine (of_any [x0, x1, x2, x3, x4, x5, x6, x7, x8, x9, x10, x11, x12, x13, x14, x15] s t _ rfl es et).mono ?_
        rintro e v0 ⟨rfl, h0⟩
        rw [hgs.out, hgt.out]
        have k1 := hK.out v0 (uk_trans hS0 h0)
        refine hK'.out _ _ k1 (fun _ => ?_)
        clear hK' K h0
        refine wpAnyH_ready (rs := [6]) (by kernel_rfl) (by simp) ?_
        refine AllReadyH.cons rfl (fun K hK' => ?_) AllReadyH.nil
        rw [if_pos (by rfl)]
        go_simp
        refine (among_any [x0, x1, x2, x3, x4, x5, x6, x7, x8, x9, x10, x11, x12, x13, x14, x15] _ _ l1 gs gt HC _ n1 t1 (uk_row r1 k1) bgs bgt).mono ?_
        rintro e v1 ⟨rfl, h1⟩
        rw [ham.out]
        have k2 := hK.out v1 (uk_trans k1 h1)
        refine hK'.out _ _ k2 (fun _ => ?_)
        clear hK' K h1
        refine wpAnyH_take (i := 7) (v := .bool false) rfl (by kernel_rfl) (by kernel_rfl) (by kernel_rfl) (fun _ _ _ h => h) (Or.inl ⟨by rfl, ?_⟩) k2 ?_
        · intro w2 hSw; go_simp
        simp only [Act.put, List.setIfInBounds_toArray, List.set_cons_zero, List.set_cons_succ]
        refine wpAnyH_take (i := 8) (v := .bool false) rfl (by kernel_rfl) (by kernel_rfl) (by kernel_rfl) (fun _ _ _ h => h) (Or.inl ⟨by rfl, ?_⟩) k2 ?_
        · intro w2 hSw; go_simp
        simp only [Act.put, List.setIfInBounds_toArray, List.set_cons_zero, List.set_cons_succ]
        refine wpAnyH_take (i := 9) (v := .int .i64 f) rfl (by kernel_rfl) (by kernel_rfl) (by kernel_rfl) (fun _ _ _ h => h) (Or.inl ⟨by simp [Region.wanted, yielded], ?_⟩) k2 ?_
        · intro w2 hSw; go_simp
        simp only [Act.put, List.setIfInBounds_toArray, List.set_cons_zero, List.set_cons_succ]
        refine wpAnyH_take (i := 10) (v := .bool true) rfl (by kernel_rfl) (by kernel_rfl) (by kernel_rfl) (fun _ _ _ h => h) (Or.inl ⟨by simp [Region.wanted, yielded], ?_⟩) k2 ?_
        · intro w2 hSw; go_simp
        simp only [Act.put, List.setIfInBounds_toArray, List.set_cons_zero, List.set_cons_succ]
        refine wpAnyH_take (i := 11) (v := .bool true) rfl (by kernel_rfl) (by kernel_rfl) (by kernel_rfl) (fun _ _ _ h => h) (Or.inl ⟨by rfl, ?_⟩) k2 ?_
        · intro w2 hSw; go_simp
        simp only [Act.put, List.setIfInBounds_toArray, List.set_cons_zero, List.set_cons_succ]
        refine wpAnyH_take (i := 12) (v := .bool true) rfl (by kernel_rfl) (by kernel_rfl) (by kernel_rfl) (fun _ _ _ h => h) (Or.inl ⟨by rfl, ?_⟩) k2 ?_
        · intro w2 hSw; go_simp
        simp only [Act.put, List.setIfInBounds_toArray, List.set_cons_zero, List.set_cons_succ]
        refine wpAnyH_take (i := 13) (v := undef) rfl (by kernel_rfl) (by kernel_rfl) (by kernel_rfl) (fun _ _ _ h => h) (Or.inr ⟨by simp [Region.wanted, yielded], rfl⟩) k2 ?_
        simp only [Act.put, List.setIfInBounds_toArray, List.set_cons_zero, List.set_cons_succ]
        refine wpAnyH_take (i := 14) (v := undef) rfl (by kernel_rfl) (by kernel_rfl) (by kernel_rfl) (fun _ _ _ h => h) (Or.inr ⟨by simp [Region.wanted, yielded], rfl⟩) k2 ?_
        simp only [Act.put, List.setIfInBounds_toArray, List.set_cons_zero, List.set_cons_succ]
        refine wpAnyH_take (i := 15) (v := undef) rfl (by kernel_rfl) (by kernel_rfl) (by kernel_rfl) (fun _ _ _ h => h) (Or.inr ⟨by simp [Region.wanted, yielded], rfl⟩) k2 ?_
        simp only [Act.put, List.setIfInBounds_toArray, List.set_cons_zero, List.set_cons_succ]
        refine wpAnyH_take (i := 16) (v := undef) rfl (by kernel_rfl) (by kernel_rfl) (by kernel_rfl) (fun _ _ _ h => h) (Or.inr ⟨by simp [Region.wanted, yielded], rfl⟩) k2 ?_
        simp only [Act.put, List.setIfInBounds_toArray, List.set_cons_zero, List.set_cons_succ]
        refine wpAnyH_take (i := 17) (v := undef) rfl (by kernel_rfl) (by kernel_rfl) (by kernel_rfl) (fun _ _ _ h => h) (Or.inr ⟨by simp [Region.wanted, yielded], rfl⟩) k2 ?_
        simp only [Act.put, List.setIfInBounds_toArray, List.set_cons_zero, List.set_cons_succ]
        refine wpAnyH_take (i := 18) (v := undef) rfl (by kernel_rfl) (by kernel_rfl) (by kernel_rfl) (fun _ _ _ h => h) (Or.inr ⟨by simp [Region.wanted, yielded], rfl⟩) k2 ?_
        simp only [Act.put, List.setIfInBounds_toArray, List.set_cons_zero, List.set_cons_succ]
        refine wpAnyH_take (i := 19) (v := undef) rfl (by kernel_rfl) (by kernel_rfl) (by kernel_rfl) (fun _ _ _ h => h) (Or.inr ⟨by simp [Region.wanted, yielded], rfl⟩) k2 ?_
        simp only [Act.put, List.setIfInBounds_toArray, List.set_cons_zero, List.set_cons_succ]
        refine wpAnyH_take (i := 20) (v := undef) rfl (by kernel_rfl) (by kernel_rfl) (by kernel_rfl) (fun _ _ _ h => h) (Or.inr ⟨by simp [Region.wanted, yielded], rfl⟩) k2 ?_
        simp only [Act.put, List.setIfInBounds_toArray, List.set_cons_zero, List.set_cons_succ]
        refine wpAnyH_take (i := 21) (v := .bool true) rfl (by kernel_rfl) (by kernel_rfl) (by kernel_rfl) (fun _ _ _ h => h) (Or.inl ⟨by rfl, ?_⟩) k2 ?_
        · intro w2 hSw; go_simp
        simp only [Act.put, List.setIfInBounds_toArray, List.set_cons_zero, List.set_cons_succ]
        refine wpAnyH_done (by kernel_rfl) ?_ _
        go_wp2_with fail
        go_meet
        exact ⟨by simp [hnf], k2.1⟩
      · have hnf : 0 ≤ f := by omega
        have hsum : (6 ≤ (l2.length : Int) + (l3.length : Int)) ↔ ¬ (l2.length + l3.length < 6) := by omega
        have HSUM : Hid (Value.bool (decide (6 ≤ (l2.length : Int) + (l3.length : Int))) = .bool (!(true && decide (0 ≤ f) && decide (l2.length + l3.length < 6)))) := by
          show Value.bool _ = Value.bool _
          rw [decide_eq_true hnf]
          simp only [hsum, Bool.true_and, decide_not]
        clear hsum hnf
        have hw23 : IntKind.i64.wrap ((l2.length : Int) + (l3.length : Int)) = (l2.length : Int) + (l3.length : Int) := by rw [IntKind.wrap_i64]; omega
        refine wp_region_held_drew (S := fun W => Below w6.heap.size w6 W ∧ W.cell? ⟨w.heap.size, 1, none⟩ = some (.slice a1 l1.length c1) ∧ W.cell? ⟨w.heap.size, 2, none⟩ = some (.slice a2 l2.length c2) ∧ W.cell? ⟨w.heap.size, 3, none⟩ = some (.slice (some ⟨b, off, none⟩) l3.length c3) ∧ W.cell? ⟨D, 0, none⟩ = some (.int .i64 s) ∧ W.cell? ⟨D, 1, none⟩ = some (.int .i64 t) ∧ W.rangeAt C 0 (ic [x0, x1, x2, x3, x4, x5, x6, x7, x8, x9, x10, x11, x12, x13, x14, x15])) (by kernel_rfl) hS0 (fun _ => ?_)
        generalize w6.drew = w7 at *
        refine wpAnyH_take (i := 0) rfl (by kernel_rfl) (by kernel_rfl) (by kernel_rfl) (fun _ _ _ h => h) (yieldsIf_load_mid (by rfl) _ _ rfl _ _ rfl _ _ (fun w' h => h.2.2.2.2.2.2) u95 rfl i95) hS0 ?_
        simp only [Act.put, List.setIfInBounds_toArray, List.set_cons_zero, List.set_cons_succ]
        refine wpAnyH_take (i := 1) (v := .pointer (some ⟨w.heap.size, 1, none⟩)) rfl (by kernel_rfl) (by kernel_rfl) (by kernel_rfl) (fun _ _ _ h => h) (Or.inl ⟨by rfl, ?_⟩) hS0 ?_
        · intro w2 hSw; go_simp
        simp only [Act.put, List.setIfInBounds_toArray, List.set_cons_zero, List.set_cons_succ]
        refine wpAnyH_take (i := 2) (v := .slice a1 l1.length c1) rfl (by kernel_rfl) (by kernel_rfl) (by kernel_rfl) (fun _ _ _ h => h) (Or.inl ⟨by rfl, ?_⟩) hS0 ?_
        · intro w2 hSw; go_simp
        simp only [Act.put, List.setIfInBounds_toArray, List.set_cons_zero, List.set_cons_succ]
        refine wpAnyH_take (i := 3) rfl (by kernel_rfl) (by kernel_rfl) (by kernel_rfl) (fun _ _ _ h => h) (yieldsIf_load_mid (by rfl) _ _ rfl _ _ rfl _ _ (fun w' h => h.2.2.2.2.2.2) u95 rfl i95) hS0 ?_
        simp only [Act.put, List.setIfInBounds_toArray, List.set_cons_zero, List.set_cons_succ]
        refine wpAnyH_take (i := 4) (v := .agg #[.int .i64 (s : Int), .int .i64 (t : Int)]) rfl (by kernel_rfl) (by kernel_rfl) (by kernel_rfl) (fun _ _ _ h => h) (Or.inl ⟨by rfl, ?_⟩) hS0 ?_
        · intro w2 hSw; go_simp
        simp only [Act.put, List.setIfInBounds_toArray, List.set_cons_zero, List.set_cons_succ]
        refine wpAnyH_ready (rs := [5]) (by kernel_rfl) (by simp) ?_
        refine AllReadyH.cons rfl (fun K hK' => ?_) AllReadyH.nil
        rw [if_pos (by rfl)]
        go_simp
        refine (of_any [x0, x1, x2, x3, x4, x5, x6, x7, x8, x9, x10, x11, x12, x13, x14, x15] s t _ rfl es et).mono ?_
        rintro e v0 ⟨rfl, h0⟩
        rw [hgs.out, hgt.out]
        have k1 := hK.out v0 (uk_trans hS0 h0)
        refine hK'.out _ _ k1 (fun _ => ?_)
        clear hK' K h0
        refine wpAnyH_ready (rs := [6]) (by kernel_rfl) (by simp) ?_
        refine AllReadyH.cons rfl (fun K hK' => ?_) AllReadyH.nil
        rw [if_pos (by rfl)]
        go_simp
        refine (among_any [x0, x1, x2, x3, x4, x5, x6, x7, x8, x9, x10, x11, x12, x13, x14, x15] _ _ l1 gs gt HC _ n1 t1 (uk_row r1 k1) bgs bgt).mono ?_
        rintro e v1 ⟨rfl, h1⟩
        rw [ham.out]
        have k2 := hK.out v1 (uk_trans k1 h1)
        refine hK'.out _ _ k2 (fun _ => ?_)
        clear hK' K h1
        refine wpAnyH_take (i := 7) (v := .bool false) rfl (by kernel_rfl) (by kernel_rfl) (by kernel_rfl) (fun _ _ _ h => h) (Or.inl ⟨by rfl, ?_⟩) k2 ?_
        · intro w2 hSw; go_simp
        simp only [Act.put, List.setIfInBounds_toArray, List.set_cons_zero, List.set_cons_succ]
        refine wpAnyH_take (i := 8) (v := .bool false) rfl (by kernel_rfl) (by kernel_rfl) (by kernel_rfl) (fun _ _ _ h => h) (Or.inl ⟨by rfl, ?_⟩) k2 ?_
        · intro w2 hSw; go_simp
        simp only [Act.put, List.setIfInBounds_toArray, List.set_cons_zero, List.set_cons_succ]
        refine wpAnyH_take (i := 9) (v := .int .i64 f) rfl (by kernel_rfl) (by kernel_rfl) (by kernel_rfl) (fun _ _ _ h => h) (Or.inl ⟨by simp [Region.wanted, yielded], ?_⟩) k2 ?_
        · intro w2 hSw; go_simp
        simp only [Act.put, List.setIfInBounds_toArray, List.set_cons_zero, List.set_cons_succ]
        refine wpAnyH_take (i := 10) (v := .bool false) rfl (by kernel_rfl) (by kernel_rfl) (by kernel_rfl) (fun _ _ _ h => h) (Or.inl ⟨by simp [Region.wanted, yielded], ?_⟩) k2 ?_
        · intro w2 hSw; go_simp
        simp only [Act.put, List.setIfInBounds_toArray, List.set_cons_zero, List.set_cons_succ]
        refine wpAnyH_take (i := 11) (v := .bool false) rfl (by kernel_rfl) (by kernel_rfl) (by kernel_rfl) (fun _ _ _ h => h) (Or.inl ⟨by rfl, ?_⟩) k2 ?_
        · intro w2 hSw; go_simp
        simp only [Act.put, List.setIfInBounds_toArray, List.set_cons_zero, List.set_cons_succ]
        refine wpAnyH_take (i := 12) (v := .bool false) rfl (by kernel_rfl) (by kernel_rfl) (by kernel_rfl) (fun _ _ _ h => h) (Or.inl ⟨by rfl, ?_⟩) k2 ?_
        · intro w2 hSw; go_simp
        simp only [Act.put, List.setIfInBounds_toArray, List.set_cons_zero, List.set_cons_succ]
        refine wpAnyH_take (i := 13) (v := .pointer (some ⟨w.heap.size, 2, none⟩)) rfl (by kernel_rfl) (by kernel_rfl) (by kernel_rfl) (fun _ _ _ h => h) (Or.inl ⟨by simp [Region.wanted, yielded], ?_⟩) k2 ?_
        · intro w2 hSw; go_simp
        simp only [Act.put, List.setIfInBounds_toArray, List.set_cons_zero, List.set_cons_succ]
        refine wpAnyH_take (i := 14) (v := .slice a2 l2.length c2) rfl (by kernel_rfl) (by kernel_rfl) (by kernel_rfl) (fun _ _ _ h => h) (Or.inl ⟨by simp [Region.wanted, yielded], ?_⟩) k2 ?_
        · intro w2 hSw; go_simp
        simp only [Act.put, List.setIfInBounds_toArray, List.set_cons_zero, List.set_cons_succ]
        refine wpAnyH_take (i := 15) (v := .int .i64 (l2.length : Int)) rfl (by kernel_rfl) (by kernel_rfl) (by kernel_rfl) (fun _ _ _ h => h) (Or.inl ⟨by simp [Region.wanted, yielded], ?_⟩) k2 ?_
        · intro w2 hSw; go_simp
        simp only [Act.put, List.setIfInBounds_toArray, List.set_cons_zero, List.set_cons_succ]
        refine wpAnyH_take (i := 16) (v := .pointer (some ⟨w.heap.size, 3, none⟩)) rfl (by kernel_rfl) (by kernel_rfl) (by kernel_rfl) (fun _ _ _ h => h) (Or.inl ⟨by simp [Region.wanted, yielded], ?_⟩) k2 ?_
        · intro w2 hSw; go_simp
        simp only [Act.put, List.setIfInBounds_toArray, List.set_cons_zero, List.set_cons_succ]
        refine wpAnyH_take (i := 17) (v := .slice (some ⟨b, off, none⟩) l3.length c3) rfl (by kernel_rfl) (by kernel_rfl) (by kernel_rfl) (fun _ _ _ h => h) (Or.inl ⟨by simp [Region.wanted, yielded], ?_⟩) k2 ?_
        · intro w2 hSw; go_simp
        simp only [Act.put, List.setIfInBounds_toArray, List.set_cons_zero, List.set_cons_succ]
        refine wpAnyH_take (i := 18) (v := .int .i64 (l3.length : Int)) rfl (by kernel_rfl) (by kernel_rfl) (by kernel_rfl) (fun _ _ _ h => h) (Or.inl ⟨by simp [Region.wanted, yielded], ?_⟩) k2 ?_
        · intro w2 hSw; go_simp
        simp only [Act.put, List.setIfInBounds_toArray, List.set_cons_zero, List.set_cons_succ]
        refine wpAnyH_take (i := 19) (v := .int .i64 ((l2.length : Int) + (l3.length : Int))) rfl (by kernel_rfl) (by kernel_rfl) (by kernel_rfl) (fun _ _ _ h => h) (Or.inl ⟨by simp [Region.wanted, yielded], ?_⟩) k2 ?_
        · intro w2 hSw; go_simp
        simp only [Act.put, List.setIfInBounds_toArray, List.set_cons_zero, List.set_cons_succ]
        refine wpAnyH_take (i := 20) (v := .bool (decide (6 ≤ (l2.length : Int) + (l3.length : Int)))) rfl (by kernel_rfl) (by kernel_rfl) (by kernel_rfl) (fun _ _ _ h => h) (Or.inl ⟨by simp [Region.wanted, yielded], ?_⟩) k2 ?_
        · intro w2 hSw; go_simp
        simp only [Act.put, List.setIfInBounds_toArray, List.set_cons_zero, List.set_cons_succ]
        refine wpAnyH_take (i := 21) (v := .bool (decide (6 ≤ (l2.length : Int) + (l3.length : Int)))) rfl (by kernel_rfl) (by kernel_rfl) (by kernel_rfl) (fun _ _ _ h => h) (Or.inl ⟨by rfl, ?_⟩) k2 ?_
        · intro w2 hSw; go_simp
        simp only [Act.put, List.setIfInBounds_toArray, List.set_cons_zero, List.set_cons_succ]
        refine wpAnyH_done (by kernel_rfl) ?_ _
        go_wp2_with fail
        go_meet
        exact ⟨HSUM.out, k2.1⟩
  case rest =>
    obtain ⟨rfl, hb⟩ := hcut
    rename World => w8
    clear hK hS0 hS1 u95 i95 zz C0
    have z68 := hb.size
    replace R0 := R0.below hb R0.lt; replace L0 := L0.trans (hb.mono L0.size); replace X0 := X0.below hb X0.lt; replace T := T.below hb (by omega); replace P0 := P0.below hb P0.lt
    clear hb A0 r0 r1 r2 r3
    by_cases hall : (am && decide (0 ≤ f) && decide (l2.length + l3.length < 6)) = true
    rotate_left
    · replace hall : (am && decide (0 ≤ f) && decide (l2.length + l3.length < 6)) = false := by simpa using hall
      rw [hall]
      have HE : Hid ((unfB l0 l1 l2 l3 (k : Int)) = false) := by show (unfB l0 l1 l2 l3 (k : Int)) = false; unfold unfB; rw [Int.toNat_natCast, HOPV.out, hff.out, Bool.and_assoc, Bool.and_assoc, Bool.and_assoc, ← Bool.and_assoc am, hall]; simp
      obtain ⟨F, FO⟩ := R0.fill (.slice none 0 0) (.slice none 0 0) (.slice none 0 0) (.slice none 0 0)
      have j0' := R0.c0; have j1' := R0.c1; have j2' := R0.c2; have j3' := R0.c3
      have g0 := R0.f0; have g1 := R0.f1; have g2 := R0.f2; have g3 := R0.f3
      go_wp2
      have i0 := F.c0; have i1 := F.c1; have i2 := F.c2; have i3 := F.c3
      refine bodyPost_ret (v := .tuple #[.agg #[.slice none 0 0, .slice none 0 0, .slice none 0 0, .slice none 0 0], .bool false]) ?_ rfl ⟨none, none, none, none, 0, 0, 0, 0, by rw [HE.out]; rfl, ?_, ?_⟩
      · simp [results, Try.results84, go_sem, i0, i1, i2, i3]
      · rw [HE.out]; exact (Four.none _ w.heap.size).mono (Nat.le_refl _) (by have := FO.size; have := L0.size; omega)
      · exact L0.trans (FO.below (by omega) L0.size)

    rw [hall]
    obtain ⟨⟨ham1, hf0⟩, hlt6⟩ : (am = true ∧ 0 ≤ f) ∧ l2.length + l3.length < 6 := by simpa using hall
    have HE : Hid (unfB l0 l1 l2 l3 (k : Int) = true) := by
      show unfB l0 l1 l2 l3 (k : Int) = true
      unfold unfB
      rw [Int.toNat_natCast, HT.out, HOPV.out, hff.out, ham1, decide_eq_true hf0, decide_eq_true hlt6, decide_eq_true (by omega)]
      rfl
    clear hall ham1 hlt6
    obtain ⟨s0, u0, s1, u1, s2, u2, s3, u3, ⟨f0a, f0b, F0⟩, ⟨f1a, f1b, F1⟩, ⟨f2a, f2b, F2⟩, ⟨f3a, f3b, F3⟩, d01, d02, d03, d12, d13, d23⟩ := T
    have e3 : ((l3.take k ++ l3.drop (k + 1))).length = (k + (l3.length - (k + 1))) := by simp; omega
    -- Cells
    have x2 := X0.c2
    have y0' := P0.c0
    have zX8 := X0.lt
    have zD8 := P0.lt
    go_wp2_with fail
    have al : Below w8.heap.size w8 (w8.alloc (.cells #[.int .i64 (s : Int), .int .i64 f] 67)) := (Below.refl _ _).alloc (Nat.le_refl _) _
    have K8 := own_pair w8 (s : Int) f
    refine (behind_any p2 (some ⟨w8.heap.size, 0, none⟩) l2.length 1 q2 1 l2 [((s : Int), f)] _ rfl rfl (by omega) (F2.row.below al (Nat.le_refl _)) K8.row y2.1 (fun e => by cases e)).mono ?_
    rintro e w9 ⟨pC, qC, rfl, G2, _, hb⟩
    have bb : Below w8.heap.size w8 w9 := al.trans (hb.mono al.size)
    have z89 := al.size
    replace G2 := G2.mono z89 (Nat.le_refl _)
    have z9 := bb.size
    replace R0 := R0.below bb R0.lt; replace L0 := L0.trans (bb.mono L0.size); replace X0 := X0.below bb X0.lt; replace P0 := P0.below bb P0.lt
    replace F0 := F0.below bb (by omega); replace F1 := F1.below bb (by omega); replace F3 := F3.below bb (by omega)
    clear bb hb al K8 x2 y0' F2
    have x2 := X0.c2; have xf := X0.f2
    go_upto_region 10 with fail
    have ho := Out.set X 2 w9 (.slice pC (l2.length + 1) qC)
    replace X0 := X0.set2 (.slice pC (l2.length + 1) qC)
    replace R0 := R0.out ho (.inl (by omega)); replace L0 := L0.trans (ho.below (by omega) L0.size); replace P0 := P0.out ho (.inr (by omega))
    replace F0 := F0.out ho (.inl (by omega)); replace F1 := F1.out ho (.inl (by omega)); replace F3 := F3.out ho (.inl (by omega)); replace G2 := G2.out ho (.inr (by omega))
    have hsz : w9.heap.size ≤ (w9.setCell ⟨X, 2, none⟩ (.slice pC (l2.length + 1) qC)).heap.size := ho.size
    clear ho x2 xf
    generalize w9.setCell ⟨X, 2, none⟩ (.slice pC (l2.length + 1) qC) = wA at *
    -- Segs
    have x3 := X0.c3
    have y1' := P0.c1
    have zXA := X0.lt
    have zDA := P0.lt
    go_wp2_with fail
    have al : Below wA.heap.size wA (wA.alloc (.cells #[.int .i64 f, .int .i64 (t : Int)] 67)) := (Below.refl _ _).alloc (Nat.le_refl _) _
    have K8 := own_pair wA f (t : Int)
    refine (behind_any p3 (some ⟨wA.heap.size, 0, none⟩) (k + (l3.length - (k + 1))) 1 q3 1 (l3.take k ++ l3.drop (k + 1)) [(f, (t : Int))] _ e3 rfl (by omega) (F3.row.below al (Nat.le_refl _)) K8.row y3.1 (fun e => by cases e)).mono ?_
    rintro e wB ⟨pS, qS, rfl, G3, _, hb⟩
    have bb : Below wA.heap.size wA wB := al.trans (hb.mono al.size)
    have zAB := al.size
    replace G3 := G3.mono zAB (Nat.le_refl _)
    have zB := bb.size
    replace R0 := R0.below bb R0.lt; replace L0 := L0.trans (bb.mono L0.size); replace X0 := X0.below bb X0.lt
    replace F0 := F0.below bb (by omega); replace F1 := F1.below bb (by omega); replace G2 := G2.below bb (by omega)
    clear bb hb al K8 x3 y1' F3 P0
    have x3 := X0.c3; have xf := X0.f3
    go_upto_region 11 with fail
    have ho := Out.set X 3 wB (.slice pS ((k + (l3.length - (k + 1))) + 1) qS)
    replace X0 := X0.set3 (.slice pS ((k + (l3.length - (k + 1))) + 1) qS)
    replace R0 := R0.out ho (.inl (by omega)); replace L0 := L0.trans (ho.below (by omega) L0.size)
    replace F0 := F0.out ho (.inl (by omega)); replace F1 := F1.out ho (.inl (by omega)); replace G2 := G2.out ho (.inr (by omega)); replace G3 := G3.out ho (.inr (by omega))
    have hsz2 : wB.heap.size ≤ (wB.setCell ⟨X, 3, none⟩ (.slice pS ((k + (l3.length - (k + 1))) + 1) qS)).heap.size := ho.size
    clear ho x3 xf
    generalize wB.setCell ⟨X, 3, none⟩ (.slice pS ((k + (l3.length - (k + 1))) + 1) qS) = wC at *
    obtain ⟨F, FO⟩ := R0.fill (.slice p0 l0.length q0) (.slice p1 l1.length q1) (.slice pC (l2.length + 1) qC) (.slice pS ((k + (l3.length - (k + 1))) + 1) qS)
    have x0 := X0.c0; have x1 := X0.c1; have x2 := X0.c2; have x3 := X0.c3
    have j0' := R0.c0; have j1' := R0.c1; have j2' := R0.c2; have j3' := R0.c3
    have g0 := R0.f0; have g1 := R0.f1; have g2 := R0.f2; have g3 := R0.f3
    go_wp2
    have i0 := F.c0; have i1 := F.c1; have i2 := F.c2; have i3 := F.c3
    have EL2 : (unfC l2 (l3.getD k (0, 0)) f).length = l2.length + 1 := by simp [unfC]
    have EL3 : (unfS l3 k (l3.getD k (0, 0)) f).length = (k + (l3.length - (k + 1))) + 1 := by simp [unfS]; omega
    refine bodyPost_ret (v := .tuple #[.agg #[.slice p0 l0.length q0, .slice p1 l1.length q1, .slice pC (l2.length + 1) qC, .slice pS ((k + (l3.length - (k + 1))) + 1) qS], .bool true]) ?_ rfl ⟨p0, p1, pC, pS, q0, q1, qC, qS, by rw [HE.out, Int.toNat_natCast, hff.out]; simp only [okL, if_true, EL2, EL3], ?_, ?_⟩
    · simp [results, Try.results84, go_sem, i0, i1, i2, i3]
    · rw [HE.out, Int.toNat_natCast, hff.out]
      simp only [okL, if_true, EL2, EL3]
      rw [HSG.out]
      have hfs := FO.size
      refine ⟨s0, u0, s1, u1, w8.heap.size, w9.heap.size, wA.heap.size, wB.heap.size, ⟨by omega, by omega, F0.out FO (.inr (by omega))⟩, ⟨by omega, by omega, F1.out FO (.inr (by omega))⟩, ⟨by omega, by omega, G2.out FO (.inr (by omega))⟩, ⟨by omega, by omega, G3.out FO (.inr (by omega))⟩, d01, .inl (by omega), .inl (by omega), .inl (by omega), .inl (by omega), .inl (by omega)⟩
    · exact L0.trans (FO.below (by omega) L0.size)

end Go.Proofs.Ytldhbooginlcpaa
