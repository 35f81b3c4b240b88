/-
  Plain lemmas and contracts of functions for the other texts of this seat: Ui, Wm, Oc, Os, St, Ci.
-/
import Derived.Test.YtphchdjbhbmnbaaGaj
import Derived.Test.YtphchdjbhbmnbaaGag
import Derived.Test.YtphchdjbhbmnbaaGad
import Derived.Test.YtphchdjbhbmnbaaGah
import Derived.Maps.OwnSet
import Derived.Maps.OwnOps
import Derived.Maps.RangeWalk
import Derived.Maps.Ext
namespace Go.Proofs.Ytphchdjbhbmnbaa
open Go.RowKit
set_option linter.unusedVariables false

theorem hd_tl {n : Nat} {l : List Int} (h : l.length = n + 1) : ∃ x t, l = x :: t ∧ t.length = n := by
  cases l with
  | nil => simp at h
  | cons x t => exact ⟨x, t, rfl, by simpa using h⟩
theorem sixteen (l : List Int) (h : l.length = 16) : ∃ x0 x1 x2 x3 x4 x5 x6 x7 x8 x9 x10 x11 x12 x13 x14 x15 : Int, l = [x0, x1, x2, x3, x4, x5, x6, x7, x8, x9, x10, x11, x12, x13, x14, x15] := by
  obtain ⟨x0, t0, rfl, h0⟩ := hd_tl h
  obtain ⟨x1, t1, rfl, h1⟩ := hd_tl h0
  obtain ⟨x2, t2, rfl, h2⟩ := hd_tl h1
  obtain ⟨x3, t3, rfl, h3⟩ := hd_tl h2
  obtain ⟨x4, t4, rfl, h4⟩ := hd_tl h3
  obtain ⟨x5, t5, rfl, h5⟩ := hd_tl h4
  obtain ⟨x6, t6, rfl, h6⟩ := hd_tl h5
  obtain ⟨x7, t7, rfl, h7⟩ := hd_tl h6
  obtain ⟨x8, t8, rfl, h8⟩ := hd_tl h7
  obtain ⟨x9, t9, rfl, h9⟩ := hd_tl h8
  obtain ⟨x10, t10, rfl, h10⟩ := hd_tl h9
  obtain ⟨x11, t11, rfl, h11⟩ := hd_tl h10
  obtain ⟨x12, t12, rfl, h12⟩ := hd_tl h11
  obtain ⟨x13, t13, rfl, h13⟩ := hd_tl h12
  obtain ⟨x14, t14, rfl, h14⟩ := hd_tl h13
  obtain ⟨x15, t15, rfl, h15⟩ := hd_tl h14
  obtain rfl := List.eq_nil_of_length_eq_zero h15
  exact ⟨x0, x1, x2, x3, x4, x5, x6, x7, x8, x9, x10, x11, x12, x13, x14, x15, rfl⟩

/-- What the region that asks keeps. -/
abbrev UK (wB : World) (A D C : Nat) (v1 v2 v3 : Value) (s t : Int) (c : List Int) (W : World) : Prop := Below wB.heap.size wB W ∧ W.cell? ⟨A, 1, none⟩ = some v1 ∧ W.cell? ⟨A, 2, none⟩ = some v2 ∧ W.cell? ⟨A, 3, none⟩ = some v3 ∧ W.cell? ⟨D, 0, none⟩ = some (.int .i64 s) ∧ W.cell? ⟨D, 1, none⟩ = some (.int .i64 t) ∧ W.rangeAt C 0 (ic c)
theorem uk_own {wB W : World} {A D C : Nat} {v1 v2 v3 : Value} {s t : Int} {c : List Int} (hl : c.length = 16) (hz : A < wB.heap.size ∧ D < wB.heap.size) (c1 : wB.cell? ⟨A, 1, none⟩ = some v1) (c2 : wB.cell? ⟨A, 2, none⟩ = some v2) (c3 : wB.cell? ⟨A, 3, none⟩ = some v3) (d0 : wB.cell? ⟨D, 0, none⟩ = some (.int .i64 s)) (d1 : wB.cell? ⟨D, 1, none⟩ = some (.int .i64 t)) (h : OwnI wB C 16 c 16) (hb : Below wB.heap.size wB W) : UK wB A D C v1 v2 v3 s t c W := by
  have e : ∀ b o, b < wB.heap.size → W.cell? ⟨b, o, none⟩ = wB.cell? ⟨b, o, none⟩ := fun b o hb' => hb.cell (p := ⟨b, o, none⟩) hb'
  exact ⟨hb, (e _ _ hz.1).trans c1, (e _ _ hz.1).trans c2, (e _ _ hz.1).trans c3, (e _ _ hz.2).trans d0, (e _ _ hz.2).trans d1, (h.below hb h.1).range hl⟩
theorem uk_row {wB W : World} {A D C : Nat} {v1 v2 v3 : Value} {s t : Int} {c : List Int} {a : Option Addr} {l : List (Int × Int)} (r : PRow wB a l) (h : UK wB A D C v1 v2 v3 s t c W) : PRow W a l := r.below h.1 (Nat.le_refl _)
theorem uk_trans {wB W u : World} {A D C : Nat} {v1 v2 v3 : Value} {s t : Int} {c : List Int} (h : UK wB A D C v1 v2 v3 s t c W) (hb : Below W.heap.size W u) : Below wB.heap.size wB u := h.1.trans (hb.mono h.1.size)

theorem PBox.out {lo hi : Nat} {w w' : World} {b : Nat} {x y : Int} (h : PBox w b x y) (ho : Out lo hi w w') (hr : b < lo ∨ hi ≤ b) : PBox w' b x y := by
  have e := ho.block b h.lt hr
  exact ⟨Nat.lt_of_lt_of_le h.lt ho.size, by rw [World.cell?_of_block e]; exact h.c0, by rw [World.cell?_of_block e]; exact h.c1⟩
theorem wth3 {l0 l1 l2 l3 : List (Int × Int)} {i : Int} : wthB l0 l1 l2 l3 3 i = (asnB l0 l1 l2 l3 && decide (0 ≤ i ∧ i < (l3.length : Int))) := by
  unfold wthB
  rw [decide_eq_true (by omega), Bool.true_and]
  rfl

theorem iWithout3_no (a0 a1 a2 a3 : Option Addr) (c0 c1 c2 c3 : Nat) (l0 l1 l2 l3 : List (Int × Int)) (i : Int) (w : World) (n0 : l0.length ≤ 1048576) (n1 : l1.length ≤ 1048576) (n2 : l2.length ≤ 1048576) (n3 : l3.length ≤ 1048576) (r0 : PRow w a0 l0) (r1 : PRow w a1 l1) (r2 : PRow w a2 l2) (r3 : PRow w a3 l3) (z0 : CapZ a0 l0.length c0) (z1 : CapZ a1 l1.length c1) (z2 : CapZ a2 l2.length c2) (z3 : CapZ a3 l3.length c3) (hB : wthB l0 l1 l2 l3 3 i = false) :
    Calls Try.prog 58 #[.agg #[.slice a0 l0.length c0, .slice a1 l1.length c1, .slice a2 l2.length c2, .slice a3 l3.length c3], .int .i64 3, .int .i64 i] w fun e w' => ∃ p0 p1 p2 p3 q0 q1 q2 q3, e = .returned (.tuple #[.agg #[.slice p0 0 q0, .slice p1 0 q1, .slice p2 0 q2, .slice p3 0 q3], .bool false]) ∧ Below w.heap.size w w' := by
  refine (iWithout_any a0 a1 a2 a3 c0 c1 c2 c3 l0 l1 l2 l3 3 i w n0 n1 n2 n3 r0 r1 r2 r3 z0 z1 z2 z3).mono ?_
  rintro e w1 ⟨p0, p1, p2, p3, q0, q1, q2, q3, rfl, _, _, hb⟩
  rw [hB]
  exact ⟨p0, p1, p2, p3, q0, q1, q2, q3, rfl, hb⟩
theorem iWithout3_yes (a0 a1 a2 a3 : Option Addr) (c0 c1 c2 c3 : Nat) (l0 l1 l2 l3 : List (Int × Int)) (k : Nat) (w : World) (n0 : l0.length ≤ 1048576) (n1 : l1.length ≤ 1048576) (n2 : l2.length ≤ 1048576) (n3 : l3.length ≤ 1048576) (r0 : PRow w a0 l0) (r1 : PRow w a1 l1) (r2 : PRow w a2 l2) (r3 : PRow w a3 l3) (z0 : CapZ a0 l0.length c0) (z1 : CapZ a1 l1.length c1) (z2 : CapZ a2 l2.length c2) (z3 : CapZ a3 l3.length c3) (hB : wthB l0 l1 l2 l3 3 (k : Int) = true) (hk : k < l3.length) :
    Calls Try.prog 58 #[.agg #[.slice a0 l0.length c0, .slice a1 l1.length c1, .slice a2 l2.length c2, .slice a3 l3.length c3], .int .i64 3, .int .i64 k] w fun e w' => ∃ p0 p1 p2 p3 q0 q1 q2 q3, e = .returned (.tuple #[.agg #[.slice p0 l0.length q0, .slice p1 l1.length q1, .slice p2 l2.length q2, .slice p3 (k + (l3.length - (k + 1))) q3], .bool true]) ∧ Four w' w.heap.size w'.heap.size p0 p1 p2 p3 l0.length l1.length l2.length (k + (l3.length - (k + 1))) l0 l1 l2 (l3.take k ++ l3.drop (k + 1)) ∧ (CapZ p0 l0.length q0 ∧ CapZ p1 l1.length q1 ∧ CapZ p2 l2.length q2 ∧ CapZ p3 (k + (l3.length - (k + 1))) q3) ∧ Below w.heap.size w w' := by
  have e3 : (l3.take k ++ l3.drop (k + 1)).length = k + (l3.length - (k + 1)) := by simp; omega
  have h0 : wthL l0 3 0 (k : Int) = l0 := if_neg (by decide)
  have h1 : wthL l1 3 1 (k : Int) = l1 := if_neg (by decide)
  have h2 : wthL l2 3 2 (k : Int) = l2 := if_neg (by decide)
  have h3 : wthL l3 3 3 (k : Int) = l3.take k ++ l3.drop (k + 1) := if_pos rfl
  refine (iWithout_any a0 a1 a2 a3 c0 c1 c2 c3 l0 l1 l2 l3 3 k w n0 n1 n2 n3 r0 r1 r2 r3 z0 z1 z2 z3).mono ?_
  rintro e w1 ⟨p0, p1, p2, p3, q0, q1, q2, q3, rfl, T, Y, hb⟩
  rw [hB, h0, h1, h2, h3] at T Y ⊢
  simp only [okL, if_true, e3] at T Y ⊢
  exact ⟨p0, p1, p2, p3, q0, q1, q2, q3, rfl, T, Y, hb⟩

set_option linter.unusedSimpArgs false in
set_option maxRecDepth 20000 in
set_option maxHeartbeats 8000000 in
theorem iUnfold_any (a0 a1 a2 a3 : Option Addr) (c0 c1 c2 c3 : Nat) (l0 l1 l2 l3 : List (Int × Int)) (i : Int) (w : World) (n0 : l0.length ≤ 1048576) (n1 : l1.length ≤ 1048576) (n2 : l2.length ≤ 1048576) (n3 : l3.length ≤ 1048576) (r0 : PRow w a0 l0) (r1 : PRow w a1 l1) (r2 : PRow w a2 l2) (r3 : PRow w a3 l3) (z0 : CapZ a0 l0.length c0) (z1 : CapZ a1 l1.length c1) (z2 : CapZ a2 l2.length c2) (z3 : CapZ a3 l3.length c3) :
    Calls Try.prog 90 #[.agg #[.slice a0 l0.length c0, .slice a1 l1.length c1, .slice a2 l2.length c2, .slice a3 l3.length c3], .int .i64 i] w fun e w' => ∃ p0 p1 p2 p3 q0 q1 q2 q3, e = .returned (.tuple #[.agg #[.slice p0 (okL (unfB l0 l1 l2 l3 i) l0).length q0, .slice p1 (okL (unfB l0 l1 l2 l3 i) l1).length q1, .slice p2 (okL (unfB l0 l1 l2 l3 i) (unfC l2 (l3.getD i.toNat (0, 0)) (freshF (usedV l0 l1 l2 l3)))).length q2, .slice p3 (okL (unfB l0 l1 l2 l3 i) (unfS l3 i.toNat (l3.getD i.toNat (0, 0)) (freshF (usedV l0 l1 l2 l3)))).length q3], .bool (unfB l0 l1 l2 l3 i)]) ∧ Four w' w.heap.size w'.heap.size p0 p1 p2 p3 (okL (unfB l0 l1 l2 l3 i) l0).length (okL (unfB l0 l1 l2 l3 i) l1).length (okL (unfB l0 l1 l2 l3 i) (unfC l2 (l3.getD i.toNat (0, 0)) (freshF (usedV l0 l1 l2 l3)))).length (okL (unfB l0 l1 l2 l3 i) (unfS l3 i.toNat (l3.getD i.toNat (0, 0)) (freshF (usedV l0 l1 l2 l3)))).length (okL (unfB l0 l1 l2 l3 i) l0) (okL (unfB l0 l1 l2 l3 i) l1) (okL (unfB l0 l1 l2 l3 i) (unfC l2 (l3.getD i.toNat (0, 0)) (freshF (usedV l0 l1 l2 l3)))) (okL (unfB l0 l1 l2 l3 i) (unfS l3 i.toNat (l3.getD i.toNat (0, 0)) (freshF (usedV l0 l1 l2 l3)))) ∧ Below w.heap.size w w' := by
  have A0 := (Box.new w (.slice a0 l0.length c0) (.slice a1 l1.length c1) (.slice a2 l2.length c2) (.slice a3 l3.length c3) 28).alloc (.cells #[.slice none 0 0, .slice none 0 0, .slice none 0 0, .slice none 0 0] 28)
  have R0 := Box.new (w.alloc (.cells #[.slice a0 l0.length c0, .slice a1 l1.length c1, .slice a2 l2.length c2, .slice a3 l3.length c3] 28)) (.slice none 0 0) (.slice none 0 0) (.slice none 0 0) (.slice none 0 0) 28
  have L0 : Below w.heap.size w ((w.alloc (.cells #[.slice a0 l0.length c0, .slice a1 l1.length c1, .slice a2 l2.length c2, .slice a3 l3.length c3] 28)).alloc (.cells #[.slice none 0 0, .slice none 0 0, .slice none 0 0, .slice none 0 0] 28)) := ((Below.refl _ _).alloc (Nat.le_refl _) _).alloc (by simp) _
  rw [World.size_alloc] at R0
  go_enter Try.func90, Try.ntmps90
  by_cases hwb : wthB l0 l1 l2 l3 3 i = true
  rotate_left
  · replace hwb : wthB l0 l1 l2 l3 3 i = false := by simpa using hwb
    go_wp2_with fail
    refine (iWithout3_no a0 a1 a2 a3 c0 c1 c2 c3 l0 l1 l2 l3 i _ n0 n1 n2 n3 (r0.below L0 (Nat.le_refl _)) (r1.below L0 (Nat.le_refl _)) (r2.below L0 (Nat.le_refl _)) (r3.below L0 (Nat.le_refl _)) z0 z1 z2 z3 hwb).mono ?_
    rintro e w1 ⟨p0, p1, p2, p3, q0, q1, q2, q3, rfl, hb⟩
    have al : Below w1.heap.size w1 (w1.alloc (.cells #[.slice p0 0 q0, .slice p1 0 q1, .slice p2 0 q2, .slice p3 0 q3] 28)) := (Below.refl _ _).alloc (Nat.le_refl _) _
    have zz : w.heap.size + 1 < w1.heap.size := Nat.lt_of_lt_of_le R0.lt hb.size
    replace R0 := (R0.below hb R0.lt).below al zz; replace L0 := (L0.trans (hb.mono L0.size)).trans (al.mono (Nat.le_trans L0.size hb.size))
    clear hb al A0
    go_upto_region 2 with fail
    generalize w1.alloc (.cells #[.slice p0 0 q0, .slice p1 0 q1, .slice p2 0 q2, .slice p3 0 q3] 28) = w2 at *
    have HE : Hid ((unfB l0 l1 l2 l3 i) = false) := by show (unfB l0 l1 l2 l3 i) = false; rw [wth3] at hwb; unfold unfB; rw [hwb]; rfl
    obtain ⟨F, FO⟩ := R0.fill (.slice none 0 0) (.slice none 0 0) (.slice none 0 0) (.slice none 0 0)
    have j0' := R0.c0; have j1' := R0.c1; have j2' := R0.c2; have j3' := R0.c3
    have g0 := R0.f0; have g1 := R0.f1; have g2 := R0.f2; have g3 := R0.f3
    go_wp2
    have i0 := F.c0; have i1 := F.c1; have i2 := F.c2; have i3 := F.c3
    refine bodyPost_ret (v := .tuple #[.agg #[.slice none 0 0, .slice none 0 0, .slice none 0 0, .slice none 0 0], .bool false]) ?_ rfl ⟨none, none, none, none, 0, 0, 0, 0, by rw [HE.out]; rfl, ?_, ?_⟩
    · simp [results, Try.results90, go_sem, i0, i1, i2, i3]
    · rw [HE.out]; exact (Four.none _ w.heap.size).mono (Nat.le_refl _) (by have := FO.size; have := L0.size; omega)
    · exact L0.trans (FO.below (by omega) L0.size)

  obtain ⟨hok, hi⟩ : asnB l0 l1 l2 l3 = true ∧ (0 ≤ i ∧ i < (l3.length : Int)) := by rw [wth3] at hwb; simpa using hwb
  obtain ⟨k, rfl⟩ := Int.eq_ofNat_of_zero_le hi.1
  have hk : k < l3.length := by omega
  have HT : Hid (asnB l0 l1 l2 l3 = true) := hok
  obtain ⟨t0, t1, t2, t3⟩ := asnB_toks hok
  go_wp2_with fail
  refine (iWithout3_yes a0 a1 a2 a3 c0 c1 c2 c3 l0 l1 l2 l3 k _ n0 n1 n2 n3 (r0.below L0 (Nat.le_refl _)) (r1.below L0 (Nat.le_refl _)) (r2.below L0 (Nat.le_refl _)) (r3.below L0 (Nat.le_refl _)) z0 z1 z2 z3 hwb hk).mono ?_
  rintro e w1 ⟨p0, p1, p2, p3, q0, q1, q2, q3, rfl, T, ⟨y0, y1, y2, y3⟩, hb⟩
  have al : Below w1.heap.size w1 (w1.alloc (.cells #[.slice p0 l0.length q0, .slice p1 l1.length q1, .slice p2 l2.length q2, .slice p3 (k + (l3.length - (k + 1))) q3] 28)) := (Below.refl _ _).alloc (Nat.le_refl _) _
  have s0 := L0.size
  have X0 := Box.new w1 (.slice p0 l0.length q0) (.slice p1 l1.length q1) (.slice p2 l2.length q2) (.slice p3 (k + (l3.length - (k + 1))) q3) 28
  have zR := R0.lt
  have zA := A0.lt
  have zb := hb.size
  have za := al.size
  replace A0 := (A0.below hb A0.lt).below al (Nat.lt_of_lt_of_le A0.lt hb.size); replace R0 := (R0.below hb R0.lt).below al (Nat.lt_of_lt_of_le R0.lt hb.size); replace L0 := (L0.trans (hb.mono L0.size)).trans (al.mono (Nat.le_trans L0.size hb.size))
  replace T := T.below al (Nat.le_refl _)
  replace T := T.mono (show w.heap.size + 2 ≤ _ by simp) (Nat.le_refl _)
  replace r0 := r0.below (L0) (Nat.le_refl _); replace r1 := r1.below (L0) (Nat.le_refl _); replace r2 := r2.below (L0) (Nat.le_refl _); replace r3 := r3.below (L0) (Nat.le_refl _)
  clear hb al hwb hok
  go_upto_region 4 with fail
  have zx : w1.heap.size < (w1.alloc (.cells #[.slice p0 l0.length q0, .slice p1 l1.length q1, .slice p2 l2.length q2, .slice p3 (k + (l3.length - (k + 1))) q3] 28)).heap.size := by simp
  have zX : w.heap.size + 2 ≤ w1.heap.size := by simp at zb; omega
  clear zR zA zb za s0
  generalize w1.alloc (.cells #[.slice p0 l0.length q0, .slice p1 l1.length q1, .slice p2 l2.length q2, .slice p3 (k + (l3.length - (k + 1))) q3] 28) = w2 at *
  generalize hX : w1.heap.size = X at *
  clear hX
  have A3 := A0.c3
  obtain ⟨b, off, rfl, hbl, hcl⟩ : ∃ b off, a3 = some ⟨b, off, none⟩ ∧ b < w2.heap.size ∧ (w2.cell? ⟨b, off + k * 2, none⟩ = some (.int .i64 (l3.getD k (0, 0)).1) ∧ w2.cell? ⟨b, off + k * 2 + 1, none⟩ = some (.int .i64 (l3.getD k (0, 0)).2) ) := by
    rcases r3 with h | ⟨b, off, h, h1, h2⟩
    · rw [h] at hk; simp at hk
    · exact ⟨b, off, h, h1, h2 k hk⟩
  obtain ⟨d0, d1⟩ := hcl
  have htk := toks_get t3 hk
  have HSG : Hid (l3.getD k (0, 0) = ((l3.getD k (0, 0)).1, (l3.getD k (0, 0)).2)) := rfl
  obtain ⟨⟨g1, g2⟩, g3, g4⟩ := htk
  obtain ⟨s, t, hs, ht, es, et⟩ : ∃ s t : Nat, (l3.getD k (0, 0)).1 = (s : Int) ∧ (l3.getD k (0, 0)).2 = (t : Int) ∧ s < 16 ∧ t < 16 := ⟨(l3.getD k (0, 0)).1.toNat, (l3.getD k (0, 0)).2.toNat, by omega, by omega, by omega, by omega⟩
  rw [hs, ht] at HSG
  rw [hs] at d0
  rw [ht] at d1
  clear g1 g2 g3 g4 hs ht
  have hkl : (k : Int) < (l3.length : Int) := by omega
  have hk0' : (0 : Int) ≤ (k : Int) := by omega
  go_upto_region 5 with fail
  have P0 := PBox.new w2 s t 69
  have al : Below w2.heap.size w2 (w2.alloc (.cells #[.int .i64 (s : Int), .int .i64 (t : Int)] 69)) := (Below.refl _ _).alloc (Nat.le_refl _) _
  have zD : w2.heap.size < (w2.alloc (.cells #[.int .i64 (s : Int), .int .i64 (t : Int)] 69)).heap.size := by simp
  replace A0 := A0.below al A0.lt; replace R0 := R0.below al R0.lt; replace L0 := L0.trans (al.mono L0.size); replace X0 := X0.below al X0.lt; replace T := T.below al (by omega)
  replace r0 := r0.below (al) (Nat.le_refl _); replace r1 := r1.below (al) (Nat.le_refl _); replace r2 := r2.below (al) (Nat.le_refl _); replace r3 := r3.below (al) (Nat.le_refl _)
  clear al d0 d1 A3 hbl
  generalize w2.alloc (.cells #[.int .i64 (s : Int), .int .i64 (t : Int)] 69) = w3 at *
  generalize hD : w2.heap.size = D at *
  clear hD
  have A0c0 := A0.c0; have A0c1 := A0.c1; have A0c2 := A0.c2; have A0c3 := A0.c3
  go_wp2_with fail
  clear A0c0 A0c1 A0c2 A0c3
  refine (classesOf_any _ _ _ _ _ _ _ _ l0 l1 l2 l3 _ n0 t0 r0).mono ?_
  rintro e w4 ⟨rfl, hb⟩
  have HC := Cls.all t0
  replace A0 := A0.below hb A0.lt; replace R0 := R0.below hb R0.lt; replace L0 := L0.trans (hb.mono L0.size); replace X0 := X0.below hb X0.lt; replace T := T.below hb (by omega); replace P0 := P0.below hb P0.lt
  replace r0 := r0.below (hb) (Nat.le_refl _); replace r1 := r1.below (hb) (Nat.le_refl _); replace r2 := r2.below (hb) (Nat.le_refl _); replace r3 := r3.below (hb) (Nat.le_refl _)
  have z34 := hb.size
  clear hb
  obtain ⟨c, HCE⟩ : ∃ c, Hid (clsV l0 = c) := ⟨_, rfl⟩
  rw [HCE.out] at HC ⊢
  obtain ⟨x0, x1, x2, x3, x4, x5, x6, x7, x8, x9, x10, x11, x12, x13, x14, x15, rfl⟩ := sixteen c HC.1
  rw [show aV [x0, x1, x2, x3, x4, x5, x6, x7, x8, x9, x10, x11, x12, x13, x14, x15] = .agg #[.int .i64 x0, .int .i64 x1, .int .i64 x2, .int .i64 x3, .int .i64 x4, .int .i64 x5, .int .i64 x6, .int .i64 x7, .int .i64 x8, .int .i64 x9, .int .i64 x10, .int .i64 x11, .int .i64 x12, .int .i64 x13, .int .i64 x14, .int .i64 x15] from rfl]
  have C0 : OwnI (w4.alloc (.cells #[.int .i64 x0, .int .i64 x1, .int .i64 x2, .int .i64 x3, .int .i64 x4, .int .i64 x5, .int .i64 x6, .int .i64 x7, .int .i64 x8, .int .i64 x9, .int .i64 x10, .int .i64 x11, .int .i64 x12, .int .i64 x13, .int .i64 x14, .int .i64 x15] 102)) w4.heap.size 16 [x0, x1, x2, x3, x4, x5, x6, x7, x8, x9, x10, x11, x12, x13, x14, x15] 16 := OwnI.new w4 [x0, x1, x2, x3, x4, x5, x6, x7, x8, x9, x10, x11, x12, x13, x14, x15] 16 rfl 102
  have al : Below w4.heap.size w4 (w4.alloc (.cells #[.int .i64 x0, .int .i64 x1, .int .i64 x2, .int .i64 x3, .int .i64 x4, .int .i64 x5, .int .i64 x6, .int .i64 x7, .int .i64 x8, .int .i64 x9, .int .i64 x10, .int .i64 x11, .int .i64 x12, .int .i64 x13, .int .i64 x14, .int .i64 x15] 102)) := (Below.refl _ _).alloc (Nat.le_refl _) _
  have zC : w4.heap.size < (w4.alloc (.cells #[.int .i64 x0, .int .i64 x1, .int .i64 x2, .int .i64 x3, .int .i64 x4, .int .i64 x5, .int .i64 x6, .int .i64 x7, .int .i64 x8, .int .i64 x9, .int .i64 x10, .int .i64 x11, .int .i64 x12, .int .i64 x13, .int .i64 x14, .int .i64 x15] 102)).heap.size := by simp
  replace A0 := A0.below al A0.lt; replace R0 := R0.below al R0.lt; replace L0 := L0.trans (al.mono L0.size); replace X0 := X0.below al X0.lt; replace T := T.below al (by omega); replace P0 := P0.below al P0.lt
  replace r0 := r0.below (al) (Nat.le_refl _); replace r1 := r1.below (al) (Nat.le_refl _); replace r2 := r2.below (al) (Nat.le_refl _); replace r3 := r3.below (al) (Nat.le_refl _)
  clear al
  go_upto_region 6 with fail
  generalize w4.alloc (.cells #[.int .i64 x0, .int .i64 x1, .int .i64 x2, .int .i64 x3, .int .i64 x4, .int .i64 x5, .int .i64 x6, .int .i64 x7, .int .i64 x8, .int .i64 x9, .int .i64 x10, .int .i64 x11, .int .i64 x12, .int .i64 x13, .int .i64 x14, .int .i64 x15] 102) = w5 at *
  generalize hC : w4.heap.size = C at *
  clear hC
  have A0c0 := A0.c0; have A0c1 := A0.c1; have A0c2 := A0.c2; have A0c3 := A0.c3
  go_wp2_with fail
  clear A0c0 A0c1 A0c2 A0c3
  refine (iFresh_any _ _ _ _ _ _ _ _ l0 l1 l2 l3 _ n0 n1 n2 n3 r0 r1 r2 r3).mono ?_
  rintro e w6 ⟨rfl, hb⟩
  rw [show freshV l0 l1 l2 l3 = freshF (usedV l0 l1 l2 l3) by unfold freshV; rw [HT.out]; rfl]
  obtain ⟨f, hff⟩ : ∃ f, Hid (freshF (usedV l0 l1 l2 l3) = f) := ⟨_, rfl⟩
  rw [hff.out]
  have z56 := hb.size
  replace A0 := A0.below hb A0.lt; replace R0 := R0.below hb R0.lt; replace L0 := L0.trans (hb.mono L0.size); replace X0 := X0.below hb X0.lt; replace T := T.below hb (by omega); replace P0 := P0.below hb P0.lt; replace C0 := C0.below hb C0.1
  replace r0 := r0.below (hb) (Nat.le_refl _); replace r1 := r1.below (hb) (Nat.le_refl _); replace r2 := r2.below (hb) (Nat.le_refl _); replace r3 := r3.below (hb) (Nat.le_refl _)
  clear hb
  go_upto_region 7 with fail
  obtain ⟨gs, hgs⟩ : ∃ g, Hid (([x0, x1, x2, x3, x4, x5, x6, x7, x8, x9, x10, x11, x12, x13, x14, x15] : List Int).getD s 0 = g) := ⟨_, rfl⟩
  obtain ⟨gt, hgt⟩ : ∃ g, Hid (([x0, x1, x2, x3, x4, x5, x6, x7, x8, x9, x10, x11, x12, x13, x14, x15] : List Int).getD t 0 = g) := ⟨_, rfl⟩
  have bgs : 0 ≤ gs ∧ gs < 16 := by rw [← hgs.out]; exact HC.2 s es
  have bgt : 0 ≤ gt ∧ gt < 16 := by rw [← hgt.out]; exact HC.2 t et
  obtain ⟨am, ham⟩ : ∃ am, Hid (amongV [x0, x1, x2, x3, x4, x5, x6, x7, x8, x9, x10, x11, x12, x13, x14, x15] l1 gs gt = am) := ⟨_, rfl⟩
  have zz : w.heap.size < w6.heap.size ∧ D < w6.heap.size ∧ C < w6.heap.size := ⟨A0.lt, P0.lt, C0.1⟩
  have hK : ∀ u : World, Below w6.heap.size w6 u → UK w6 w.heap.size D C (.slice a1 l1.length c1) (.slice a2 l2.length c2) (.slice (some ⟨b, off, none⟩) l3.length c3) s t [x0, x1, x2, x3, x4, x5, x6, x7, x8, x9, x10, x11, x12, x13, x14, x15] u := fun u hu => uk_own rfl ⟨zz.1, zz.2.1⟩ A0.c1 A0.c2 A0.c3 P0.c0 P0.c1 C0 hu
  have hS1 := hK w6 (Below.refl _ _)
  have hS0 := hK w6.drew (Below.refl _ _).drew
  replace hK : Hid (∀ u : World, Below w6.heap.size w6 u → UK w6 w.heap.size D C (.slice a1 l1.length c1) (.slice a2 l2.length c2) (.slice (some ⟨b, off, none⟩) l3.length c3) s t [x0, x1, x2, x3, x4, x5, x6, x7, x8, x9, x10, x11, x12, x13, x14, x15] u) := hK
  have u95 := Try.underlying102
  have i95 : (Try.prog.info? 102).map (·.size) = some (ic [x0, x1, x2, x3, x4, x5, x6, x7, x8, x9, x10, x11, x12, x13, x14, x15]).length := by kernel_rfl
  have HOPV : Hid (openV (clsV l0) l1 [l3.getD k (0, 0)] = am) := by
    show openV (clsV l0) l1 [l3.getD k (0, 0)] = am
    rw [HCE.out, HSG.out]
    simp only [openV, List.all_cons, List.all_nil, Bool.and_true, Int.toNat_natCast]
    rw [hgs.out, hgt.out, ham.out]
  go_cut [50] (fun v50 wz => v50 = .bool (!(am && decide (0 ≤ f) && decide (l2.length + l3.length < 6))) ∧ Below w6.heap.size w6 wz)
  case first =>
    cases am
    · -- not among
      refine wp_region_held_drew (S := fun W => Below w6.heap.size w6 W ∧ W.cell? ⟨w.heap.size, 1, none⟩ = some (.slice a1 l1.length c1) ∧ W.cell? ⟨w.heap.size, 2, none⟩ = some (.slice a2 l2.length c2) ∧ W.cell? ⟨w.heap.size, 3, none⟩ = some (.slice (some ⟨b, off, none⟩) l3.length c3) ∧ W.cell? ⟨D, 0, none⟩ = some (.int .i64 s) ∧ W.cell? ⟨D, 1, none⟩ = some (.int .i64 t) ∧ W.rangeAt C 0 (ic [x0, x1, x2, x3, x4, x5, x6, x7, x8, x9, x10, x11, x12, x13, x14, x15])) (by kernel_rfl) hS0 (fun _ => ?_)
      generalize w6.drew = w7 at *
      refine wpAnyH_take (i := 0) rfl (by kernel_rfl) (by kernel_rfl) (by kernel_rfl) (fun _ _ _ h => h) (yieldsIf_load_mid (by rfl) _ _ rfl _ _ rfl _ _ (fun w' h => h.2.2.2.2.2.2) u95 rfl i95) hS0 ?_
      simp only [Act.put, List.setIfInBounds_toArray, List.set_cons_zero, List.set_cons_succ]
      refine wpAnyH_take (i := 1) (v := .pointer (some ⟨w.heap.size, 1, none⟩)) rfl (by kernel_rfl) (by kernel_rfl) (by kernel_rfl) (fun _ _ _ h => h) (Or.inl ⟨by rfl, ?_⟩) hS0 ?_
      · intro w2 hSw; go_simp
      simp only [Act.put, List.setIfInBounds_toArray, List.set_cons_zero, List.set_cons_succ]
      refine wpAnyH_take (i := 2) (v := .slice a1 l1.length c1) rfl (by kernel_rfl) (by kernel_rfl) (by kernel_rfl) (fun _ _ _ h => h) (Or.inl ⟨by rfl, ?_⟩) hS0 ?_
      · intro w2 hSw; go_simp
      simp only [Act.put, List.setIfInBounds_toArray, List.set_cons_zero, List.set_cons_succ]
      refine wpAnyH_take (i := 3) rfl (by kernel_rfl) (by kernel_rfl) (by kernel_rfl) (fun _ _ _ h => h) (yieldsIf_load_mid (by rfl) _ _ rfl _ _ rfl _ _ (fun w' h => h.2.2.2.2.2.2) u95 rfl i95) hS0 ?_
      simp only [Act.put, List.setIfInBounds_toArray, List.set_cons_zero, List.set_cons_succ]
      refine wpAnyH_take (i := 4) (v := .agg #[.int .i64 (s : Int), .int .i64 (t : Int)]) rfl (by kernel_rfl) (by kernel_rfl) (by kernel_rfl) (fun _ _ _ h => h) (Or.inl ⟨by rfl, ?_⟩) hS0 ?_
      · intro w2 hSw; go_simp
      simp only [Act.put, List.setIfInBounds_toArray, List.set_cons_zero, List.set_cons_succ]
      refine wpAnyH_ready (rs := [5]) (by kernel_rfl) (by simp) ?_
      refine AllReadyH.cons rfl (fun K hK' => ?_) AllReadyH.nil
      rw [if_pos (by rfl)]
      go_simp
      refine (of_any [x0, x1, x2, x3, x4, x5, x6, x7, x8, x9, x10, x11, x12, x13, x14, x15] s t _ rfl es et).mono ?_
      rintro e v0 ⟨rfl, h0⟩
      rw [hgs.out, hgt.out]
      have k1 := hK.out v0 (uk_trans hS0 h0)
      refine hK'.out _ _ k1 (fun _ => ?_)
      clear hK' K h0
      refine wpAnyH_ready (rs := [6]) (by kernel_rfl) (by simp) ?_
      refine AllReadyH.cons rfl (fun K hK' => ?_) AllReadyH.nil
      rw [if_pos (by rfl)]
      go_simp
      refine (among_any [x0, x1, x2, x3, x4, x5, x6, x7, x8, x9, x10, x11, x12, x13, x14, x15] _ _ l1 gs gt HC _ n1 t1 (uk_row r1 k1) bgs bgt).mono ?_
      rintro e v1 ⟨rfl, h1⟩
      rw [ham.out]
      have k2 := hK.out v1 (uk_trans k1 h1)
      refine hK'.out _ _ k2 (fun _ => ?_)
      clear hK' K h1
      refine wpAnyH_take (i := 7) (v := .bool true) rfl (by kernel_rfl) (by kernel_rfl) (by kernel_rfl) (fun _ _ _ h => h) (Or.inl ⟨by rfl, ?_⟩) k2 ?_
      · intro w2 hSw; go_simp
      simp only [Act.put, List.setIfInBounds_toArray, List.set_cons_zero, List.set_cons_succ]
      refine wpAnyH_take (i := 8) (v := .bool true) rfl (by kernel_rfl) (by kernel_rfl) (by kernel_rfl) (fun _ _ _ h => h) (Or.inl ⟨by rfl, ?_⟩) k2 ?_
      · intro w2 hSw; go_simp
      simp only [Act.put, List.setIfInBounds_toArray, List.set_cons_zero, List.set_cons_succ]
      refine wpAnyH_take (i := 9) (v := undef) rfl (by kernel_rfl) (by kernel_rfl) (by kernel_rfl) (fun _ _ _ h => h) (Or.inr ⟨by simp [Region.wanted, yielded], rfl⟩) k2 ?_
      simp only [Act.put, List.setIfInBounds_toArray, List.set_cons_zero, List.set_cons_succ]
      refine wpAnyH_take (i := 10) (v := undef) rfl (by kernel_rfl) (by kernel_rfl) (by kernel_rfl) (fun _ _ _ h => h) (Or.inr ⟨by simp [Region.wanted, yielded], rfl⟩) k2 ?_
      simp only [Act.put, List.setIfInBounds_toArray, List.set_cons_zero, List.set_cons_succ]
      refine wpAnyH_take (i := 11) (v := .bool true) rfl (by kernel_rfl) (by kernel_rfl) (by kernel_rfl) (fun _ _ _ h => h) (Or.inl ⟨by rfl, ?_⟩) k2 ?_
      · intro w2 hSw; go_simp
      simp only [Act.put, List.setIfInBounds_toArray, List.set_cons_zero, List.set_cons_succ]
      refine wpAnyH_take (i := 12) (v := .bool true) rfl (by kernel_rfl) (by kernel_rfl) (by kernel_rfl) (fun _ _ _ h => h) (Or.inl ⟨by rfl, ?_⟩) k2 ?_
      · intro w2 hSw; go_simp
      simp only [Act.put, List.setIfInBounds_toArray, List.set_cons_zero, List.set_cons_succ]
      refine wpAnyH_take (i := 13) (v := undef) rfl (by kernel_rfl) (by kernel_rfl) (by kernel_rfl) (fun _ _ _ h => h) (Or.inr ⟨by simp [Region.wanted, yielded], rfl⟩) k2 ?_
      simp only [Act.put, List.setIfInBounds_toArray, List.set_cons_zero, List.set_cons_succ]
      refine wpAnyH_take (i := 14) (v := undef) rfl (by kernel_rfl) (by kernel_rfl) (by kernel_rfl) (fun _ _ _ h => h) (Or.inr ⟨by simp [Region.wanted, yielded], rfl⟩) k2 ?_
      simp only [Act.put, List.setIfInBounds_toArray, List.set_cons_zero, List.set_cons_succ]
      refine wpAnyH_take (i := 15) (v := undef) rfl (by kernel_rfl) (by kernel_rfl) (by kernel_rfl) (fun _ _ _ h => h) (Or.inr ⟨by simp [Region.wanted, yielded], rfl⟩) k2 ?_
      simp only [Act.put, List.setIfInBounds_toArray, List.set_cons_zero, List.set_cons_succ]
      refine wpAnyH_take (i := 16) (v := undef) rfl (by kernel_rfl) (by kernel_rfl) (by kernel_rfl) (fun _ _ _ h => h) (Or.inr ⟨by simp [Region.wanted, yielded], rfl⟩) k2 ?_
      simp only [Act.put, List.setIfInBounds_toArray, List.set_cons_zero, List.set_cons_succ]
      refine wpAnyH_take (i := 17) (v := undef) rfl (by kernel_rfl) (by kernel_rfl) (by kernel_rfl) (fun _ _ _ h => h) (Or.inr ⟨by simp [Region.wanted, yielded], rfl⟩) k2 ?_
      simp only [Act.put, List.setIfInBounds_toArray, List.set_cons_zero, List.set_cons_succ]
      refine wpAnyH_take (i := 18) (v := undef) rfl (by kernel_rfl) (by kernel_rfl) (by kernel_rfl) (fun _ _ _ h => h) (Or.inr ⟨by simp [Region.wanted, yielded], rfl⟩) k2 ?_
      simp only [Act.put, List.setIfInBounds_toArray, List.set_cons_zero, List.set_cons_succ]
      refine wpAnyH_take (i := 19) (v := undef) rfl (by kernel_rfl) (by kernel_rfl) (by kernel_rfl) (fun _ _ _ h => h) (Or.inr ⟨by simp [Region.wanted, yielded], rfl⟩) k2 ?_
      simp only [Act.put, List.setIfInBounds_toArray, List.set_cons_zero, List.set_cons_succ]
      refine wpAnyH_take (i := 20) (v := undef) rfl (by kernel_rfl) (by kernel_rfl) (by kernel_rfl) (fun _ _ _ h => h) (Or.inr ⟨by simp [Region.wanted, yielded], rfl⟩) k2 ?_
      simp only [Act.put, List.setIfInBounds_toArray, List.set_cons_zero, List.set_cons_succ]
      refine wpAnyH_take (i := 21) (v := .bool true) rfl (by kernel_rfl) (by kernel_rfl) (by kernel_rfl) (fun _ _ _ h => h) (Or.inl ⟨by rfl, ?_⟩) k2 ?_
      · intro w2 hSw; go_simp
      simp only [Act.put, List.setIfInBounds_toArray, List.set_cons_zero, List.set_cons_succ]
      refine wpAnyH_done (by kernel_rfl) ?_ _
      simp only [List.getElem_toArray, List.getElem_cons_succ, List.getElem_cons_zero, Act.put, List.setIfInBounds_toArray, List.set_cons_zero, List.set_cons_succ]
      go_wp2_with fail
      go_meet
      exact ⟨by simp, k2.1⟩
    · by_cases hf : f < 0
      · have hnf : ¬ (0 ≤ f) := by omega
        refine wp_region_held_drew (S := fun W => Below w6.heap.size w6 W ∧ W.cell? ⟨w.heap.size, 1, none⟩ = some (.slice a1 l1.length c1) ∧ W.cell? ⟨w.heap.size, 2, none⟩ = some (.slice a2 l2.length c2) ∧ W.cell? ⟨w.heap.size, 3, none⟩ = some (.slice (some ⟨b, off, none⟩) l3.length c3) ∧ W.cell? ⟨D, 0, none⟩ = some (.int .i64 s) ∧ W.cell? ⟨D, 1, none⟩ = some (.int .i64 t) ∧ W.rangeAt C 0 (ic [x0, x1, x2, x3, x4, x5, x6, x7, x8, x9, x10, x11, x12, x13, x14, x15])) (by kernel_rfl) hS0 (fun _ => ?_)
        generalize w6.drew = w7 at *
        refine wpAnyH_take (i := 0) rfl (by kernel_rfl) (by kernel_rfl) (by kernel_rfl) (fun _ _ _ h => h) (yieldsIf_load_mid (by rfl) _ _ rfl _ _ rfl _ _ (fun w' h => h.2.2.2.2.2.2) u95 rfl i95) hS0 ?_
        simp only [Act.put, List.setIfInBounds_toArray, List.set_cons_zero, List.set_cons_succ]
        refine wpAnyH_take (i := 1) (v := .pointer (some ⟨w.heap.size, 1, none⟩)) rfl (by kernel_rfl) (by kernel_rfl) (by kernel_rfl) (fun _ _ _ h => h) (Or.inl ⟨by rfl, ?_⟩) hS0 ?_
        · intro w2 hSw; go_simp
        simp only [Act.put, List.setIfInBounds_toArray, List.set_cons_zero, List.set_cons_succ]
        refine wpAnyH_take (i := 2) (v := .slice a1 l1.length c1) rfl (by kernel_rfl) (by kernel_rfl) (by kernel_rfl) (fun _ _ _ h => h) (Or.inl ⟨by rfl, ?_⟩) hS0 ?_
        · intro w2 hSw; go_simp
        simp only [Act.put, List.setIfInBounds_toArray, List.set_cons_zero, List.set_cons_succ]
        refine wpAnyH_take (i := 3) rfl (by kernel_rfl) (by kernel_rfl) (by kernel_rfl) (fun _ _ _ h => h) (yieldsIf_load_mid (by rfl) _ _ rfl _ _ rfl _ _ (fun w' h => h.2.2.2.2.2.2) u95 rfl i95) hS0 ?_
        simp only [Act.put, List.setIfInBounds_toArray, List.set_cons_zero, List.set_cons_succ]
        refine wpAnyH_take (i := 4) (v := .agg #[.int .i64 (s : Int), .int .i64 (t : Int)]) rfl (by kernel_rfl) (by kernel_rfl) (by kernel_rfl) (fun _ _ _ h => h) (Or.inl ⟨by rfl, ?_⟩) hS0 ?_
        · intro w2 hSw; go_simp
        simp only [Act.put, List.setIfInBounds_toArray, List.set_cons_zero, List.set_cons_succ]
        refine wpAnyH_ready (rs := [5]) (by kernel_rfl) (by simp) ?_
        refine AllReadyH.cons rfl (fun K hK' => ?_) AllReadyH.nil
        rw [if_pos (by rfl)]
        go_simp
        refine (of_any [x0, x1, x2, x3, x4, x5, x6, x7, x8, x9, x10, x11, x12, x13, x14, x15] s t _ rfl es et).mono ?_
        rintro e v0 ⟨rfl, h0⟩
        rw [hgs.out, hgt.out]
        have k1 := hK.out v0 (uk_trans hS0 h0)
        refine hK'.out _ _ k1 (fun _ => ?_)
        clear hK' K h0
        refine wpAnyH_ready (rs := [6]) (by kernel_rfl) (by simp) ?_
        refine AllReadyH.cons rfl (fun K hK' => ?_) AllReadyH.nil
        rw [if_pos (by rfl)]
        go_simp
        refine (among_any [x0, x1, x2, x3, x4, x5, x6, x7, x8, x9, x10, x11, x12, x13, x14, x15] _ _ l1 gs gt HC _ n1 t1 (uk_row r1 k1) bgs bgt).mono ?_
        rintro e v1 ⟨rfl, h1⟩
        rw [ham.out]
        have k2 := hK.out v1 (uk_trans k1 h1)
        refine hK'.out _ _ k2 (fun _ => ?_)
        clear hK' K h1
        refine wpAnyH_take (i := 7) (v := .bool false) rfl (by kernel_rfl) (by kernel_rfl) (by kernel_rfl) (fun _ _ _ h => h) (Or.inl ⟨by rfl, ?_⟩) k2 ?_
        · intro w2 hSw; go_simp
        simp only [Act.put, List.setIfInBounds_toArray, List.set_cons_zero, List.set_cons_succ]
        refine wpAnyH_take (i := 8) (v := .bool false) rfl (by kernel_rfl) (by kernel_rfl) (by kernel_rfl) (fun _ _ _ h => h) (Or.inl ⟨by rfl, ?_⟩) k2 ?_
        · intro w2 hSw; go_simp
        simp only [Act.put, List.setIfInBounds_toArray, List.set_cons_zero, List.set_cons_succ]
        refine wpAnyH_take (i := 9) (v := .int .i64 f) rfl (by kernel_rfl) (by kernel_rfl) (by kernel_rfl) (fun _ _ _ h => h) (Or.inl ⟨by simp [Region.wanted, yielded], ?_⟩) k2 ?_
        · intro w2 hSw; go_simp
        simp only [Act.put, List.setIfInBounds_toArray, List.set_cons_zero, List.set_cons_succ]
        refine wpAnyH_take (i := 10) (v := .bool true) rfl (by kernel_rfl) (by kernel_rfl) (by kernel_rfl) (fun _ _ _ h => h) (Or.inl ⟨by simp [Region.wanted, yielded], ?_⟩) k2 ?_
        · intro w2 hSw; go_simp
        simp only [Act.put, List.setIfInBounds_toArray, List.set_cons_zero, List.set_cons_succ]
        refine wpAnyH_take (i := 11) (v := .bool true) rfl (by kernel_rfl) (by kernel_rfl) (by kernel_rfl) (fun _ _ _ h => h) (Or.inl ⟨by rfl, ?_⟩) k2 ?_
        · intro w2 hSw; go_simp
        simp only [Act.put, List.setIfInBounds_toArray, List.set_cons_zero, List.set_cons_succ]
        refine wpAnyH_take (i := 12) (v := .bool true) rfl (by kernel_rfl) (by kernel_rfl) (by kernel_rfl) (fun _ _ _ h => h) (Or.inl ⟨by rfl, ?_⟩) k2 ?_
        · intro w2 hSw; go_simp
        simp only [Act.put, List.setIfInBounds_toArray, List.set_cons_zero, List.set_cons_succ]
        refine wpAnyH_take (i := 13) (v := undef) rfl (by kernel_rfl) (by kernel_rfl) (by kernel_rfl) (fun _ _ _ h => h) (Or.inr ⟨by simp [Region.wanted, yielded], rfl⟩) k2 ?_
        simp only [Act.put, List.setIfInBounds_toArray, List.set_cons_zero, List.set_cons_succ]
        refine wpAnyH_take (i := 14) (v := undef) rfl (by kernel_rfl) (by kernel_rfl) (by kernel_rfl) (fun _ _ _ h => h) (Or.inr ⟨by simp [Region.wanted, yielded], rfl⟩) k2 ?_
        simp only [Act.put, List.setIfInBounds_toArray, List.set_cons_zero, List.set_cons_succ]
        refine wpAnyH_take (i := 15) (v := undef) rfl (by kernel_rfl) (by kernel_rfl) (by kernel_rfl) (fun _ _ _ h => h) (Or.inr ⟨by simp [Region.wanted, yielded], rfl⟩) k2 ?_
        simp only [Act.put, List.setIfInBounds_toArray, List.set_cons_zero, List.set_cons_succ]
        refine wpAnyH_take (i := 16) (v := undef) rfl (by kernel_rfl) (by kernel_rfl) (by kernel_rfl) (fun _ _ _ h => h) (Or.inr ⟨by simp [Region.wanted, yielded], rfl⟩) k2 ?_
        simp only [Act.put, List.setIfInBounds_toArray, List.set_cons_zero, List.set_cons_succ]
        refine wpAnyH_take (i := 17) (v := undef) rfl (by kernel_rfl) (by kernel_rfl) (by kernel_rfl) (fun _ _ _ h => h) (Or.inr ⟨by simp [Region.wanted, yielded], rfl⟩) k2 ?_
        simp only [Act.put, List.setIfInBounds_toArray, List.set_cons_zero, List.set_cons_succ]
        refine wpAnyH_take (i := 18) (v := undef) rfl (by kernel_rfl) (by kernel_rfl) (by kernel_rfl) (fun _ _ _ h => h) (Or.inr ⟨by simp [Region.wanted, yielded], rfl⟩) k2 ?_
        simp only [Act.put, List.setIfInBounds_toArray, List.set_cons_zero, List.set_cons_succ]
        refine wpAnyH_take (i := 19) (v := undef) rfl (by kernel_rfl) (by kernel_rfl) (by kernel_rfl) (fun _ _ _ h => h) (Or.inr ⟨by simp [Region.wanted, yielded], rfl⟩) k2 ?_
        simp only [Act.put, List.setIfInBounds_toArray, List.set_cons_zero, List.set_cons_succ]
        refine wpAnyH_take (i := 20) (v := undef) rfl (by kernel_rfl) (by kernel_rfl) (by kernel_rfl) (fun _ _ _ h => h) (Or.inr ⟨by simp [Region.wanted, yielded], rfl⟩) k2 ?_
        simp only [Act.put, List.setIfInBounds_toArray, List.set_cons_zero, List.set_cons_succ]
        refine wpAnyH_take (i := 21) (v := .bool true) rfl (by kernel_rfl) (by kernel_rfl) (by kernel_rfl) (fun _ _ _ h => h) (Or.inl ⟨by rfl, ?_⟩) k2 ?_
        · intro w2 hSw; go_simp
        simp only [Act.put, List.setIfInBounds_toArray, List.set_cons_zero, List.set_cons_succ]
        refine wpAnyH_done (by kernel_rfl) ?_ _
        go_wp2_with fail
        go_meet
        exact ⟨by simp [hnf], k2.1⟩
      · have hnf : 0 ≤ f := by omega
        have hsum : (6 ≤ (l2.length : Int) + (l3.length : Int)) ↔ ¬ (l2.length + l3.length < 6) := by omega
        have HSUM : Hid (Value.bool (decide (6 ≤ (l2.length : Int) + (l3.length : Int))) = .bool (!(true && decide (0 ≤ f) && decide (l2.length + l3.length < 6)))) := by
          show Value.bool _ = Value.bool _
          rw [decide_eq_true hnf]
          simp only [hsum, Bool.true_and, decide_not]
        clear hsum hnf
        have hw23 : IntKind.i64.wrap ((l2.length : Int) + (l3.length : Int)) = (l2.length : Int) + (l3.length : Int) := by rw [IntKind.wrap_i64]; omega
        refine wp_region_held_drew (S := fun W => Below w6.heap.size w6 W ∧ W.cell? ⟨w.heap.size, 1, none⟩ = some (.slice a1 l1.length c1) ∧ W.cell? ⟨w.heap.size, 2, none⟩ = some (.slice a2 l2.length c2) ∧ W.cell? ⟨w.heap.size, 3, none⟩ = some (.slice (some ⟨b, off, none⟩) l3.length c3) ∧ W.cell? ⟨D, 0, none⟩ = some (.int .i64 s) ∧ W.cell? ⟨D, 1, none⟩ = some (.int .i64 t) ∧ W.rangeAt C 0 (ic [x0, x1, x2, x3, x4, x5, x6, x7, x8, x9, x10, x11, x12, x13, x14, x15])) (by kernel_rfl) hS0 (fun _ => ?_)
        generalize w6.drew = w7 at *
        refine wpAnyH_take (i := 0) rfl (by kernel_rfl) (by kernel_rfl) (by kernel_rfl) (fun _ _ _ h => h) (yieldsIf_load_mid (by rfl) _ _ rfl _ _ rfl _ _ (fun w' h => h.2.2.2.2.2.2) u95 rfl i95) hS0 ?_
        simp only [Act.put, List.setIfInBounds_toArray, List.set_cons_zero, List.set_cons_succ]
        refine wpAnyH_take (i := 1) (v := .pointer (some ⟨w.heap.size, 1, none⟩)) rfl (by kernel_rfl) (by kernel_rfl) (by kernel_rfl) (fun _ _ _ h => h) (Or.inl ⟨by rfl, ?_⟩) hS0 ?_
        · intro w2 hSw; go_simp
        simp only [Act.put, List.setIfInBounds_toArray, List.set_cons_zero, List.set_cons_succ]
        refine wpAnyH_take (i := 2) (v := .slice a1 l1.length c1) rfl (by kernel_rfl) (by kernel_rfl) (by kernel_rfl) (fun _ _ _ h => h) (Or.inl ⟨by rfl, ?_⟩) hS0 ?_
        · intro w2 hSw; go_simp
        simp only [Act.put, List.setIfInBounds_toArray, List.set_cons_zero, List.set_cons_succ]
        refine wpAnyH_take (i := 3) rfl (by kernel_rfl) (by kernel_rfl) (by kernel_rfl) (fun _ _ _ h => h) (yieldsIf_load_mid (by rfl) _ _ rfl _ _ rfl _ _ (fun w' h => h.2.2.2.2.2.2) u95 rfl i95) hS0 ?_
        simp only [Act.put, List.setIfInBounds_toArray, List.set_cons_zero, List.set_cons_succ]
        refine wpAnyH_take (i := 4) (v := .agg #[.int .i64 (s : Int), .int .i64 (t : Int)]) rfl (by kernel_rfl) (by kernel_rfl) (by kernel_rfl) (fun _ _ _ h => h) (Or.inl ⟨by rfl, ?_⟩) hS0 ?_
        · intro w2 hSw; go_simp
        simp only [Act.put, List.setIfInBounds_toArray, List.set_cons_zero, List.set_cons_succ]
        refine wpAnyH_ready (rs := [5]) (by kernel_rfl) (by simp) ?_
        refine AllReadyH.cons rfl (fun K hK' => ?_) AllReadyH.nil
        rw [if_pos (by rfl)]
        go_simp
        refine (of_any [x0, x1, x2, x3, x4, x5, x6, x7, x8, x9, x10, x11, x12, x13, x14, x15] s t _ rfl es et).mono ?_
        rintro e v0 ⟨rfl, h0⟩
        rw [hgs.out, hgt.out]
        have k1 := hK.out v0 (uk_trans hS0 h0)
        refine hK'.out _ _ k1 (fun _ => ?_)
        clear hK' K h0
        refine wpAnyH_ready (rs := [6]) (by kernel_rfl) (by simp) ?_
        refine AllReadyH.cons rfl (fun K hK' => ?_) AllReadyH.nil
        rw [if_pos (by rfl)]
        go_simp
        refine (among_any [x0, x1, x2, x3, x4, x5, x6, x7, x8, x9, x10, x11, x12, x13, x14, x15] _ _ l1 gs gt HC _ n1 t1 (uk_row r1 k1) bgs bgt).mono ?_
        rintro e v1 ⟨rfl, h1⟩
        rw [ham.out]
        have k2 := hK.out v1 (uk_trans k1 h1)
        refine hK'.out _ _ k2 (fun _ => ?_)
        clear hK' K h1
        refine wpAnyH_take (i := 7) (v := .bool false) rfl (by kernel_rfl) (by kernel_rfl) (by kernel_rfl) (fun _ _ _ h => h) (Or.inl ⟨by rfl, ?_⟩) k2 ?_
        · intro w2 hSw; go_simp
        simp only [Act.put, List.setIfInBounds_toArray, List.set_cons_zero, List.set_cons_succ]
        refine wpAnyH_take (i := 8) (v := .bool false) rfl (by kernel_rfl) (by kernel_rfl) (by kernel_rfl) (fun _ _ _ h => h) (Or.inl ⟨by rfl, ?_⟩) k2 ?_
        · intro w2 hSw; go_simp
        simp only [Act.put, List.setIfInBounds_toArray, List.set_cons_zero, List.set_cons_succ]
        refine wpAnyH_take (i := 9) (v := .int .i64 f) rfl (by kernel_rfl) (by kernel_rfl) (by kernel_rfl) (fun _ _ _ h => h) (Or.inl ⟨by simp [Region.wanted, yielded], ?_⟩) k2 ?_
        · intro w2 hSw; go_simp
        simp only [Act.put, List.setIfInBounds_toArray, List.set_cons_zero, List.set_cons_succ]
        refine wpAnyH_take (i := 10) (v := .bool false) rfl (by kernel_rfl) (by kernel_rfl) (by kernel_rfl) (fun _ _ _ h => h) (Or.inl ⟨by simp [Region.wanted, yielded], ?_⟩) k2 ?_
        · intro w2 hSw; go_simp
        simp only [Act.put, List.setIfInBounds_toArray, List.set_cons_zero, List.set_cons_succ]
        refine wpAnyH_take (i := 11) (v := .bool false) rfl (by kernel_rfl) (by kernel_rfl) (by kernel_rfl) (fun _ _ _ h => h) (Or.inl ⟨by rfl, ?_⟩) k2 ?_
        · intro w2 hSw; go_simp
        simp only [Act.put, List.setIfInBounds_toArray, List.set_cons_zero, List.set_cons_succ]
        refine wpAnyH_take (i := 12) (v := .bool false) rfl (by kernel_rfl) (by kernel_rfl) (by kernel_rfl) (fun _ _ _ h => h) (Or.inl ⟨by rfl, ?_⟩) k2 ?_
        · intro w2 hSw; go_simp
        simp only [Act.put, List.setIfInBounds_toArray, List.set_cons_zero, List.set_cons_succ]
        refine wpAnyH_take (i := 13) (v := .pointer (some ⟨w.heap.size, 2, none⟩)) rfl (by kernel_rfl) (by kernel_rfl) (by kernel_rfl) (fun _ _ _ h => h) (Or.inl ⟨by simp [Region.wanted, yielded], ?_⟩) k2 ?_
        · intro w2 hSw; go_simp
        simp only [Act.put, List.setIfInBounds_toArray, List.set_cons_zero, List.set_cons_succ]
        refine wpAnyH_take (i := 14) (v := .slice a2 l2.length c2) rfl (by kernel_rfl) (by kernel_rfl) (by kernel_rfl) (fun _ _ _ h => h) (Or.inl ⟨by simp [Region.wanted, yielded], ?_⟩) k2 ?_
        · intro w2 hSw; go_simp
        simp only [Act.put, List.setIfInBounds_toArray, List.set_cons_zero, List.set_cons_succ]
        refine wpAnyH_take (i := 15) (v := .int .i64 (l2.length : Int)) rfl (by kernel_rfl) (by kernel_rfl) (by kernel_rfl) (fun _ _ _ h => h) (Or.inl ⟨by simp [Region.wanted, yielded], ?_⟩) k2 ?_
        · intro w2 hSw; go_simp
        simp only [Act.put, List.setIfInBounds_toArray, List.set_cons_zero, List.set_cons_succ]
        refine wpAnyH_take (i := 16) (v := .pointer (some ⟨w.heap.size, 3, none⟩)) rfl (by kernel_rfl) (by kernel_rfl) (by kernel_rfl) (fun _ _ _ h => h) (Or.inl ⟨by simp [Region.wanted, yielded], ?_⟩) k2 ?_
        · intro w2 hSw; go_simp
        simp only [Act.put, List.setIfInBounds_toArray, List.set_cons_zero, List.set_cons_succ]
        refine wpAnyH_take (i := 17) (v := .slice (some ⟨b, off, none⟩) l3.length c3) rfl (by kernel_rfl) (by kernel_rfl) (by kernel_rfl) (fun _ _ _ h => h) (Or.inl ⟨by simp [Region.wanted, yielded], ?_⟩) k2 ?_
        · intro w2 hSw; go_simp
        simp only [Act.put, List.setIfInBounds_toArray, List.set_cons_zero, List.set_cons_succ]
        refine wpAnyH_take (i := 18) (v := .int .i64 (l3.length : Int)) rfl (by kernel_rfl) (by kernel_rfl) (by kernel_rfl) (fun _ _ _ h => h) (Or.inl ⟨by simp [Region.wanted, yielded], ?_⟩) k2 ?_
        · intro w2 hSw; go_simp
        simp only [Act.put, List.setIfInBounds_toArray, List.set_cons_zero, List.set_cons_succ]
        refine wpAnyH_take (i := 19) (v := .int .i64 ((l2.length : Int) + (l3.length : Int))) rfl (by kernel_rfl) (by kernel_rfl) (by kernel_rfl) (fun _ _ _ h => h) (Or.inl ⟨by simp [Region.wanted, yielded], ?_⟩) k2 ?_
        · intro w2 hSw; go_simp
        simp only [Act.put, List.setIfInBounds_toArray, List.set_cons_zero, List.set_cons_succ]
        refine wpAnyH_take (i := 20) (v := .bool (decide (6 ≤ (l2.length : Int) + (l3.length : Int)))) rfl (by kernel_rfl) (by kernel_rfl) (by kernel_rfl) (fun _ _ _ h => h) (Or.inl ⟨by simp [Region.wanted, yielded], ?_⟩) k2 ?_
        · intro w2 hSw; go_simp
        simp only [Act.put, List.setIfInBounds_toArray, List.set_cons_zero, List.set_cons_succ]
        refine wpAnyH_take (i := 21) (v := .bool (decide (6 ≤ (l2.length : Int) + (l3.length : Int)))) rfl (by kernel_rfl) (by kernel_rfl) (by kernel_rfl) (fun _ _ _ h => h) (Or.inl ⟨by rfl, ?_⟩) k2 ?_
        · intro w2 hSw; go_simp
        simp only [Act.put, List.setIfInBounds_toArray, List.set_cons_zero, List.set_cons_succ]
        refine wpAnyH_done (by kernel_rfl) ?_ _
        go_wp2_with fail
        go_meet
        exact ⟨HSUM.out, k2.1⟩
  case rest =>
    obtain ⟨rfl, hb⟩ := hcut
    rename World => w8
    clear hK hS0 hS1 u95 i95 zz C0
    have z68 := hb.size
    replace R0 := R0.below hb R0.lt; replace L0 := L0.trans (hb.mono L0.size); replace X0 := X0.below hb X0.lt; replace T := T.below hb (by omega); replace P0 := P0.below hb P0.lt
    clear hb A0 r0 r1 r2 r3
    by_cases hall : (am && decide (0 ≤ f) && decide (l2.length + l3.length < 6)) = true
    rotate_left
    · replace hall : (am && decide (0 ≤ f) && decide (l2.length + l3.length < 6)) = false := by simpa using hall
      rw [hall]
      have HE : Hid ((unfB l0 l1 l2 l3 (k : Int)) = false) := by show (unfB l0 l1 l2 l3 (k : Int)) = false; unfold unfB; rw [Int.toNat_natCast, HOPV.out, hff.out, Bool.and_assoc, Bool.and_assoc, Bool.and_assoc, ← Bool.and_assoc am, hall]; simp
      obtain ⟨F, FO⟩ := R0.fill (.slice none 0 0) (.slice none 0 0) (.slice none 0 0) (.slice none 0 0)
      have j0' := R0.c0; have j1' := R0.c1; have j2' := R0.c2; have j3' := R0.c3
      have g0 := R0.f0; have g1 := R0.f1; have g2 := R0.f2; have g3 := R0.f3
      go_wp2
      have i0 := F.c0; have i1 := F.c1; have i2 := F.c2; have i3 := F.c3
      refine bodyPost_ret (v := .tuple #[.agg #[.slice none 0 0, .slice none 0 0, .slice none 0 0, .slice none 0 0], .bool false]) ?_ rfl ⟨none, none, none, none, 0, 0, 0, 0, by rw [HE.out]; rfl, ?_, ?_⟩
      · simp [results, Try.results90, go_sem, i0, i1, i2, i3]
      · rw [HE.out]; exact (Four.none _ w.heap.size).mono (Nat.le_refl _) (by have := FO.size; have := L0.size; omega)
      · exact L0.trans (FO.below (by omega) L0.size)

    rw [hall]
    obtain ⟨⟨ham1, hf0⟩, hlt6⟩ : (am = true ∧ 0 ≤ f) ∧ l2.length + l3.length < 6 := by simpa using hall
    have HE : Hid (unfB l0 l1 l2 l3 (k : Int) = true) := by
      show unfB l0 l1 l2 l3 (k : Int) = true
      unfold unfB
      rw [Int.toNat_natCast, HT.out, HOPV.out, hff.out, ham1, decide_eq_true hf0, decide_eq_true hlt6, decide_eq_true (by omega)]
      rfl
    clear hall ham1 hlt6
    obtain ⟨s0, u0, s1, u1, s2, u2, s3, u3, ⟨f0a, f0b, F0⟩, ⟨f1a, f1b, F1⟩, ⟨f2a, f2b, F2⟩, ⟨f3a, f3b, F3⟩, d01, d02, d03, d12, d13, d23⟩ := T
    have e3 : ((l3.take k ++ l3.drop (k + 1))).length = (k + (l3.length - (k + 1))) := by simp; omega
    -- Cells
    have x2 := X0.c2
    have y0' := P0.c0
    have zX8 := X0.lt
    have zD8 := P0.lt
    go_wp2_with fail
    have al : Below w8.heap.size w8 (w8.alloc (.cells #[.int .i64 (s : Int), .int .i64 f] 69)) := (Below.refl _ _).alloc (Nat.le_refl _) _
    have K8 := own_pair w8 (s : Int) f
    refine (behind_any p2 (some ⟨w8.heap.size, 0, none⟩) l2.length 1 q2 1 l2 [((s : Int), f)] _ rfl rfl (by omega) (F2.row.below al (Nat.le_refl _)) K8.row y2.1 (fun e => by cases e)).mono ?_
    rintro e w9 ⟨pC, qC, rfl, G2, _, hb⟩
    have bb : Below w8.heap.size w8 w9 := al.trans (hb.mono al.size)
    have z89 := al.size
    replace G2 := G2.mono z89 (Nat.le_refl _)
    have z9 := bb.size
    replace R0 := R0.below bb R0.lt; replace L0 := L0.trans (bb.mono L0.size); replace X0 := X0.below bb X0.lt; replace P0 := P0.below bb P0.lt
    replace F0 := F0.below bb (by omega); replace F1 := F1.below bb (by omega); replace F3 := F3.below bb (by omega)
    clear bb hb al K8 x2 y0' F2
    have x2 := X0.c2; have xf := X0.f2
    go_upto_region 10 with fail
    have ho := Out.set X 2 w9 (.slice pC (l2.length + 1) qC)
    replace X0 := X0.set2 (.slice pC (l2.length + 1) qC)
    replace R0 := R0.out ho (.inl (by omega)); replace L0 := L0.trans (ho.below (by omega) L0.size); replace P0 := P0.out ho (.inr (by omega))
    replace F0 := F0.out ho (.inl (by omega)); replace F1 := F1.out ho (.inl (by omega)); replace F3 := F3.out ho (.inl (by omega)); replace G2 := G2.out ho (.inr (by omega))
    have hsz : w9.heap.size ≤ (w9.setCell ⟨X, 2, none⟩ (.slice pC (l2.length + 1) qC)).heap.size := ho.size
    clear ho x2 xf
    generalize w9.setCell ⟨X, 2, none⟩ (.slice pC (l2.length + 1) qC) = wA at *
    -- Segs
    have x3 := X0.c3
    have y1' := P0.c1
    have zXA := X0.lt
    have zDA := P0.lt
    go_wp2_with fail
    have al : Below wA.heap.size wA (wA.alloc (.cells #[.int .i64 f, .int .i64 (t : Int)] 69)) := (Below.refl _ _).alloc (Nat.le_refl _) _
    have K8 := own_pair wA f (t : Int)
    refine (behind_any p3 (some ⟨wA.heap.size, 0, none⟩) (k + (l3.length - (k + 1))) 1 q3 1 (l3.take k ++ l3.drop (k + 1)) [(f, (t : Int))] _ e3 rfl (by omega) (F3.row.below al (Nat.le_refl _)) K8.row y3.1 (fun e => by cases e)).mono ?_
    rintro e wB ⟨pS, qS, rfl, G3, _, hb⟩
    have bb : Below wA.heap.size wA wB := al.trans (hb.mono al.size)
    have zAB := al.size
    replace G3 := G3.mono zAB (Nat.le_refl _)
    have zB := bb.size
    replace R0 := R0.below bb R0.lt; replace L0 := L0.trans (bb.mono L0.size); replace X0 := X0.below bb X0.lt
    replace F0 := F0.below bb (by omega); replace F1 := F1.below bb (by omega); replace G2 := G2.below bb (by omega)
    clear bb hb al K8 x3 y1' F3 P0
    have x3 := X0.c3; have xf := X0.f3
    go_upto_region 11 with fail
    have ho := Out.set X 3 wB (.slice pS ((k + (l3.length - (k + 1))) + 1) qS)
    replace X0 := X0.set3 (.slice pS ((k + (l3.length - (k + 1))) + 1) qS)
    replace R0 := R0.out ho (.inl (by omega)); replace L0 := L0.trans (ho.below (by omega) L0.size)
    replace F0 := F0.out ho (.inl (by omega)); replace F1 := F1.out ho (.inl (by omega)); replace G2 := G2.out ho (.inr (by omega)); replace G3 := G3.out ho (.inr (by omega))
    have hsz2 : wB.heap.size ≤ (wB.setCell ⟨X, 3, none⟩ (.slice pS ((k + (l3.length - (k + 1))) + 1) qS)).heap.size := ho.size
    clear ho x3 xf
    generalize wB.setCell ⟨X, 3, none⟩ (.slice pS ((k + (l3.length - (k + 1))) + 1) qS) = wC at *
    obtain ⟨F, FO⟩ := R0.fill (.slice p0 l0.length q0) (.slice p1 l1.length q1) (.slice pC (l2.length + 1) qC) (.slice pS ((k + (l3.length - (k + 1))) + 1) qS)
    have x0 := X0.c0; have x1 := X0.c1; have x2 := X0.c2; have x3 := X0.c3
    have j0' := R0.c0; have j1' := R0.c1; have j2' := R0.c2; have j3' := R0.c3
    have g0 := R0.f0; have g1 := R0.f1; have g2 := R0.f2; have g3 := R0.f3
    go_wp2
    have i0 := F.c0; have i1 := F.c1; have i2 := F.c2; have i3 := F.c3
    have EL2 : (unfC l2 (l3.getD k (0, 0)) f).length = l2.length + 1 := by simp [unfC]
    have EL3 : (unfS l3 k (l3.getD k (0, 0)) f).length = (k + (l3.length - (k + 1))) + 1 := by simp [unfS]; omega
    refine bodyPost_ret (v := .tuple #[.agg #[.slice p0 l0.length q0, .slice p1 l1.length q1, .slice pC (l2.length + 1) qC, .slice pS ((k + (l3.length - (k + 1))) + 1) qS], .bool true]) ?_ rfl ⟨p0, p1, pC, pS, q0, q1, qC, qS, by rw [HE.out, Int.toNat_natCast, hff.out]; simp only [okL, if_true, EL2, EL3], ?_, ?_⟩
    · simp [results, Try.results90, go_sem, i0, i1, i2, i3]
    · rw [HE.out, Int.toNat_natCast, hff.out]
      simp only [okL, if_true, EL2, EL3]
      rw [HSG.out]
      have hfs := FO.size
      refine ⟨s0, u0, s1, u1, w8.heap.size, w9.heap.size, wA.heap.size, wB.heap.size, ⟨by omega, by omega, F0.out FO (.inr (by omega))⟩, ⟨by omega, by omega, F1.out FO (.inr (by omega))⟩, ⟨by omega, by omega, G2.out FO (.inr (by omega))⟩, ⟨by omega, by omega, G3.out FO (.inr (by omega))⟩, d01, .inl (by omega), .inl (by omega), .inl (by omega), .inl (by omega), .inl (by omega)⟩
    · exact L0.trans (FO.below (by omega) L0.size)

end Go.Proofs.Ytphchdjbhbmnbaa
namespace Go.Proofs.Ytphchdjbhbmnbaa
open Go.RowKit
set_option linter.unusedVariables false

set_option maxRecDepth 20000 in
set_option maxHeartbeats 4000000 in
theorem withNothing_cap (a0 a1 a2 a3 : Option Addr) (c0 c1 c2 c3 : Nat) (l0 l1 l2 l3 : List (Int × Int)) (x y : Int) (w : World) (n0 : l0.length ≤ 1048576) (r0 : PRow w a0 l0) (z0 : a0 = none → c0 = 0) :
    Calls Try.prog 174 #[.agg #[.slice a0 l0.length c0, .slice a1 l1.length c1, .slice a2 l2.length c2, .slice a3 l3.length c3], .agg #[.int .i64 x, .int .i64 y]] w fun e w' => ∃ p0 q0, e = .returned (.agg #[.slice p0 (l0.length + 1) q0, .slice a1 l1.length c1, .slice a2 l2.length c2, .slice a3 l3.length c3]) ∧ RowIn w' w.heap.size w'.heap.size p0 (l0.length + 1) (l0 ++ [(x, y)]) ∧ CapZ p0 (l0.length + 1) q0 ∧ Below w.heap.size w w' := by
  have A0 := ((Box.new w (.slice a0 l0.length c0) (.slice a1 l1.length c1) (.slice a2 l2.length c2) (.slice a3 l3.length c3) 28).alloc (.cells #[.int .i64 x, .int .i64 y] 69)).alloc (.cells #[.slice none 0 0, .slice none 0 0, .slice none 0 0, .slice none 0 0] 28)
  have P0 := (PBox.new (w.alloc (.cells #[.slice a0 l0.length c0, .slice a1 l1.length c1, .slice a2 l2.length c2, .slice a3 l3.length c3] 28)) x y 69).below ((Below.refl _ _).alloc (Nat.le_refl _) (.cells #[.slice none 0 0, .slice none 0 0, .slice none 0 0, .slice none 0 0] 28)) (by simp)
  have R0 := Box.new ((w.alloc (.cells #[.slice a0 l0.length c0, .slice a1 l1.length c1, .slice a2 l2.length c2, .slice a3 l3.length c3] 28)).alloc (.cells #[.int .i64 x, .int .i64 y] 69)) (.slice none 0 0) (.slice none 0 0) (.slice none 0 0) (.slice none 0 0) 28
  have L0 : Below w.heap.size w (((w.alloc (.cells #[.slice a0 l0.length c0, .slice a1 l1.length c1, .slice a2 l2.length c2, .slice a3 l3.length c3] 28)).alloc (.cells #[.int .i64 x, .int .i64 y] 69)).alloc (.cells #[.slice none 0 0, .slice none 0 0, .slice none 0 0, .slice none 0 0] 28)) := (((Below.refl _ _).alloc (Nat.le_refl _) _).alloc (by simp) _).alloc (by simp; omega) _
  rw [World.size_alloc] at P0
  rw [World.size_alloc, World.size_alloc] at R0
  have A0c0 := A0.c0
  have d0 := P0.c0; have d1 := P0.c1
  go_enter Try.func174, Try.ntmps174
  go_upto_region 1 with fail
  clear A0c0 d0 d1
  generalize (((w.alloc (.cells #[.slice a0 l0.length c0, .slice a1 l1.length c1, .slice a2 l2.length c2, .slice a3 l3.length c3] 28)).alloc (.cells #[.int .i64 x, .int .i64 y] 69)).alloc (.cells #[.slice none 0 0, .slice none 0 0, .slice none 0 0, .slice none 0 0] 28)) = wB0 at *
  have zB0 := L0.size
  have A0c0 := A0.c0
  have d0 := P0.c0; have d1 := P0.c1
  have zR0 := R0.lt
  go_wp2_with fail
  clear A0c0 d0 d1
  have K8 := own_pair wB0 x y
  have al : Below wB0.heap.size wB0 (wB0.alloc (.cells #[.int .i64 x, .int .i64 y] 69)) := (Below.refl _ _).alloc (Nat.le_refl _) _
  refine (behind_cap a0 (some ⟨wB0.heap.size, 0, none⟩) l0.length 1 c0 1 l0 [(x, y)] _ rfl rfl (by omega) ((r0.below L0 (Nat.le_refl _)).below al (Nat.le_refl _)) K8.row z0 (fun e => by cases e)).mono ?_
  rintro e wB1 ⟨p0, q0, rfl, h0, y0, hb⟩
  have za0 := al.size
  replace A0 := A0.below al A0.lt; replace P0 := P0.below al P0.lt; replace R0 := R0.below al R0.lt; replace L0 := L0.trans (al.mono L0.size)
  replace A0 := A0.below hb A0.lt; replace P0 := P0.below hb P0.lt; replace R0 := R0.below hb R0.lt; replace L0 := L0.trans (hb.mono L0.size)
  replace h0 := h0.mono (show w.heap.size + 3 ≤ (wB0.alloc (.cells #[.int .i64 x, .int .i64 y] 69)).heap.size by simp; omega) (Nat.le_refl _)
  have zb0 := hb.size
  clear hb al K8
  have A0c0 := A0.c0; have f0 := A0.f0
  go_upto_region 2 with fail
  have ho := Out.set w.heap.size 0 wB1 (.slice p0 (l0.length + 1) q0)
  have hos := ho.size
  replace A0 := A0.set0 (.slice p0 (l0.length + 1) q0)
  clear f0 A0c0
  replace P0 := P0.out ho (by omega); replace R0 := R0.out ho (by omega); replace L0 := L0.trans (ho.below (by omega) L0.size); replace h0 := h0.out ho (by omega)
  clear ho
  generalize wB1.setCell ⟨w.heap.size, 0, none⟩ (.slice p0 (l0.length + 1) q0) = wB2 at *
  have zz0 : w.heap.size + 3 ≤ wB2.heap.size := by omega
  have A0c0 := A0.c0; have A0c1 := A0.c1; have A0c2 := A0.c2; have A0c3 := A0.c3
  obtain ⟨F, FO⟩ := R0.fill (.slice p0 (l0.length + 1) q0) (.slice a1 l1.length c1) (.slice a2 l2.length c2) (.slice a3 l3.length c3)
  have j0' := R0.c0; have j1' := R0.c1; have j2' := R0.c2; have j3' := R0.c3
  have g0 := R0.f0; have g1 := R0.f1; have g2 := R0.f2; have g3 := R0.f3
  have sR := R0.lt
  have fs := FO.size
  go_wp2
  have i0 := F.c0; have i1 := F.c1; have i2 := F.c2; have i3 := F.c3
  refine bodyPost_ret (v := .agg #[.slice p0 (l0.length + 1) q0, .slice a1 l1.length c1, .slice a2 l2.length c2, .slice a3 l3.length c3]) ?_ rfl ⟨p0, q0, rfl, ?_, y0, ?_⟩
  · simp [results, Try.results174, go_sem, i0, i1, i2, i3]
  · exact (h0.out FO (.inr (by omega))).mono (by omega) (by omega)
  · exact L0.trans (FO.below (by omega) L0.size)

set_option maxRecDepth 20000 in
set_option maxHeartbeats 4000000 in
theorem withSomething_cap (a0 a1 a2 a3 : Option Addr) (c0 c1 c2 c3 : Nat) (l0 l1 l2 l3 : List (Int × Int)) (x y : Int) (w : World) (n1 : l1.length ≤ 1048576) (r1 : PRow w a1 l1) (z1 : a1 = none → c1 = 0) (n3 : l3.length ≤ 1048576) (r3 : PRow w a3 l3) (z3 : a3 = none → c3 = 0) :
    Calls Try.prog 175 #[.agg #[.slice a0 l0.length c0, .slice a1 l1.length c1, .slice a2 l2.length c2, .slice a3 l3.length c3], .agg #[.int .i64 x, .int .i64 y]] w fun e w' => ∃ p1 q1 p3 q3, e = .returned (.agg #[.slice a0 l0.length c0, .slice p1 (l1.length + 1) q1, .slice a2 l2.length c2, .slice p3 (l3.length + 1) q3]) ∧ RowIn w' w.heap.size w'.heap.size p1 (l1.length + 1) (l1 ++ [(x, y)]) ∧ RowIn w' w.heap.size w'.heap.size p3 (l3.length + 1) (l3 ++ [(x, y)]) ∧ CapZ p1 (l1.length + 1) q1 ∧ CapZ p3 (l3.length + 1) q3 ∧ Below w.heap.size w w' := by
  have A0 := ((Box.new w (.slice a0 l0.length c0) (.slice a1 l1.length c1) (.slice a2 l2.length c2) (.slice a3 l3.length c3) 28).alloc (.cells #[.int .i64 x, .int .i64 y] 69)).alloc (.cells #[.slice none 0 0, .slice none 0 0, .slice none 0 0, .slice none 0 0] 28)
  have P0 := (PBox.new (w.alloc (.cells #[.slice a0 l0.length c0, .slice a1 l1.length c1, .slice a2 l2.length c2, .slice a3 l3.length c3] 28)) x y 69).below ((Below.refl _ _).alloc (Nat.le_refl _) (.cells #[.slice none 0 0, .slice none 0 0, .slice none 0 0, .slice none 0 0] 28)) (by simp)
  have R0 := Box.new ((w.alloc (.cells #[.slice a0 l0.length c0, .slice a1 l1.length c1, .slice a2 l2.length c2, .slice a3 l3.length c3] 28)).alloc (.cells #[.int .i64 x, .int .i64 y] 69)) (.slice none 0 0) (.slice none 0 0) (.slice none 0 0) (.slice none 0 0) 28
  have L0 : Below w.heap.size w (((w.alloc (.cells #[.slice a0 l0.length c0, .slice a1 l1.length c1, .slice a2 l2.length c2, .slice a3 l3.length c3] 28)).alloc (.cells #[.int .i64 x, .int .i64 y] 69)).alloc (.cells #[.slice none 0 0, .slice none 0 0, .slice none 0 0, .slice none 0 0] 28)) := (((Below.refl _ _).alloc (Nat.le_refl _) _).alloc (by simp) _).alloc (by simp; omega) _
  rw [World.size_alloc] at P0
  rw [World.size_alloc, World.size_alloc] at R0
  have A0c1 := A0.c1
  have d0 := P0.c0; have d1 := P0.c1
  go_enter Try.func175, Try.ntmps175
  go_upto_region 1 with fail
  clear A0c1 d0 d1
  generalize (((w.alloc (.cells #[.slice a0 l0.length c0, .slice a1 l1.length c1, .slice a2 l2.length c2, .slice a3 l3.length c3] 28)).alloc (.cells #[.int .i64 x, .int .i64 y] 69)).alloc (.cells #[.slice none 0 0, .slice none 0 0, .slice none 0 0, .slice none 0 0] 28)) = wB0 at *
  have zB0 := L0.size
  have A0c1 := A0.c1
  have d0 := P0.c0; have d1 := P0.c1
  have zR0 := R0.lt
  go_wp2_with fail
  clear A0c1 d0 d1
  have K8 := own_pair wB0 x y
  have al : Below wB0.heap.size wB0 (wB0.alloc (.cells #[.int .i64 x, .int .i64 y] 69)) := (Below.refl _ _).alloc (Nat.le_refl _) _
  refine (behind_cap a1 (some ⟨wB0.heap.size, 0, none⟩) l1.length 1 c1 1 l1 [(x, y)] _ rfl rfl (by omega) ((r1.below L0 (Nat.le_refl _)).below al (Nat.le_refl _)) K8.row z1 (fun e => by cases e)).mono ?_
  rintro e wB1 ⟨p1, q1, rfl, h1, y1, hb⟩
  have za0 := al.size
  replace A0 := A0.below al A0.lt; replace P0 := P0.below al P0.lt; replace R0 := R0.below al R0.lt; replace L0 := L0.trans (al.mono L0.size)
  replace A0 := A0.below hb A0.lt; replace P0 := P0.below hb P0.lt; replace R0 := R0.below hb R0.lt; replace L0 := L0.trans (hb.mono L0.size)
  replace h1 := h1.mono (show w.heap.size + 3 ≤ (wB0.alloc (.cells #[.int .i64 x, .int .i64 y] 69)).heap.size by simp; omega) (Nat.le_refl _)
  have zb0 := hb.size
  clear hb al K8
  have A0c1 := A0.c1; have f1 := A0.f1
  go_upto_region 2 with fail
  have ho := Out.set w.heap.size 1 wB1 (.slice p1 (l1.length + 1) q1)
  have hos := ho.size
  replace A0 := A0.set1 (.slice p1 (l1.length + 1) q1)
  clear f1 A0c1
  replace P0 := P0.out ho (by omega); replace R0 := R0.out ho (by omega); replace L0 := L0.trans (ho.below (by omega) L0.size); replace h1 := h1.out ho (by omega)
  clear ho
  generalize wB1.setCell ⟨w.heap.size, 1, none⟩ (.slice p1 (l1.length + 1) q1) = wB2 at *
  have zz0 : w.heap.size + 3 ≤ wB2.heap.size := by omega
  have A0c3 := A0.c3
  have d0 := P0.c0; have d1 := P0.c1
  have zR1 := R0.lt
  go_wp2_with fail
  clear A0c3 d0 d1
  have K8 := own_pair wB2 x y
  have al : Below wB2.heap.size wB2 (wB2.alloc (.cells #[.int .i64 x, .int .i64 y] 69)) := (Below.refl _ _).alloc (Nat.le_refl _) _
  refine (behind_cap a3 (some ⟨wB2.heap.size, 0, none⟩) l3.length 1 c3 1 l3 [(x, y)] _ rfl rfl (by omega) ((r3.below L0 (Nat.le_refl _)).below al (Nat.le_refl _)) K8.row z3 (fun e => by cases e)).mono ?_
  rintro e wB3 ⟨p3, q3, rfl, h3, y3, hb⟩
  have za1 := al.size
  replace P0 := P0.below al P0.lt; replace R0 := R0.below al R0.lt; replace L0 := L0.trans (al.mono L0.size); replace h1 := h1.below al (by omega)
  replace A0 := A0.below al A0.lt
  replace P0 := P0.below hb P0.lt; replace R0 := R0.below hb R0.lt; replace L0 := L0.trans (hb.mono L0.size); replace h1 := h1.below hb (by omega)
  replace A0 := A0.below hb A0.lt
  replace h3 := h3.mono (show w.heap.size + 3 ≤ (wB2.alloc (.cells #[.int .i64 x, .int .i64 y] 69)).heap.size by omega) (Nat.le_refl _)
  have zb1 := hb.size
  clear hb al K8
  have A0c3 := A0.c3; have f3 := A0.f3
  go_upto_region 3 with fail
  have ho := Out.set w.heap.size 3 wB3 (.slice p3 (l3.length + 1) q3)
  have hos := ho.size
  replace A0 := A0.set3 (.slice p3 (l3.length + 1) q3)
  clear f3 A0c3
  replace P0 := P0.out ho (by omega); replace R0 := R0.out ho (by omega); replace L0 := L0.trans (ho.below (by omega) L0.size); replace h1 := h1.out ho (by omega)
  replace h3 := h3.out ho (by omega)
  clear ho
  generalize wB3.setCell ⟨w.heap.size, 3, none⟩ (.slice p3 (l3.length + 1) q3) = wB4 at *
  have zz1 : w.heap.size + 3 ≤ wB4.heap.size := by omega
  have A0c0 := A0.c0; have A0c1 := A0.c1; have A0c2 := A0.c2; have A0c3 := A0.c3
  obtain ⟨F, FO⟩ := R0.fill (.slice a0 l0.length c0) (.slice p1 (l1.length + 1) q1) (.slice a2 l2.length c2) (.slice p3 (l3.length + 1) q3)
  have j0' := R0.c0; have j1' := R0.c1; have j2' := R0.c2; have j3' := R0.c3
  have g0 := R0.f0; have g1 := R0.f1; have g2 := R0.f2; have g3 := R0.f3
  have sR := R0.lt
  have fs := FO.size
  go_wp2
  have i0 := F.c0; have i1 := F.c1; have i2 := F.c2; have i3 := F.c3
  refine bodyPost_ret (v := .agg #[.slice a0 l0.length c0, .slice p1 (l1.length + 1) q1, .slice a2 l2.length c2, .slice p3 (l3.length + 1) q3]) ?_ rfl ⟨p1, q1, p3, q3, rfl, ?_, ?_, y1, y3, ?_⟩
  · simp [results, Try.results175, go_sem, i0, i1, i2, i3]
  · exact (h1.out FO (.inr (by omega))).mono (by omega) (by omega)
  · exact (h3.out FO (.inr (by omega))).mono (by omega) (by omega)
  · exact L0.trans (FO.below (by omega) L0.size)

end Go.Proofs.Ytphchdjbhbmnbaa
namespace Go.Proofs.Ytphchdjbhbmnbaa
open Go.RowKit
set_option linter.unusedVariables false

set_option maxRecDepth 20000 in
set_option maxHeartbeats 4000000 in
theorem ownCopy_any (a0 a1 a2 a3 : Option Addr) (c0 c1 c2 c3 : Nat) (l0 l1 l2 l3 : List (Int × Int)) (w : World) (n0 : l0.length ≤ 1048576) (n1 : l1.length ≤ 1048576) (n2 : l2.length ≤ 1048576) (n3 : l3.length ≤ 1048576) (r0 : PRow w a0 l0) (r1 : PRow w a1 l1) (r2 : PRow w a2 l2) (r3 : PRow w a3 l3) (z0 : CapZ a0 l0.length c0) (z1 : CapZ a1 l1.length c1) (z2 : CapZ a2 l2.length c2) (z3 : CapZ a3 l3.length c3) :
    Calls Try.prog 176 #[.agg #[.slice a0 l0.length c0, .slice a1 l1.length c1, .slice a2 l2.length c2, .slice a3 l3.length c3]] w fun e w' => ∃ p0 p1 p2 p3 q0 q1 q2 q3, e = .returned (.agg #[.slice p0 l0.length q0, .slice p1 l1.length q1, .slice p2 l2.length q2, .slice p3 l3.length q3]) ∧ Four w' w.heap.size w'.heap.size p0 p1 p2 p3 l0.length l1.length l2.length l3.length l0 l1 l2 l3 ∧ (CapZ p0 l0.length q0 ∧ CapZ p1 l1.length q1 ∧ CapZ p2 l2.length q2 ∧ CapZ p3 l3.length q3) ∧ Below w.heap.size w w' := by
  have A0 := (Box.new w (.slice a0 l0.length c0) (.slice a1 l1.length c1) (.slice a2 l2.length c2) (.slice a3 l3.length c3) 28).alloc (.cells #[.slice none 0 0, .slice none 0 0, .slice none 0 0, .slice none 0 0] 28)
  have R0 := Box.new (w.alloc (.cells #[.slice a0 l0.length c0, .slice a1 l1.length c1, .slice a2 l2.length c2, .slice a3 l3.length c3] 28)) (.slice none 0 0) (.slice none 0 0) (.slice none 0 0) (.slice none 0 0) 28
  have L0 : Below w.heap.size w ((w.alloc (.cells #[.slice a0 l0.length c0, .slice a1 l1.length c1, .slice a2 l2.length c2, .slice a3 l3.length c3] 28)).alloc (.cells #[.slice none 0 0, .slice none 0 0, .slice none 0 0, .slice none 0 0] 28)) := ((Below.refl _ _).alloc (Nat.le_refl _) _).alloc (by simp) _
  rw [World.size_alloc] at R0
  have HK : Hid (∀ k : Int, PRow w (kindO a0 a1 a2 a3 k) (kindL l0 l1 l2 l3 k) ∧ (kindL l0 l1 l2 l3 k).length ≤ 1048576 ∧ CapZ (kindO a0 a1 a2 a3 k) (kindL l0 l1 l2 l3 k).length (kindB c0 c1 c2 c3 k)) := kind_prow r0 r1 r2 r3 n0 n1 n2 n3 z0 z1 z2 z3
  clear r0 r1 r2 r3 z0 z1 z2 z3
  go_enter Try.func176, Try.ntmps176
  have A0c0 := A0.c0; have A0c1 := A0.c1; have A0c2 := A0.c2; have A0c3 := A0.c3
  go_wp2_with fail
  clear A0c0 A0c1 A0c2 A0c3
  refine (listsOf_any _ _ _ _ _ ⟨_, _, _, rfl⟩ ⟨_, _, _, rfl⟩ ⟨_, _, _, rfl⟩ ⟨_, _, _, rfl⟩).mono ?_
  rintro e wx ⟨rfl, hb⟩
  have zR0 := R0.lt
  replace R0 := R0.below hb R0.lt; replace L0 := L0.trans (hb.mono L0.size)
  have zx := hb.size
  clear hb A0
  have V1 := VRow.new wx (.slice a0 l0.length c0) (.slice a1 l1.length c1) (.slice a2 l2.length c2) (.slice a3 l3.length c3) 88 (fun j => .slice (kindO a0 a1 a2 a3 j) (kindL l0 l1 l2 l3 j).length (kindB c0 c1 c2 c3 j)) rfl rfl rfl rfl
  have al : Below wx.heap.size wx (wx.alloc (.cells #[.slice a0 l0.length c0, .slice a1 l1.length c1, .slice a2 l2.length c2, .slice a3 l3.length c3] 88)) := (Below.refl _ _).alloc (Nat.le_refl _) _
  have zO : wx.heap.size < (wx.alloc (.cells #[.slice a0 l0.length c0, .slice a1 l1.length c1, .slice a2 l2.length c2, .slice a3 l3.length c3] 88)).heap.size := by simp
  have zR : w.heap.size + 1 < wx.heap.size := Nat.lt_of_lt_of_le zR0 zx
  replace R0 := R0.below al R0.lt; replace L0 := L0.trans (al.mono L0.size)
  clear al zx zR0
  go_upto_region 3 with fail
  generalize wx.alloc (.cells #[.slice a0 l0.length c0, .slice a1 l1.length c1, .slice a2 l2.length c2, .slice a3 l3.length c3] 88) = w3 at *
  generalize wx.heap.size = O at *
  go_loopw [7] (fun x wr => ∃ q : Nat, q ≤ 4 ∧ x = .int .i64 q ∧ ∃ V H, VRow wr O V ∧ (∀ j, q ≤ j → j < 4 → V j = .slice (kindO a0 a1 a2 a3 (j : Int)) (kindL l0 l1 l2 l3 (j : Int)).length (kindB c0 c1 c2 c3 (j : Int))) ∧ FilC (fun j => kindL l0 l1 l2 l3 (j : Int)) w3.heap.size wr V H q ∧ Out O (O + 1) w3 wr) (fun x _ => 4 - (intOf x).toNat)
  case atStart => exact ⟨0, Nat.zero_le _, rfl, _, _, V1, fun j _ _ => rfl, FilC.start _ _ _, Out.refl _ _ _⟩
  case round =>
    clear V1
    obtain ⟨q, hq, rfl, V, H, hV, hE, hF, hO⟩ := hrel
    by_cases hlt : q < 4
    · obtain ⟨rk, nk, zk⟩ := HK.out q
      have bO : Below w.heap.size w wr := L0.trans (hO.below (by omega) L0.size)
      replace rk := rk.below bO (Nat.le_refl _)
      have hc := (hV.2 q hlt).1
      rw [hE q (Nat.le_refl _) hlt] at hc
      have HST : Hid (∀ (w' : World) (a : Option Addr) (c : Nat), Out O (O + 1) wr w' → RowIn w' wr.heap.size w'.heap.size a (kindL l0 l1 l2 l3 (q : Int)).length (kindL l0 l1 l2 l3 (q : Int)) → CapZ a (kindL l0 l1 l2 l3 (q : Int)).length c → ∃ H', FilC (fun j => kindL l0 l1 l2 l3 (j : Int)) w3.heap.size w' (fun j => if j = q then .slice a (kindL l0 l1 l2 l3 (q : Int)).length c else V j) H' (q + 1)) := fun w' a c ho hr hz => ⟨_, hF.step zO ho hr hz⟩
      have HE2 : Hid (∀ (v : Value) j, q + 1 ≤ j → j < 4 → (if j = q then v else V j) = .slice (kindO a0 a1 a2 a3 (j : Int)) (kindL l0 l1 l2 l3 (j : Int)).length (kindB c0 c1 c2 c3 (j : Int))) := fun v j h1 h2 => by rw [if_neg (by omega)]; exact hE j (by omega) h2
      clear hF hE bO
      have hq4 : (q : Int) < 4 := by omega
      have hS : O < wr.heap.size := hV.1
      generalize (kindL l0 l1 l2 l3 (q : Int)) = lq at *
      generalize (kindB c0 c1 c2 c3 (q : Int)) = cc at *
      generalize (kindO a0 a1 a2 a3 (q : Int)) = aq at *
      go_wp2_with fail
      refine (copy_cap _ _ _ lq _ rfl (by omega) rk zk.1).mono ?_
      rintro e w4 ⟨a, cq, rfl, hr, hz, hb⟩
      clear hc
      have hV4 := hV.below hb hV.1
      have cO := (hV4.2 q hlt).1; have fO := (hV4.2 q hlt).2
      have hO4 : Out O (O + 1) wr (w4.setCell ⟨O, q, none⟩ (.slice a lq.length cq)) := (Out.ofBelow hb).trans (Out.set O q w4 _)
      have HV5 : Hid (VRow (w4.setCell ⟨O, q, none⟩ (.slice a lq.length cq)) O (fun j => if j = q then .slice a lq.length cq else V j)) := hV4.put q (.slice a lq.length cq)
      have hr5 := hr.out (Out.set O q w4 (.slice a lq.length cq)) (.inr (by omega))
      obtain ⟨H', hF'⟩ := HST.out _ a cq hO4 (by simpa using hr5) hz
      have HF' := (show Hid (FilC (fun j => kindL l0 l1 l2 l3 (j : Int)) w3.heap.size (w4.setCell ⟨O, q, none⟩ (.slice a lq.length cq)) (fun j => if j = q then .slice a lq.length cq else V j) H' (q + 1)) from hF')
      have HO5 : Hid (Out O (O + 1) w3 (w4.setCell ⟨O, q, none⟩ (.slice a lq.length cq))) := hO.trans hO4
      clear hF' hr hr5 hb hV4 hV HST hO4 hO
      go_wp2
      go_roundw
      case rel => exact ⟨q + 1, by omega, by go_num, _, H', HV5.out, HE2.out _, HF'.out, HO5.out⟩
      case measure => simp [intOf]; omega
    · obtain rfl : q = 4 := by omega
      obtain ⟨a0', a1', a2', a3', e0, e1, e2, e3, x0, x1, x2, x3, u0, u1, u2, u3, T⟩ := hF.done hV
      have R4 := R0.out hO (.inl (by omega))
      have L4 := L0.trans (hO.below (by omega) L0.size)
      have zM := hO.size
      have zL := L0.size
      clear hF hV hE hO HK R0 L0
      try dsimp only at x0 x1 x2 x3 T u0 u1 u2 u3
      have s0 : kindL l0 l1 l2 l3 ((0 : Nat) : Int) = l0 := rfl
      have s1 : kindL l0 l1 l2 l3 ((1 : Nat) : Int) = l1 := rfl
      have s2 : kindL l0 l1 l2 l3 ((2 : Nat) : Int) = l2 := rfl
      have s3 : kindL l0 l1 l2 l3 ((3 : Nat) : Int) = l3 := rfl
      rw [s0] at x0 T u0; rw [s1] at x1 T u1; rw [s2] at x2 T u2; rw [s3] at x3 T u3
      clear s0 s1 s2 s3
      go_wp2_with fail
      refine (asnOf_any _ _ _ _ _ _ _ _ _ _ _ _ _).mono ?_
      rintro e w5 ⟨rfl, hb⟩
      have R5 := R4.below hb R4.lt
      have L5 := L4.trans (hb.mono L4.size)
      have zz := hb.size
      replace T := T.below hb (Nat.le_refl _)
      clear hb R4 L4 x0 x1 x2 x3
      obtain ⟨F, FO⟩ := R5.fill (.slice a0' l0.length e0) (.slice a1' l1.length e1) (.slice a2' l2.length e2) (.slice a3' l3.length e3)
      have j0' := R5.c0; have j1' := R5.c1; have j2' := R5.c2; have j3' := R5.c3
      have g0 := R5.f0; have g1 := R5.f1; have g2 := R5.f2; have g3 := R5.f3
      go_wp2
      have i0 := F.c0; have i1 := F.c1; have i2 := F.c2; have i3 := F.c3
      have fz := FO.size
      refine bodyPost_ret (v := .agg #[.slice a0' l0.length e0, .slice a1' l1.length e1, .slice a2' l2.length e2, .slice a3' l3.length e3]) ?_ rfl ⟨a0', a1', a2', a3', e0, e1, e2, e3, rfl, ?_, ?_, ?_⟩
      · simp [results, Try.results176, go_sem, i0, i1, i2, i3]
      · exact (T.out FO (.inr (by omega))).mono (by omega) (by omega)
      · exact ⟨u0, u1, u2, u3⟩
      · exact L5.trans (FO.below (by omega) L5.size)

end Go.Proofs.Ytphchdjbhbmnbaa
namespace Go.Proofs.Ytphchdjbhbmnbaa
open Go.RowKit
def openA (l0 l1 l2 l3 : List (Int × Int)) : Bool := asnB l0 l1 l2 l3 && openV (clsV l0) l1 l3

set_option linter.unusedSimpArgs false in
set_option maxRecDepth 3000 in
set_option maxHeartbeats 1000000 in
theorem sOpened_any (a0 a1 a2 a3 : Option Addr) (c0 c1 c2 c3 : Nat) (l0 l1 l2 l3 : List (Int × Int)) (w : World)
    (n0 : l0.length ≤ 1048576) (n1 : l1.length ≤ 1048576) (n2 : l2.length ≤ 1048576) (n3 : l3.length ≤ 1048576)
    (r0 : PRow w a0 l0) (r1 : PRow w a1 l1) (r2 : PRow w a2 l2) (r3 : PRow w a3 l3) :
    Calls Try.prog 74 #[.agg #[.slice a0 l0.length c0, .slice a1 l1.length c1, .slice a2 l2.length c2, .slice a3 l3.length c3]] w fun e w' => e = .returned (.bool (openA l0 l1 l2 l3)) ∧ Below w.heap.size w w' := by
  have B0 := Box.new w (.slice a0 l0.length c0) (.slice a1 l1.length c1) (.slice a2 l2.length c2) (.slice a3 l3.length c3) 28
  have L0 : Below w.heap.size w (w.alloc (.cells #[.slice a0 l0.length c0, .slice a1 l1.length c1, .slice a2 l2.length c2, .slice a3 l3.length c3] 28)) := (Below.refl _ _).alloc (Nat.le_refl _) _
  have x0 := B0.c0; have x1 := B0.c1; have x2 := B0.c2; have x3 := B0.c3
  have hq := B0.lt
  go_enter Try.func74, Try.ntmps74
  go_wp2_with fail
  have hS0 : Below w.heap.size w (w.alloc (.cells #[.slice a0 l0.length c0, .slice a1 l1.length c1, .slice a2 l2.length c2, .slice a3 l3.length c3] 28)).drew ∧ (w.alloc (.cells #[.slice a0 l0.length c0, .slice a1 l1.length c1, .slice a2 l2.length c2, .slice a3 l3.length c3] 28)).drew.cell? ⟨w.heap.size, 0, none⟩ = some (.slice a0 l0.length c0) ∧ (w.alloc (.cells #[.slice a0 l0.length c0, .slice a1 l1.length c1, .slice a2 l2.length c2, .slice a3 l3.length c3] 28)).drew.cell? ⟨w.heap.size, 1, none⟩ = some (.slice a1 l1.length c1) ∧ (w.alloc (.cells #[.slice a0 l0.length c0, .slice a1 l1.length c1, .slice a2 l2.length c2, .slice a3 l3.length c3] 28)).drew.cell? ⟨w.heap.size, 2, none⟩ = some (.slice a2 l2.length c2) ∧ (w.alloc (.cells #[.slice a0 l0.length c0, .slice a1 l1.length c1, .slice a2 l2.length c2, .slice a3 l3.length c3] 28)).drew.cell? ⟨w.heap.size, 3, none⟩ = some (.slice a3 l3.length c3) := ⟨L0.drew, x0, x1, x2, x3⟩
  clear B0 L0 x0 x1 x2 x3
  generalize w.alloc (.cells #[.slice a0 l0.length c0, .slice a1 l1.length c1, .slice a2 l2.length c2, .slice a3 l3.length c3] 28) = W at *
  cases ha : asnB l0 l1 l2 l3
  · have HE : Hid (openA l0 l1 l2 l3 = false) := by unfold Hid openA; rw [ha]; rfl
    obtain ⟨L1, x0, x1, x2, x3⟩ := hS0
    have hq3 : w.heap.size < W.drew.heap.size := hq
    refine wp_region_held_drew (S := fun _ => True) (by kernel_rfl) trivial (fun _ => ?_)
    generalize W.drew = W3 at *
    refine wpAnyH_ready (rs := [0]) (by kernel_rfl) (by simp) ?_
    refine AllReadyH.cons rfl (fun K hK => ?_) AllReadyH.nil
    rw [if_pos (by rfl)]
    go_simp
    refine hK.out _ _ trivial (fun _ => ?_)
    clear hK K
    refine wpAnyH_ready (rs := [1]) (by kernel_rfl) (by simp) ?_
    refine AllReadyH.cons rfl (fun K hK => ?_) AllReadyH.nil
    rw [if_pos (by rfl)]
    go_simp
    refine (sAsnOk_any _ _ _ _ _ _ _ _ _ _ _ _ _ n0 n1 n2 n3 (r0.below L1 (Nat.le_refl _)) (r1.below L1 (Nat.le_refl _)) (r2.below L1 (Nat.le_refl _)) (r3.below L1 (Nat.le_refl _))).mono ?_
    rintro e v0 ⟨rfl, g0⟩
    rw [ha]
    have L2 := L1.trans (g0.mono L1.size)
    clear g0 x0 x1 x2 x3 L1
    refine hK.out _ _ trivial (fun _ => ?_)
    clear hK K
    refine wpAnyH_ready (rs := [2]) (by kernel_rfl) (by simp) ?_
    refine AllReadyH.cons rfl (fun K hK => ?_) AllReadyH.nil
    rw [if_pos (by rfl)]
    go_simp
    refine hK.out _ _ trivial (fun _ => ?_)
    clear hK K
    refine wpAnyH_take (i := 3) (v := undef) rfl (by kernel_rfl) (by kernel_rfl) (by kernel_rfl) (fun _ _ _ h => h) (Or.inr ⟨by rfl, rfl⟩) trivial ?_
    simp only [Act.put, List.setIfInBounds_toArray, List.set_cons_zero, List.set_cons_succ]
    refine wpAnyH_take (i := 4) (v := undef) rfl (by kernel_rfl) (by kernel_rfl) (by kernel_rfl) (fun _ _ _ h => h) (Or.inr ⟨by rfl, rfl⟩) trivial ?_
    simp only [Act.put, List.setIfInBounds_toArray, List.set_cons_zero, List.set_cons_succ]
    refine wpAnyH_take (i := 5) (v := undef) rfl (by kernel_rfl) (by kernel_rfl) (by kernel_rfl) (fun _ _ _ h => h) (Or.inr ⟨by rfl, rfl⟩) trivial ?_
    simp only [Act.put, List.setIfInBounds_toArray, List.set_cons_zero, List.set_cons_succ]
    refine wpAnyH_take (i := 6) (v := undef) rfl (by kernel_rfl) (by kernel_rfl) (by kernel_rfl) (fun _ _ _ h => h) (Or.inr ⟨by rfl, rfl⟩) trivial ?_
    simp only [Act.put, List.setIfInBounds_toArray, List.set_cons_zero, List.set_cons_succ]
    refine wpAnyH_ready (rs := [7]) (by kernel_rfl) (by simp) ?_
    refine AllReadyH.cons rfl (fun K hK => ?_) AllReadyH.nil
    rw [if_pos (by rfl)]
    go_simp
    refine hK.out _ _ trivial (fun _ => ?_)
    clear hK K
    refine wpAnyH_ready (rs := [8]) (by kernel_rfl) (by simp) ?_
    refine AllReadyH.cons rfl (fun K hK => ?_) AllReadyH.nil
    rw [if_pos (by rfl)]
    go_simp
    refine hK.out _ _ trivial (fun _ => ?_)
    clear hK K
    refine wpAnyH_done (by kernel_rfl) ?_ _
    go_wp2
    go_ret
    exact ⟨by rw [HE.out]; rfl, L2⟩
  · have HE : Hid (openA l0 l1 l2 l3 = openV (clsV l0) l1 l3) := by unfold Hid openA; rw [ha]; rfl
    have ht := asnB_tokA ha
    have HC : Hid (Cls (clsV l0)) := Cls.all ht.1
    go_region_held3 (fun w' => Below w.heap.size w w' ∧ w'.cell? ⟨w.heap.size, 0, none⟩ = some (.slice a0 l0.length c0) ∧ w'.cell? ⟨w.heap.size, 1, none⟩ = some (.slice a1 l1.length c1) ∧ w'.cell? ⟨w.heap.size, 2, none⟩ = some (.slice a2 l2.length c2) ∧ w'.cell? ⟨w.heap.size, 3, none⟩ = some (.slice a3 l3.length c3))
      (first | exact hS0 | assumption | (refine ⟨?_, ?_, ?_, ?_, ?_⟩ <;> assumption))
      (first
        | (go_at_call 129; refine (sAsnOk_any _ _ _ _ _ _ _ _ _ _ _ _ _ n0 n1 n2 n3 (r0.below hS0.1 (Nat.le_refl _)) (r1.below hS0.1 (Nat.le_refl _)) (r2.below hS0.1 (Nat.le_refl _)) (r3.below hS0.1 (Nat.le_refl _))).mono ?_; rintro e v0 ⟨rfl, g0⟩; rw [ha]; have k0 := keepB hS0 g0 (by simpa using hq))
        | (go_at_call 151; refine (l3classes_any _ _ _ _ _ _ _ _ _ _ _ _ _ n0 ht.1 (r0.below k0.1 (Nat.le_refl _))).mono ?_; rintro e v1 ⟨b, cp, rfl, hbb, O, g1⟩; have k1 := keepB k0 g1 (by have s1 := g0.size; have s3 : W.drew.heap.size = W.heap.size := rfl; omega))
        | (go_at_call 154; refine (l3opened_any _ _ _ _ _ _ _ _ _ _ _ _ b cp (clsV l0) HC.out _ n1 n3 ht.2.1 ht.2.2.2 (r1.below k1.1 (Nat.le_refl _)) (r3.below k1.1 (Nat.le_refl _)) O).mono ?_; rintro e v2 ⟨rfl, g2⟩; have k2 := keepB k1 g2 (by have s1 := g0.size; have s2 := g1.size; have s3 : W.drew.heap.size = W.heap.size := rfl; omega)))
    all_goals
      go_wp2
      go_ret
      exact ⟨by rw [HE.out]; rfl, k2.1⟩


set_option linter.unusedSimpArgs false in
set_option maxRecDepth 3000 in
set_option maxHeartbeats 1000000 in
theorem iOpened_any (a0 a1 a2 a3 : Option Addr) (c0 c1 c2 c3 : Nat) (l0 l1 l2 l3 : List (Int × Int)) (w : World)
    (n0 : l0.length ≤ 1048576) (n1 : l1.length ≤ 1048576) (n2 : l2.length ≤ 1048576) (n3 : l3.length ≤ 1048576)
    (r0 : PRow w a0 l0) (r1 : PRow w a1 l1) (r2 : PRow w a2 l2) (r3 : PRow w a3 l3) :
    Calls Try.prog 75 #[.agg #[.slice a0 l0.length c0, .slice a1 l1.length c1, .slice a2 l2.length c2, .slice a3 l3.length c3]] w fun e w' => e = .returned (.bool (openA l0 l1 l2 l3)) ∧ Below w.heap.size w w' := by
  have B0 := Box.new w (.slice a0 l0.length c0) (.slice a1 l1.length c1) (.slice a2 l2.length c2) (.slice a3 l3.length c3) 28
  have L0 : Below w.heap.size w (w.alloc (.cells #[.slice a0 l0.length c0, .slice a1 l1.length c1, .slice a2 l2.length c2, .slice a3 l3.length c3] 28)) := (Below.refl _ _).alloc (Nat.le_refl _) _
  have x0 := B0.c0; have x1 := B0.c1; have x2 := B0.c2; have x3 := B0.c3
  have hq := B0.lt
  go_enter Try.func75, Try.ntmps75
  go_wp2_with fail
  have hS0 : Below w.heap.size w (w.alloc (.cells #[.slice a0 l0.length c0, .slice a1 l1.length c1, .slice a2 l2.length c2, .slice a3 l3.length c3] 28)).drew ∧ (w.alloc (.cells #[.slice a0 l0.length c0, .slice a1 l1.length c1, .slice a2 l2.length c2, .slice a3 l3.length c3] 28)).drew.cell? ⟨w.heap.size, 0, none⟩ = some (.slice a0 l0.length c0) ∧ (w.alloc (.cells #[.slice a0 l0.length c0, .slice a1 l1.length c1, .slice a2 l2.length c2, .slice a3 l3.length c3] 28)).drew.cell? ⟨w.heap.size, 1, none⟩ = some (.slice a1 l1.length c1) ∧ (w.alloc (.cells #[.slice a0 l0.length c0, .slice a1 l1.length c1, .slice a2 l2.length c2, .slice a3 l3.length c3] 28)).drew.cell? ⟨w.heap.size, 2, none⟩ = some (.slice a2 l2.length c2) ∧ (w.alloc (.cells #[.slice a0 l0.length c0, .slice a1 l1.length c1, .slice a2 l2.length c2, .slice a3 l3.length c3] 28)).drew.cell? ⟨w.heap.size, 3, none⟩ = some (.slice a3 l3.length c3) := ⟨L0.drew, x0, x1, x2, x3⟩
  clear B0 L0 x0 x1 x2 x3
  generalize w.alloc (.cells #[.slice a0 l0.length c0, .slice a1 l1.length c1, .slice a2 l2.length c2, .slice a3 l3.length c3] 28) = W at *
  cases ha : asnB l0 l1 l2 l3
  · have HE : Hid (openA l0 l1 l2 l3 = false) := by unfold Hid openA; rw [ha]; rfl
    obtain ⟨L1, x0, x1, x2, x3⟩ := hS0
    have hq3 : w.heap.size < W.drew.heap.size := hq
    refine wp_region_held_drew (S := fun _ => True) (by kernel_rfl) trivial (fun _ => ?_)
    generalize W.drew = W3 at *
    refine wpAnyH_ready (rs := [0]) (by kernel_rfl) (by simp) ?_
    refine AllReadyH.cons rfl (fun K hK => ?_) AllReadyH.nil
    rw [if_pos (by rfl)]
    go_simp
    refine hK.out _ _ trivial (fun _ => ?_)
    clear hK K
    refine wpAnyH_ready (rs := [1]) (by kernel_rfl) (by simp) ?_
    refine AllReadyH.cons rfl (fun K hK => ?_) AllReadyH.nil
    rw [if_pos (by rfl)]
    go_simp
    refine (iAsnOk_any _ _ _ _ _ _ _ _ _ _ _ _ _ n0 n1 n2 n3 (r0.below L1 (Nat.le_refl _)) (r1.below L1 (Nat.le_refl _)) (r2.below L1 (Nat.le_refl _)) (r3.below L1 (Nat.le_refl _))).mono ?_
    rintro e v0 ⟨rfl, g0⟩
    rw [ha]
    have L2 := L1.trans (g0.mono L1.size)
    clear g0 x0 x1 x2 x3 L1
    refine hK.out _ _ trivial (fun _ => ?_)
    clear hK K
    refine wpAnyH_ready (rs := [2]) (by kernel_rfl) (by simp) ?_
    refine AllReadyH.cons rfl (fun K hK => ?_) AllReadyH.nil
    rw [if_pos (by rfl)]
    go_simp
    refine hK.out _ _ trivial (fun _ => ?_)
    clear hK K
    refine wpAnyH_take (i := 3) (v := undef) rfl (by kernel_rfl) (by kernel_rfl) (by kernel_rfl) (fun _ _ _ h => h) (Or.inr ⟨by rfl, rfl⟩) trivial ?_
    simp only [Act.put, List.setIfInBounds_toArray, List.set_cons_zero, List.set_cons_succ]
    refine wpAnyH_take (i := 4) (v := undef) rfl (by kernel_rfl) (by kernel_rfl) (by kernel_rfl) (fun _ _ _ h => h) (Or.inr ⟨by rfl, rfl⟩) trivial ?_
    simp only [Act.put, List.setIfInBounds_toArray, List.set_cons_zero, List.set_cons_succ]
    refine wpAnyH_take (i := 5) (v := undef) rfl (by kernel_rfl) (by kernel_rfl) (by kernel_rfl) (fun _ _ _ h => h) (Or.inr ⟨by rfl, rfl⟩) trivial ?_
    simp only [Act.put, List.setIfInBounds_toArray, List.set_cons_zero, List.set_cons_succ]
    refine wpAnyH_take (i := 6) (v := undef) rfl (by kernel_rfl) (by kernel_rfl) (by kernel_rfl) (fun _ _ _ h => h) (Or.inr ⟨by rfl, rfl⟩) trivial ?_
    simp only [Act.put, List.setIfInBounds_toArray, List.set_cons_zero, List.set_cons_succ]
    refine wpAnyH_ready (rs := [7]) (by kernel_rfl) (by simp) ?_
    refine AllReadyH.cons rfl (fun K hK => ?_) AllReadyH.nil
    rw [if_pos (by rfl)]
    go_simp
    refine hK.out _ _ trivial (fun _ => ?_)
    clear hK K
    refine wpAnyH_ready (rs := [8]) (by kernel_rfl) (by simp) ?_
    refine AllReadyH.cons rfl (fun K hK => ?_) AllReadyH.nil
    rw [if_pos (by rfl)]
    go_simp
    refine hK.out _ _ trivial (fun _ => ?_)
    clear hK K
    refine wpAnyH_done (by kernel_rfl) ?_ _
    go_wp2
    go_ret
    exact ⟨by rw [HE.out]; rfl, L2⟩
  · have HE : Hid (openA l0 l1 l2 l3 = openV (clsV l0) l1 l3) := by unfold Hid openA; rw [ha]; rfl
    have ht := asnB_tokA ha
    have HC : Hid (Cls (clsV l0)) := Cls.all ht.1
    go_region_held3 (fun w' => Below w.heap.size w w' ∧ w'.cell? ⟨w.heap.size, 0, none⟩ = some (.slice a0 l0.length c0) ∧ w'.cell? ⟨w.heap.size, 1, none⟩ = some (.slice a1 l1.length c1) ∧ w'.cell? ⟨w.heap.size, 2, none⟩ = some (.slice a2 l2.length c2) ∧ w'.cell? ⟨w.heap.size, 3, none⟩ = some (.slice a3 l3.length c3))
      (first | exact hS0 | assumption | (refine ⟨?_, ?_, ?_, ?_, ?_⟩ <;> assumption))
      (first
        | (go_at_call 133; refine (iAsnOk_any _ _ _ _ _ _ _ _ _ _ _ _ _ n0 n1 n2 n3 (r0.below hS0.1 (Nat.le_refl _)) (r1.below hS0.1 (Nat.le_refl _)) (r2.below hS0.1 (Nat.le_refl _)) (r3.below hS0.1 (Nat.le_refl _))).mono ?_; rintro e v0 ⟨rfl, g0⟩; rw [ha]; have k0 := keepB hS0 g0 (by simpa using hq))
        | (go_at_call 152; refine (classesOf_any _ _ _ _ _ _ _ _ _ _ _ _ _ n0 ht.1 (r0.below k0.1 (Nat.le_refl _))).mono ?_; rintro e v1 ⟨rfl, g1⟩; have k1 := keepB k0 g1 (by have s1 := g0.size; have s3 : W.drew.heap.size = W.heap.size := rfl; omega))
        | (go_at_call 167; refine (opens_any _ _ _ _ _ _ _ _ _ _ _ _ (clsV l0) HC.out _ n1 n3 ht.2.1 ht.2.2.2 (r1.below k1.1 (Nat.le_refl _)) (r3.below k1.1 (Nat.le_refl _))).mono ?_; rintro e v2 ⟨rfl, g2⟩; have k2 := keepB k1 g2 (by have s1 := g0.size; have s2 := g1.size; have s3 : W.drew.heap.size = W.heap.size := rfl; omega)))
    all_goals
      go_wp2
      go_ret
      exact ⟨by rw [HE.out]; rfl, k2.1⟩

end Go.Proofs.Ytphchdjbhbmnbaa
namespace Go.Proofs.Ytphchdjbhbmnbaa
open Go.RowKit Go.Maps
theorem law3 : Keyed Try.prog 3 := int_keyed Try.underlying3
theorem zero3 (w : World) : (zeroValue 3).run Try.prog w = .ok (.int .i64 0) w := by kernel_rfl
theorem zero96 (w : World) : (zeroValue 153).run Try.prog w = .ok (.agg #[]) w := by kernel_rfl
abbrev ik (x : Int) : Lit := .int .i64 x
theorem ik_key (x : Int) : WideAt.IsKeyLit (ik x) := trivial
theorem ik_ne {x y : Int} (h : x ≠ y) : ik x ≠ ik y := fun e => h (by injection e)
/-- The set of integers in block b of w (at most N entries) has those of p, and nothing else. -/
def HS (w : World) (b N : Nat) (p : Int → Bool) : Prop :=
  ∃ D, w.ownsMap (H := Unit) Try.prog 3 unitElem b N D ∧ ∀ x, Maps.has D (ik x) = p x
theorem owns_block {H : Type} {w w' : World} {k b n : Nat} {R : Value → Option (DataW H × List MemPlace)} {D : DataW H} (h : w.ownsMap Try.prog k R b n D) (e : w'.heap[b]? = w.heap[b]?) : w'.ownsMap Try.prog k R b n D := by
  obtain ⟨es, clock, hb, F, hs, hD⟩ := h
  exact ⟨es, clock, e.trans hb, F, hs, hD⟩
theorem HS.lt {w : World} {b N : Nat} {p : Int → Bool} (h : HS w b N p) : b < w.heap.size := h.choose_spec.1.lt
theorem HS.block {w w' : World} {b N : Nat} {p : Int → Bool} (h : HS w b N p) (e : w'.heap[b]? = w.heap[b]?) : HS w' b N p := by
  obtain ⟨D, ho, hf⟩ := h
  exact ⟨D, owns_block ho e, hf⟩
theorem HS.below {w w' : World} {b N B : Nat} {p : Int → Bool} (h : HS w b N p) (hb : Below B w w') (hB : b < B) : HS w' b N p := h.block (hb.block b hB)
theorem HS.keep {w w' : World} {b N : Nat} {p : Int → Bool} (h : HS w b N p) (hb : Below w.heap.size w w') : HS w' b N p := h.below hb h.lt
theorem HS.out {lo hi : Nat} {w w' : World} {b N : Nat} {p : Int → Bool} (h : HS w b N p) (ho : Out lo hi w w') (hr : b < lo ∨ hi ≤ b) : HS w' b N p := h.block (ho.block b h.lt hr)
theorem HS.alloc {w : World} {b N : Nat} {p : Int → Bool} (h : HS w b N p) (o : Obj) : HS (w.alloc o) b N p := h.keep ((Below.refl _ _).alloc (Nat.le_refl _) o)
theorem HS.mono {w : World} {b N M : Nat} {p : Int → Bool} (h : HS w b N p) (hm : N ≤ M) : HS w b M p := by
  obtain ⟨D, ho, hf⟩ := h
  exact ⟨D, ho.mono hm, hf⟩
theorem HS.made (w : World) : HS (w.alloc (.map #[] 0)) w.heap.size 0 (fun _ => false) :=
  ⟨.map [], World.ownsMap_made _ _ _ _, fun _ => rfl⟩
theorem grown_out {w w' : World} {b : Nat} (h : w.grownBy w' (some b)) : Out b (b + 1) w w' :=
  ⟨h.os, h.tape, h.output, h.size, fun k hk hr => h.block k hk (fun e => by have := Option.some.inj e; omega)⟩
theorem hs_put {D : DataW Unit} {p : Int → Bool} {x : Int} (d : DataW Unit) (hm : IsMap D) (hf : ∀ x, Maps.has D (ik x) = p x) :
    ∀ z, Maps.has (D.put (ik x) d) (ik z) = (p z || decide (z = x)) := by
  intro z
  by_cases e : z = x
  · subst e
    rw [has_put_same hm (ik_key _)]; simp
  · rw [has_put_other (ik_ne e), hf z]; simp [e]
set_option maxHeartbeats 400000 in
theorem has_any (b N : Nat) (p : Int → Bool) (x : Int) (w : World) (wx : (Lit.int .i64 x).wf = true) (hm : HS w b N p) :
    Calls Try.prog 220 #[.map (some b), .int .i64 x] w fun e w' => e = .returned (.bool (p x)) ∧ Below w.heap.size w w' := by
  obtain ⟨Dm, hown, hf⟩ := hm
  have HF : Hid (Maps.has Dm (ik x) = p x) := hf x
  clear hf
  go_enter Try.func220, Try.ntmps220
  go_wp2_with (first
    | (at_lookup; refine wpList_lookup_own_unit _ rfl _ _ 116 rfl 3 153 law3 Try.underlying116 (zero96 _) b N _ rfl hown _ _ rfl (keyOf_int_mk Try.underlying3 wx) ?_)
    | go_in)
  go_ret
  exact ⟨ret_bool HF.out, (Below.refl _ _).alloc (Nat.le_refl _) _⟩
set_option maxHeartbeats 400000 in
theorem add_any (b N : Nat) (p : Int → Bool) (x : Int) (w : World) (wx : (Lit.int .i64 x).wf = true) (hN : N ≤ 1048576) (hm : HS w b N p) :
    Calls Try.prog 166 #[.map (some b), .int .i64 x] w fun e w' => e = .returned (.bool (!p x)) ∧ HS w' b (N + 1) (fun z => p z || decide (z = x)) ∧ Out b (b + 1) w w' := by
  have hc := has_any b N p x w wx hm
  cases hp : p x
  · rw [hp] at hc
    go_enter Try.func166, Try.ntmps166
    go_wp2_with fail
    refine hc.mono ?_
    rintro e w1 ⟨rfl, hb⟩
    obtain ⟨Dm, hown, hf⟩ := hm.keep hb
    have HF : Hid (∀ x, Maps.has Dm (ik x) = p x) := hf
    clear hf hc hm
    go_wp2_with (first
      | (at_mapUpdate; refine wpList_mapUpdate_own _ rfl _ _ _ 116 rfl 3 153 law3 Try.underlying116 _ b N _ rfl hown (by unfold maxLen; omega) _ _ _ rfl rfl (keyOf_int_mk Try.underlying3 wx) _ [] unitElem_mk ?_; intro w2 hown1 hgrow1)
      | go_in)
    go_ret
    exact ⟨rfl, ⟨_, hown1, hs_put _ hown.isMap HF.out⟩, (Out.ofBelow hb).trans (grown_out hgrow1)⟩
  · rw [hp] at hc
    have HP : Hid (p x = true) := hp
    clear hp
    go_enter Try.func166, Try.ntmps166
    go_wp2_with fail
    refine hc.mono ?_
    rintro e w1 ⟨rfl, hb⟩
    go_wp2
    go_ret
    refine ⟨rfl, ?_, Out.ofBelow hb⟩
    have e : (fun z => p z || decide (z = x)) = p := by
      funext z
      by_cases e : z = x
      · subst e; rw [HP.out]; rfl
      · simp [e]
    rw [e]
    exact (hm.keep hb).mono (Nat.le_succ _)
def WFL (l : List Int) : Prop := ∀ i, i < l.length → (Lit.int .i64 (l.getD i 0)).wf = true
theorem take_snoc {l : List Int} {k : Nat} (hk : k < l.length) : l.take (k + 1) = l.take k ++ [l.getD k 0] := by
  rw [List.take_add_one]
  simp [hk]
set_option maxHeartbeats 1000000 in
theorem setOf_some (b c : Nat) (l : List Int) (w : World) (hn : l.length ≤ 1048576) (hw : Hid (WFL l)) (ho : OwnI w b l.length l l.length) :
    Calls Try.prog 165 #[.slice (some ⟨b, 0, none⟩) l.length c] w fun e w' => e = .returned (.map (some w.heap.size)) ∧ HS w' w.heap.size l.length (fun q => decide (q ∈ l)) ∧ Below w.heap.size w w' := by
  have hmm := @run_makeMap Try.prog
  have h0 := HS.made w
  have L0 : Below w.heap.size w (w.alloc (.map #[] 0)) := (Below.refl _ _).alloc (Nat.le_refl _) _
  have HT : Hid (∀ k, k < l.length → l.take (k + 1) = l.take k ++ [l.getD k 0]) := fun k hk => take_snoc hk
  have HA : Hid (l.take l.length = l) := List.take_length
  have HW : Hid (∀ i, i < l.length → (Lit.int .i64 (l.getD i 0)).wf = true) := hw.out
  clear hw
  generalize hN : l.length = n at *
  clear hN
  have hbl := ho.1
  go_enter Try.func165, Try.ntmps165
  go_wp2
  go_loopw [5, 9] (fun _ i wr => ∃ k : Nat, k ≤ n ∧ i = .int .i64 k ∧ HS wr w.heap.size k (fun q => decide (q ∈ l.take k)) ∧ Below w.heap.size w wr) (fun _ i _ => n - (intOf i).toNat)
  case atStart => exact ⟨0, Nat.zero_le _, rfl, by simpa using h0, L0⟩
  case round =>
    clear h0 L0
    obtain ⟨k, hk, rfl, hm, hbw⟩ := hrel
    by_cases hlt : k < n
    · have hx := (ho.below hbw hbl).2.2 k hlt
      have wx := HW.out k hlt
      obtain ⟨x, ex⟩ : ∃ x, Hid (l.getD k 0 = x) := ⟨_, rfl⟩
      rw [ex.out] at hx wx
      have hc := add_any w.heap.size k _ x wr wx (by omega) hm
      have eS : (fun q => decide (q ∈ l.take k) || decide (q = x)) = fun q => decide (q ∈ l.take (k + 1)) := by
        funext q; rw [HT.out k hlt, ex.out]; simp
      rw [eS] at hc
      clear eS
      go_wp2_with fail
      refine hc.mono ?_
      rintro e w1 ⟨rfl, hm1, ho1⟩
      have hb1 := hbw.trans (ho1.below (Nat.le_refl _) hbw.size)
      clear hc hx hbw hm ho1
      go_wp2
      go_roundw
      case rel => exact ⟨k + 1, by omega, by go_num, hm1, hb1⟩
      case measure => simp [intOf]; omega
    · obtain rfl : k = n := by omega
      go_wp2
      go_ret
      exact ⟨rfl, by rw [HA.out] at hm; exact hm, hbw⟩
end Go.Proofs.Ytphchdjbhbmnbaa
namespace Go.Proofs.Ytphchdjbhbmnbaa
open Go.RowKit
def contraA (l0 l1 l2 l3 : List (Int × Int)) : Bool := asnB l0 l1 l2 l3 && (openV (clsV l0) l1 l3 && contraV (clsV l0) l1 l2 l3)
theorem contra_open (l0 l1 l2 l3 : List (Int × Int)) : contraA l0 l1 l2 l3 = (openA l0 l1 l2 l3 && contraV (clsV l0) l1 l2 l3) := by
  unfold contraA openA
  rw [Bool.and_assoc]
theorem wf16 {z : Int} (h0 : 0 ≤ z) (h1 : z < 16) : (Lit.int .i64 z).wf = true := by
  have : ∀ k : Nat, k < 16 → (Lit.int .i64 (k : Int)).wf = true := by decide +kernel
  obtain ⟨k, rfl⟩ := Int.eq_ofNat_of_zero_le h0
  exact this k (by omega)
theorem has_step {l : List Int} {k : Nat} (hk : k < l.length) (v : Int) : hasV (l.take (k + 1)) v = (hasV (l.take k) v || decide (l.getD k 0 = v)) := by
  unfold hasV
  rw [List.take_add_one, List.getElem?_eq_getElem hk]
  simp only [Option.toList_some, List.any_append, List.any_cons, List.any_nil, Bool.or_false]
  rw [List.getD_eq_getElem?_getD (l := l), List.getElem?_eq_getElem hk, Option.getD_some]
theorem headsOf_wf {c : List Int} (hc : Cls c) {l : List (Int × Int)} (ht : toks l = true) : ∀ z ∈ headsOf c l, 0 ≤ z ∧ z < 16 := by
  intro z hz
  unfold headsOf at hz
  rw [List.mem_map] at hz
  obtain ⟨p, hp, rfl⟩ := hz
  obtain ⟨k, hk, rfl⟩ := List.getElem_of_mem hp
  have := (toks_get ht hk).1
  rw [List.getD_eq_getElem?_getD, List.getElem?_eq_getElem hk, Option.getD_some] at this
  exact hc.2 _ (by omega)
theorem heads_wf {c : List Int} (hc : Cls c) {l2 l3 : List (Int × Int)} (h2 : toks l2 = true) (h3 : toks l3 = true) : ∀ j, j < (headsV c l2 l3).length → 0 ≤ (headsV c l2 l3).getD j 0 ∧ (headsV c l2 l3).getD j 0 < 16 := by
  intro j hj
  have hm : (headsV c l2 l3).getD j 0 ∈ headsV c l2 l3 := by
    rw [List.getD_eq_getElem?_getD, List.getElem?_eq_getElem hj, Option.getD_some]
    exact List.getElem_mem hj
  generalize (headsV c l2 l3).getD j 0 = z at *
  unfold headsV at hm
  rw [List.mem_append] at hm
  rcases hm with hm | hm
  · exact headsOf_wf hc h2 z hm
  · exact headsOf_wf hc h3 z hm

set_option maxRecDepth 3000 in
set_option maxHeartbeats 1000000 in
theorem sContra_any (a0 a1 a2 a3 : Option Addr) (c0 c1 c2 c3 : Nat) (l0 l1 l2 l3 : List (Int × Int)) (w : World)
    (n0 : l0.length ≤ 1048576) (n1 : l1.length ≤ 1048576) (n2 : l2.length ≤ 1048576) (n3 : l3.length ≤ 1048576)
    (r0 : PRow w a0 l0) (r1 : PRow w a1 l1) (r2 : PRow w a2 l2) (r3 : PRow w a3 l3) :
    Calls Try.prog 72 #[.agg #[.slice a0 l0.length c0, .slice a1 l1.length c1, .slice a2 l2.length c2, .slice a3 l3.length c3]] w fun e w' => e = .returned (.bool (contraA l0 l1 l2 l3)) ∧ Below w.heap.size w w' := by
  have B0 := Box.new w (.slice a0 l0.length c0) (.slice a1 l1.length c1) (.slice a2 l2.length c2) (.slice a3 l3.length c3) 28
  have L0 : Below w.heap.size w (w.alloc (.cells #[.slice a0 l0.length c0, .slice a1 l1.length c1, .slice a2 l2.length c2, .slice a3 l3.length c3] 28)) := (Below.refl _ _).alloc (Nat.le_refl _) _
  go_enter Try.func72, Try.ntmps72
  go_wp2_with fail
  refine (sAsnOk_any _ _ _ _ _ _ _ _ _ _ _ _ _ n0 n1 n2 n3 (by exact r0.below L0 (Nat.le_refl _)) (by exact r1.below L0 (Nat.le_refl _)) (by exact r2.below L0 (Nat.le_refl _)) (by exact r3.below L0 (Nat.le_refl _))).mono ?_
  rintro e w1 ⟨rfl, hb⟩
  have B1 := B0.below hb B0.lt; have L1 := L0.trans (hb.mono L0.size)
  clear hb B0 L0
  cases ha : asnB l0 l1 l2 l3
  · have HE : Hid (contraA l0 l1 l2 l3 = false) := by unfold Hid contraA; rw [ha]; rfl
    go_wp2
    go_ret
    exact ⟨by rw [HE.out]; rfl, L1⟩
  have ht := asnB_tokA ha
  have HE : Hid (contraA l0 l1 l2 l3 = (openV (clsV l0) l1 l3 && contraV (clsV l0) l1 l2 l3)) := by unfold Hid contraA; rw [ha]; rfl
  have HLE : Hid ((headsV (clsV l0) l2 l3).length ≤ 1048576) := by have := headsA_le l0 l1 l2 l3; unfold headsA at this; rw [if_pos ha] at this; exact this
  have HC : Hid (Cls (clsV l0)) := Cls.all ht.1
  clear ha
  have x0 := B1.c0; have x1 := B1.c1; have x2 := B1.c2; have x3 := B1.c3
  go_wp2_with fail
  refine (l3classes_any _ _ _ _ _ _ _ _ _ _ _ _ _ n0 ht.1 (by exact r0.below L1 (Nat.le_refl _))).mono ?_
  rintro e w2 ⟨b, cp, rfl, hbb, O, hb⟩
  have L2 := L1.trans (hb.mono L1.size)
  have B2 := B1.below hb B1.lt
  clear hb B1 L1 x0 x1 x2 x3
  generalize clsV l0 = c at *
  have x0 := B2.c0; have x1 := B2.c1; have x2 := B2.c2; have x3 := B2.c3
  go_wp2_with fail
  refine (l3opened_any _ _ _ _ _ _ _ _ _ _ _ _ b cp c HC.out _ n1 n3 ht.2.1 ht.2.2.2 (by exact r1.below L2 (Nat.le_refl _)) (by exact r3.below L2 (Nat.le_refl _)) (by exact O)).mono ?_
  rintro e w3 ⟨rfl, hb⟩
  have L3 := L2.trans (hb.mono L2.size)
  have B3 := B2.below hb B2.lt
  have O3 := O.below hb O.1
  clear hb B2 L2 O x0 x1 x2 x3
  have x0 := B3.c0; have x1 := B3.c1; have x2 := B3.c2; have x3 := B3.c3
  cases ho : openV c l1 l3
  · rw [ho] at HE
    go_wp2
    go_ret
    exact ⟨by rw [HE.out]; rfl, L3⟩
  rw [ho] at HE
  go_wp2_with fail
  refine (l3contra_any _ _ _ _ _ _ _ _ _ _ _ _ b cp c HC.out.1 _ n1 n2 n3 HLE.out ht.2.1 ht.2.2.1 ht.2.2.2 (by exact r1.below L3 (Nat.le_refl _)) (by exact r2.below L3 (Nat.le_refl _)) (by exact r3.below L3 (Nat.le_refl _)) (by exact O3)).mono ?_
  rintro e w4 ⟨rfl, hb⟩
  have L4 := L3.trans (hb.mono L3.size)
  clear hb
  go_wp2
  go_ret
  exact ⟨by rw [HE.out]; rfl, L4⟩

set_option maxRecDepth 3000 in
set_option maxHeartbeats 1000000 in
theorem iContra_any (a0 a1 a2 a3 : Option Addr) (c0 c1 c2 c3 : Nat) (l0 l1 l2 l3 : List (Int × Int)) (w : World)
    (n0 : l0.length ≤ 1048576) (n1 : l1.length ≤ 1048576) (n2 : l2.length ≤ 1048576) (n3 : l3.length ≤ 1048576)
    (r0 : PRow w a0 l0) (r1 : PRow w a1 l1) (r2 : PRow w a2 l2) (r3 : PRow w a3 l3) :
    Calls Try.prog 73 #[.agg #[.slice a0 l0.length c0, .slice a1 l1.length c1, .slice a2 l2.length c2, .slice a3 l3.length c3]] w fun e w' => e = .returned (.bool (contraA l0 l1 l2 l3)) ∧ Below w.heap.size w w' := by
  have B0 := Box.new w (.slice a0 l0.length c0) (.slice a1 l1.length c1) (.slice a2 l2.length c2) (.slice a3 l3.length c3) 28
  have L0 : Below w.heap.size w (w.alloc (.cells #[.slice a0 l0.length c0, .slice a1 l1.length c1, .slice a2 l2.length c2, .slice a3 l3.length c3] 28)) := (Below.refl _ _).alloc (Nat.le_refl _) _
  go_enter Try.func73, Try.ntmps73
  go_wp2_with fail
  refine (iOpened_any _ _ _ _ _ _ _ _ _ _ _ _ _ n0 n1 n2 n3 (by exact r0.below L0 (Nat.le_refl _)) (by exact r1.below L0 (Nat.le_refl _)) (by exact r2.below L0 (Nat.le_refl _)) (by exact r3.below L0 (Nat.le_refl _))).mono ?_
  rintro e w1 ⟨rfl, hb⟩
  have B1 := B0.below hb B0.lt; have L1 := L0.trans (hb.mono L0.size)
  clear hb B0 L0
  cases hop : openA l0 l1 l2 l3
  · have HE : Hid (contraA l0 l1 l2 l3 = false) := by unfold Hid; rw [contra_open, hop]; rfl
    go_wp2
    go_ret
    exact ⟨by rw [HE.out]; rfl, L1⟩
  have HE : Hid (contraA l0 l1 l2 l3 = contraV (clsV l0) l1 l2 l3) := by unfold Hid; rw [contra_open, hop]; rfl
  have ha : asnB l0 l1 l2 l3 = true := by unfold openA at hop; rw [Bool.and_eq_true] at hop; exact hop.1
  have ht := asnB_tokA ha
  have HLE : Hid ((headsV (clsV l0) l2 l3).length ≤ 1048576) := by have := headsA_le l0 l1 l2 l3; unfold headsA at this; rw [if_pos ha] at this; exact this
  have HC : Hid (Cls (clsV l0)) := Cls.all ht.1
  clear ha hop
  have x0 := B1.c0; have x1 := B1.c1; have x2 := B1.c2; have x3 := B1.c3
  go_wp2_with fail
  refine (classesOf_any _ _ _ _ _ _ _ _ _ _ _ _ _ n0 ht.1 (by exact r0.below L1 (Nat.le_refl _))).mono ?_
  rintro e w2 ⟨rfl, hb⟩
  have L2 := L1.trans (hb.mono L1.size)
  have B2 := B1.below hb B1.lt
  clear hb B1 L1 x0 x1 x2 x3
  unfold aV
  dsimp only
  iterate 4 go_step
  have Z := OwnI.zeros w2 102
  refine ws67 rfl (.tmp 3) (.tmp 13) rfl _ rfl (clsV l0) _ rfl Z HC.out.1 rfl ?_
  have C := Z.setAll HC.out.1
  have L3 := Below.setCells w2.heap.size L2.size (ic (clsV l0)) 0 _ (L2.alloc L2.size (.cells z16 102))
  have L23 := Below.setCells w2.heap.size (Nat.le_refl _) (ic (clsV l0)) 0 _ ((Below.refl w2.heap.size w2).alloc (Nat.le_refl _) (.cells z16 102))
  have B3 := B2.below L23 B2.lt
  have sb := B2.lt
  have s2 := L2.size
  clear Z L2 L23 B2
  generalize (w2.alloc (.cells z16 102)).setCells w2.heap.size 0 (ic (clsV l0)) = w3 at *
  generalize clsV l0 = c at *
  generalize w2.heap.size = q at *
  have x1 := B3.c1
  go_wp2_with fail
  clear x1
  go_loopw [17] (fun i wr => ∃ m : Nat, m ≤ l1.length ∧ i = .int .i64 m ∧ Hid (∀ j, j < m → ¬ c.getD (l1.getD j (0, 0)).1.toNat 0 = c.getD (l1.getD j (0, 0)).2.toNat 0) ∧ OwnI wr q 16 c 16 ∧ Box wr w.heap.size (.slice a0 l0.length c0) (.slice a1 l1.length c1) (.slice a2 l2.length c2) (.slice a3 l3.length c3) ∧ Below w.heap.size w wr) (fun i _ => l1.length - (intOf i).toNat)
  case atStart => exact ⟨0, Nat.zero_le _, rfl, fun j hj => absurd hj (Nat.not_lt_zero _), C, B3, L3⟩
  case round =>
    clear C B3 L3
    obtain ⟨m, hm, rfl, HM, C, B, L⟩ := hrel
    by_cases hlty : m < l1.length
    · rcases r1 with hnil | ⟨b1, off1, rfl, hb1, hcl1⟩
      · rw [hnil] at hlty; simp at hlty
      have hyq0 : wr.cell? ⟨b1, off1 + m * 2, none⟩ = some (.int .i64 (l1.getD m (0, 0)).1) := by rw [L.cell (p := ⟨b1, _, none⟩) hb1]; exact (hcl1 m hlty).1
      have hyq1 : wr.cell? ⟨b1, off1 + m * 2 + 1, none⟩ = some (.int .i64 (l1.getD m (0, 0)).2) := by rw [L.cell (p := ⟨b1, _, none⟩) hb1]; exact (hcl1 m hlty).2
      have hmn : (m : Int) < (l1.length : Int) := by omega
      have hm0 : (0 : Int) ≤ (m : Int) := by omega
      have htm := toks_get ht.2.1 hlty
      have HHIT : Hid (c.getD (l1.getD m (0, 0)).1.toNat 0 = c.getD (l1.getD m (0, 0)).2.toNat 0 → sameV c l1 = true) := fun h => same_hit hlty h
      have HM2 : Hid (¬ c.getD (l1.getD m (0, 0)).1.toNat 0 = c.getD (l1.getD m (0, 0)).2.toNat 0 → ∀ j, j < m + 1 → ¬ c.getD (l1.getD j (0, 0)).1.toNat 0 = c.getD (l1.getD j (0, 0)).2.toNat 0) := by
        intro hf j hj
        by_cases e : j = m
        · subst e; exact hf
        · exact HM.out j (by omega)
      generalize l1.getD m (0, 0) = pp at *
      clear hcl1
      obtain ⟨⟨q1, q2⟩, q3, q4⟩ := htm
      obtain ⟨s, t, rfl, hs, hts⟩ : ∃ s t : Nat, pp = ((s : Int), (t : Int)) ∧ s < 16 ∧ t < 16 := ⟨pp.1.toNat, pp.2.toNat, by rw [Int.toNat_of_nonneg q1, Int.toNat_of_nonneg q3], by omega, by omega⟩
      clear q1 q2 q3 q4
      dsimp only at hyq0 hyq1
      simp only [Int.toNat_natCast] at HHIT HM2
      have hsa : (s : Int) < 16 := by omega
      have hta : (t : Int) < 16 := by omega
      have hsb : (0 : Int) ≤ (s : Int) := by omega
      have htb : (0 : Int) ≤ (t : Int) := by omega
      go_wp2_with fail
      have P1 := PBox.new wr s t 69
      have L1 := L.alloc L.size (.cells #[.int .i64 (s : Int), .int .i64 (t : Int)] 69)
      have C1 := C.alloc (.cells #[.int .i64 (s : Int), .int .i64 (t : Int)] 69)
      have B1 := B.alloc (.cells #[.int .i64 (s : Int), .int .i64 (t : Int)] 69)
      clear hyq0 hyq1 C L B hb1
      generalize wr.alloc (.cells #[.int .i64 (s : Int), .int .i64 (t : Int)] 69) = W2 at *
      generalize wr.heap.size = p5 at *
      have eu := C1.2.2 s hs
      have ev := C1.2.2 t hts
      generalize c.getD s 0 = u at *
      generalize c.getD t 0 = v at *
      have hS0 : Below w.heap.size w W2.drew ∧ W2.drew.cell? ⟨p5, 0, none⟩ = some (.int .i64 s) ∧ W2.drew.cell? ⟨p5, 1, none⟩ = some (.int .i64 t) ∧ W2.drew.cell? ⟨q, s, none⟩ = some (.int .i64 u) ∧ W2.drew.cell? ⟨q, t, none⟩ = some (.int .i64 v) := ⟨L1.drew, P1.c0, P1.c1, eu, ev⟩
      replace C1 := C1.drew; replace B1 := B1.drew
      clear P1 eu ev L1
      go_region_held3 (fun w' => Below w.heap.size w w' ∧ w'.cell? ⟨p5, 0, none⟩ = some (.int .i64 s) ∧ w'.cell? ⟨p5, 1, none⟩ = some (.int .i64 t) ∧ w'.cell? ⟨q, s, none⟩ = some (.int .i64 u) ∧ w'.cell? ⟨q, t, none⟩ = some (.int .i64 v))
        (first | exact hS0 | assumption | (refine ⟨?_, ?_, ?_, ?_, ?_⟩ <;> assumption))
        (fail)
      have L := hS0.1
      clear hS0
      generalize W2.drew = wd at *
      by_cases h1 : u = v
      · have HV : Hid (contraV c l1 l2 l3 = true) := by unfold Hid contraV; rw [HHIT.out h1]; rfl
        go_wp2
        go_ret
        exact ⟨by rw [HE.out, HV.out]; rfl, L⟩
      · have HU2 : Hid (∀ j, j < m + 1 → ¬ c.getD (l1.getD j (0, 0)).1.toNat 0 = c.getD (l1.getD j (0, 0)).2.toNat 0) := HM2.out h1
        go_wp2
        go_roundw
        case rel => exact ⟨m + 1, by omega, by go_num, HU2, C1, B1, L⟩
        case measure => simp [intOf]; omega
    · have HA : Hid (contraV c l1 l2 l3 = dupV (headsV c l2 l3)) := by
        unfold Hid contraV
        rw [same_none (fun j hj => HM.out j (by omega))]
        rfl
      have hge : ¬ ((m : Int) < (l1.length : Int)) := by omega
      go_wp2_with fail
      have O0 : OwnI (wr.alloc (.cells #[.int .i64 0] 3)) wr.heap.size ([0] : List Int).length [0] ([0] : List Int).length := OwnI.new wr [0] 1 rfl 3
      refine (setOf_some _ _ [0] _ (by decide) (fun i hi => by obtain rfl : i = 0 := (by simp at hi; exact hi); rfl) O0).mono ?_
      rintro e w5 ⟨rfl, T5, hb⟩
      have L5 := (L.alloc L.size (.cells #[.int .i64 0] 3)).trans (hb.mono (L.alloc L.size _).size)
      have C5 := (C.alloc (.cells #[.int .i64 0] 3)).below hb (C.alloc _).1
      have B5 := (B.alloc (.cells #[.int .i64 0] 3)).below hb (B.alloc _).lt
      have st := (L.alloc L.size (.cells #[.int .i64 (0 : Int)] 3)).size
      clear hb C B L O0
      generalize (wr.alloc (.cells #[.int .i64 0] 3)).heap.size = T at *
      dsimp only
      iterate 10 go_step
      refine wl67 rfl (.tmp 3) rfl _ rfl C5 HC.out.1 ?_
      have y0 := B5.c0; have y1 := B5.c1; have y2 := B5.c2; have y3 := B5.c3
      go_wp2_with fail
      refine (heads_any _ _ _ _ _ _ _ _ _ _ _ _ c HC.out.1 _ n2 n3 ht.2.2.1 ht.2.2.2 (by exact r2.below L5 (Nat.le_refl _)) (by exact r3.below L5 (Nat.le_refl _))).mono ?_
      rintro e w6 ⟨ag, cg, rfl, G, hb⟩
      have L6 := L5.trans (hb.mono L5.size)
      have T6 := T5.keep hb
      have sT := T5.lt
      clear hb L5 C5 B5 y0 y1 y2 y3 T5
      have hn := HLE.out
      have HWF := heads_wf HC.out ht.2.2.1 ht.2.2.2
      generalize headsV c l2 l3 = hs at *
      replace HWF : Hid (∀ j, j < hs.length → 0 ≤ hs.getD j 0 ∧ hs.getD j 0 < 16) := HWF
      obtain ⟨_, hr⟩ := G
      generalize hn2 : hs.length = n at *
      replace hn2 : Hid (hs.length = n) := hn2
      have T7 : HS w6 T 1 (fun z => decide (z = 0) || hasV (hs.take 0) z) := by
        have e : (fun z => decide (z = 0) || hasV (hs.take 0) z) = fun (q : Int) => decide (q ∈ ([0] : List Int)) := by funext z; simp [hasV]
        rw [e]; exact T6
      clear T6
      go_wp2_with fail
      go_loopw [37] (fun i wx => ∃ k : Nat, k ≤ n ∧ i = .int .i64 k ∧ Hid (∀ j, j < k → (decide (hs.getD j 0 = 0) || hasV (hs.take j) (hs.getD j 0)) = false) ∧ HS wx T (k + 1) (fun z => decide (z = 0) || hasV (hs.take k) z) ∧ Out T (T + 1) w6 wx) (fun i _ => n - (intOf i).toNat)
      case atStart => exact ⟨0, Nat.zero_le _, rfl, fun j hj => absurd hj (Nat.not_lt_zero _), T7, Out.refl _ _ _⟩
      case round =>
        clear T7
        obtain ⟨k, hk, rfl, HK, TS, OU⟩ := hrel
        have L8 := L6.trans (OU.below st L6.size)
        by_cases hlt : k < n
        · rcases hr with h0 | ⟨bh, rfl, g1, g2, OH⟩
          · omega
          have OH2 := OH.out OU (by omega)
          have ev := OH2.2.2 k hlt
          have hkn : (k : Int) < (n : Int) := by omega
          have hk0 : (0 : Int) ≤ (k : Int) := by omega
          have hz := HWF.out k (by have := hn2.out; omega)
          have HHIT : Hid ((decide (hs.getD k 0 = 0) || hasV (hs.take k) (hs.getD k 0)) = true → contraV c l1 l2 l3 = true) := fun e => by rw [HA.out]; exact dup_hit (by have := hn2.out; omega) e
          have HK2 : Hid ((decide (hs.getD k 0 = 0) || hasV (hs.take k) (hs.getD k 0)) = false → ∀ j, j < k + 1 → (decide (hs.getD j 0 = 0) || hasV (hs.take j) (hs.getD j 0)) = false) := by
            intro hf j hj
            by_cases e : j = k
            · subst e; exact hf
            · exact HK.out j (by omega)
          have HST := has_step (l := hs) (k := k) (by have := hn2.out; omega)
          generalize hs.getD k 0 = z at *
          have hadd := add_any T (k + 1) _ z wr (wf16 hz.1 hz.2) (by omega) TS
          have eS : (fun (x : Int) => (decide (x = 0) || hasV (hs.take k) x) || decide (x = z)) = fun x => decide (x = 0) || hasV (hs.take (k + 1)) x := by
            funext x; rw [HST x, Bool.or_assoc]; congr 2; exact decide_eq_decide.2 ⟨Eq.symm, Eq.symm⟩
          rw [eS] at hadd
          clear eS HST TS
          generalize hp : (decide (z = 0) || hasV (hs.take k) z) = pz at *
          clear hp
          go_wp2_with fail
          refine hadd.mono ?_
          rintro e w7 ⟨rfl, T8, o8⟩
          have OU2 := OU.trans o8
          have L9 := L6.trans (OU2.below st L6.size)
          clear hadd o8 OU L8 OH2 ev
          cases pz
          · have HK3 : Hid (∀ j, j < k + 1 → (decide (hs.getD j 0 = 0) || hasV (hs.take j) (hs.getD j 0)) = false) := HK2.out rfl
            go_wp2
            go_roundw
            case rel => exact ⟨k + 1, by omega, by go_num, HK3, T8, OU2⟩
            case measure => simp [intOf]; omega
          · have HV : Hid (contraV c l1 l2 l3 = true) := HHIT.out rfl
            go_wp2
            go_ret
            exact ⟨by rw [HE.out, HV.out]; rfl, L9⟩
        · have HV : Hid (contraV c l1 l2 l3 = false) := by unfold Hid; rw [HA.out]; exact dup_none (fun j hj => HK.out j (by have := hn2.out; omega))
          have hge2 : ¬ ((k : Int) < (n : Int)) := by omega
          go_wp2
          go_ret
          exact ⟨by rw [HE.out, HV.out]; rfl, L8⟩

end Go.Proofs.Ytphchdjbhbmnbaa
