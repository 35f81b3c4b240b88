/-
  The contract of impl.Without.
-/
import Derived.Test.YtfplloabkceaoaaWt0
import Derived.Deep.RegionHeld3
import Derived.Deep.DeepCutAuto
namespace Go.Proofs.Ytfplloabkceaoaa
open Go.RowKit
set_option linter.unusedVariables false

def wthL (l : List (Int × Int)) (kind : Int) (j : Nat) (i : Int) : List (Int × Int) := if kind = j then l.take i.toNat ++ l.drop (i.toNat + 1) else l
def wthB (l0 l1 l2 l3 : List (Int × Int)) (kind i : Int) : Bool := asnB l0 l1 l2 l3 && (decide (0 ≤ kind ∧ kind ≤ 3) && decide (0 ≤ i ∧ i < (kindL l0 l1 l2 l3 kind).length))
def kindO (a0 a1 a2 a3 : Option Addr) (k : Int) : Option Addr := if k = 0 then a0 else if k = 1 then a1 else if k = 2 then a2 else a3

theorem kind_prow {w : World} {a0 a1 a2 a3 : Option Addr} {c0 c1 c2 c3 : Nat} {l0 l1 l2 l3 : List (Int × Int)} (r0 : PRow w a0 l0) (r1 : PRow w a1 l1) (r2 : PRow w a2 l2) (r3 : PRow w a3 l3) (n0 : l0.length ≤ 1048576) (n1 : l1.length ≤ 1048576) (n2 : l2.length ≤ 1048576) (n3 : l3.length ≤ 1048576) (z0 : CapZ a0 l0.length c0) (z1 : CapZ a1 l1.length c1) (z2 : CapZ a2 l2.length c2) (z3 : CapZ a3 l3.length c3) (k : Int) :
    PRow w (kindO a0 a1 a2 a3 k) (kindL l0 l1 l2 l3 k) ∧ (kindL l0 l1 l2 l3 k).length ≤ 1048576 ∧ CapZ (kindO a0 a1 a2 a3 k) (kindL l0 l1 l2 l3 k).length (kindB c0 c1 c2 c3 k) := by
  unfold kindO kindL kindB
  split
  · exact ⟨r0, n0, z0⟩
  · split
    · exact ⟨r1, n1, z1⟩
    · split
      · exact ⟨r2, n2, z2⟩
      · exact ⟨r3, n3, z3⟩

theorem wth_at (l0 l1 l2 l3 : List (Int × Int)) (kind i : Int) (q : Nat) (hq : q < 4) : (if kind = q then (kindL l0 l1 l2 l3 q).take i.toNat ++ (kindL l0 l1 l2 l3 q).drop (i.toNat + 1) else kindL l0 l1 l2 l3 q) = wthL (kindL l0 l1 l2 l3 q) kind q i := rfl

theorem PRow.out2 {lo hi : Nat} {w w' : World} {a : Option Addr} {l : List (Int × Int)} (h : PRow w a l) (ho : Out lo hi w w') (hr : ∀ p, a = some p → l ≠ [] → p.block < lo) : PRow w' a l := by
  by_cases e : l = []
  · exact .inl e
  · rcases h with h | ⟨b, off, rfl, hlt, hc⟩
    · exact .inl h
    · have hb := hr _ rfl e
      have e : ∀ o, w'.cell? ⟨b, o, none⟩ = w.cell? ⟨b, o, none⟩ := fun o => World.cell?_of_block (w := w) (ho.block b hlt (.inl hb))
      refine .inr ⟨b, off, rfl, Nat.lt_of_lt_of_le hlt ho.size, fun i hi => ?_⟩
      rw [e, e]; exact hc i hi
theorem VRow.out3 {lo hi : Nat} {w w' : World} {b : Nat} {V : Nat → Value} (h : VRow w b V) (ho : Out lo hi w w') (hr : b < lo ∨ hi ≤ b) : VRow w' b V :=
  ⟨Nat.lt_of_lt_of_le h.1 ho.size, fun j hj => by
    rw [World.cell?_of_block (w := w) (ho.block b h.1 hr), World.frozen?_of_block (w := w) (ho.block b h.1 hr)]; exact h.2 j hj⟩
theorem PRow.lt {w : World} {a : Option Addr} {l : List (Int × Int)} (h : PRow w a l) : ∀ p, a = some p → l ≠ [] → p.block < w.heap.size := by
  intro p hp hl
  rcases h with h | ⟨b, off, rfl, hlt, _⟩
  · exact absurd h hl
  · cases hp; exact hlt

set_option maxRecDepth 20000 in
set_option maxHeartbeats 8000000 in
theorem iWithout_any (a0 a1 a2 a3 : Option Addr) (c0 c1 c2 c3 : Nat) (l0 l1 l2 l3 : List (Int × Int)) (kind i : Int) (w : World) (n0 : l0.length ≤ 1048576) (n1 : l1.length ≤ 1048576) (n2 : l2.length ≤ 1048576) (n3 : l3.length ≤ 1048576) (r0 : PRow w a0 l0) (r1 : PRow w a1 l1) (r2 : PRow w a2 l2) (r3 : PRow w a3 l3) (z0 : CapZ a0 l0.length c0) (z1 : CapZ a1 l1.length c1) (z2 : CapZ a2 l2.length c2) (z3 : CapZ a3 l3.length c3) :
    Calls Try.prog 58 #[.agg #[.slice a0 l0.length c0, .slice a1 l1.length c1, .slice a2 l2.length c2, .slice a3 l3.length c3], .int .i64 kind, .int .i64 i] w fun e w' => ∃ p0 p1 p2 p3 q0 q1 q2 q3, e = .returned (.tuple #[.agg #[.slice p0 (okL (wthB l0 l1 l2 l3 kind i) (wthL l0 kind 0 i)).length q0, .slice p1 (okL (wthB l0 l1 l2 l3 kind i) (wthL l1 kind 1 i)).length q1, .slice p2 (okL (wthB l0 l1 l2 l3 kind i) (wthL l2 kind 2 i)).length q2, .slice p3 (okL (wthB l0 l1 l2 l3 kind i) (wthL l3 kind 3 i)).length q3], .bool (wthB l0 l1 l2 l3 kind i)]) ∧ Four w' w.heap.size w'.heap.size p0 p1 p2 p3 (okL (wthB l0 l1 l2 l3 kind i) (wthL l0 kind 0 i)).length (okL (wthB l0 l1 l2 l3 kind i) (wthL l1 kind 1 i)).length (okL (wthB l0 l1 l2 l3 kind i) (wthL l2 kind 2 i)).length (okL (wthB l0 l1 l2 l3 kind i) (wthL l3 kind 3 i)).length (okL (wthB l0 l1 l2 l3 kind i) (wthL l0 kind 0 i)) (okL (wthB l0 l1 l2 l3 kind i) (wthL l1 kind 1 i)) (okL (wthB l0 l1 l2 l3 kind i) (wthL l2 kind 2 i)) (okL (wthB l0 l1 l2 l3 kind i) (wthL l3 kind 3 i)) ∧ (CapZ p0 (okL (wthB l0 l1 l2 l3 kind i) (wthL l0 kind 0 i)).length q0 ∧ CapZ p1 (okL (wthB l0 l1 l2 l3 kind i) (wthL l1 kind 1 i)).length q1 ∧ CapZ p2 (okL (wthB l0 l1 l2 l3 kind i) (wthL l2 kind 2 i)).length q2 ∧ CapZ p3 (okL (wthB l0 l1 l2 l3 kind i) (wthL l3 kind 3 i)).length q3) ∧ Below w.heap.size w w' := by
  have A0 := (Box.new w (.slice a0 l0.length c0) (.slice a1 l1.length c1) (.slice a2 l2.length c2) (.slice a3 l3.length c3) 28).alloc (.cells #[.slice none 0 0, .slice none 0 0, .slice none 0 0, .slice none 0 0] 28)
  have R0 := Box.new (w.alloc (.cells #[.slice a0 l0.length c0, .slice a1 l1.length c1, .slice a2 l2.length c2, .slice a3 l3.length c3] 28)) (.slice none 0 0) (.slice none 0 0) (.slice none 0 0) (.slice none 0 0) 28
  rw [World.size_alloc] at R0
  have L0 : Below w.heap.size w ((w.alloc (.cells #[.slice a0 l0.length c0, .slice a1 l1.length c1, .slice a2 l2.length c2, .slice a3 l3.length c3] 28)).alloc (.cells #[.slice none 0 0, .slice none 0 0, .slice none 0 0, .slice none 0 0] 28)) := ((Below.refl _ _).alloc (Nat.le_refl _) _).alloc (by simp) _
  have KR := kind_prow r0 r1 r2 r3 n0 n1 n2 n3 z0 z1 z2 z3
  have HK : Hid (∀ k : Int, PRow w (kindO a0 a1 a2 a3 k) (kindL l0 l1 l2 l3 k) ∧ (kindL l0 l1 l2 l3 k).length ≤ 1048576 ∧ CapZ (kindO a0 a1 a2 a3 k) (kindL l0 l1 l2 l3 k).length (kindB c0 c1 c2 c3 k)) := KR
  clear KR
  replace r0 := r0.below L0 (Nat.le_refl _); replace r1 := r1.below L0 (Nat.le_refl _); replace r2 := r2.below L0 (Nat.le_refl _); replace r3 := r3.below L0 (Nat.le_refl _)
  go_enter Try.func58, Try.ntmps58
  go_wp2_with fail
  refine (iAsnOk_any _ _ _ _ _ _ _ _ _ _ _ _ _ n0 n1 n2 n3 (by exact r0) (by exact r1) (by exact r2) (by exact r3)).mono ?_
  rintro e w1 ⟨rfl, hb⟩
  replace A0 := A0.below hb A0.lt; replace R0 := R0.below hb R0.lt; replace L0 := L0.trans (hb.mono L0.size)
  clear hb r0 r1 r2 r3
  have A0c0 := A0.c0; have A0c1 := A0.c1; have A0c2 := A0.c2; have A0c3 := A0.c3
  cases h1 : asnB l0 l1 l2 l3
  · have HE : Hid ((wthB l0 l1 l2 l3 kind i) = false) := by show (wthB l0 l1 l2 l3 kind i) = false; unfold wthB; rw [h1]; rfl
    obtain ⟨F, FO⟩ := R0.fill (.slice none 0 0) (.slice none 0 0) (.slice none 0 0) (.slice none 0 0)
    have j0' := R0.c0; have j1' := R0.c1; have j2' := R0.c2; have j3' := R0.c3
    have g0 := R0.f0; have g1 := R0.f1; have g2 := R0.f2; have g3 := R0.f3
    go_wp2
    have i0 := F.c0; have i1 := F.c1; have i2 := F.c2; have i3 := F.c3
    refine bodyPost_ret (v := .tuple #[.agg #[.slice none 0 0, .slice none 0 0, .slice none 0 0, .slice none 0 0], .bool false]) ?_ rfl ⟨none, none, none, none, 0, 0, 0, 0, by rw [HE.out]; rfl, ?_, ?_, ?_⟩
    · simp [results, Try.results58, go_sem, i0, i1, i2, i3]
    · rw [HE.out]; exact (Four.none _ w.heap.size).mono (Nat.le_refl _) (by have := FO.size; have := L0.size; omega)
    · rw [HE.out]; exact ⟨⟨fun _ => rfl, Nat.le_refl _⟩, ⟨fun _ => rfl, Nat.le_refl _⟩, ⟨fun _ => rfl, Nat.le_refl _⟩, ⟨fun _ => rfl, Nat.le_refl _⟩⟩
    · exact L0.trans (FO.below (by omega) L0.size)
  have H1 : Hid (asnB l0 l1 l2 l3 = true) := h1
  clear h1
  go_wp2_with fail
  refine (kindOk_any _ _).mono ?_
  rintro e w2 ⟨rfl, rfl⟩
  cases hk : kok kind
  · have HE : Hid ((wthB l0 l1 l2 l3 kind i) = false) := by show (wthB l0 l1 l2 l3 kind i) = false; unfold wthB; rw [H1.out, decide_eq_false (by simp [kok] at hk; omega)]; rfl
    obtain ⟨F, FO⟩ := R0.fill (.slice none 0 0) (.slice none 0 0) (.slice none 0 0) (.slice none 0 0)
    have j0' := R0.c0; have j1' := R0.c1; have j2' := R0.c2; have j3' := R0.c3
    have g0 := R0.f0; have g1 := R0.f1; have g2 := R0.f2; have g3 := R0.f3
    go_wp2
    have i0 := F.c0; have i1 := F.c1; have i2 := F.c2; have i3 := F.c3
    refine bodyPost_ret (v := .tuple #[.agg #[.slice none 0 0, .slice none 0 0, .slice none 0 0, .slice none 0 0], .bool false]) ?_ rfl ⟨none, none, none, none, 0, 0, 0, 0, by rw [HE.out]; rfl, ?_, ?_, ?_⟩
    · simp [results, Try.results58, go_sem, i0, i1, i2, i3]
    · rw [HE.out]; exact (Four.none _ w.heap.size).mono (Nat.le_refl _) (by have := FO.size; have := L0.size; omega)
    · rw [HE.out]; exact ⟨⟨fun _ => rfl, Nat.le_refl _⟩, ⟨fun _ => rfl, Nat.le_refl _⟩, ⟨fun _ => rfl, Nat.le_refl _⟩, ⟨fun _ => rfl, Nat.le_refl _⟩⟩
    · exact L0.trans (FO.below (by omega) L0.size)
  obtain ⟨kd0, kd3⟩ : 0 ≤ kind ∧ kind < 4 := by simpa [kok] using hk
  clear hk
  obtain ⟨kk, rfl⟩ := Int.eq_ofNat_of_zero_le kd0
  have kk4 : kk < 4 := by omega
  have zR := R0.lt
  go_wp2_with fail
  clear A0c0 A0c1 A0c2 A0c3
  refine (listsOf_any _ _ _ _ _ ⟨_, _, _, rfl⟩ ⟨_, _, _, rfl⟩ ⟨_, _, _, rfl⟩ ⟨_, _, _, rfl⟩).mono ?_
  rintro e wx ⟨rfl, hb⟩
  replace A0 := A0.below hb A0.lt; replace R0 := R0.below hb R0.lt; replace L0 := L0.trans (hb.mono L0.size)
  have zx := hb.size
  clear hb
  have V1 := VRow.new wx (.slice a0 l0.length c0) (.slice a1 l1.length c1) (.slice a2 l2.length c2) (.slice a3 l3.length c3) 88 (fun j => .slice (kindO a0 a1 a2 a3 j) (kindL l0 l1 l2 l3 j).length (kindB c0 c1 c2 c3 j)) rfl rfl rfl rfl
  have al : Below wx.heap.size wx (wx.alloc (.cells #[.slice a0 l0.length c0, .slice a1 l1.length c1, .slice a2 l2.length c2, .slice a3 l3.length c3] 88)) := (Below.refl _ _).alloc (Nat.le_refl _) _
  replace A0 := A0.below al A0.lt; replace R0 := R0.below al R0.lt; replace L0 := L0.trans (al.mono L0.size)
  clear al
  have za : (wx.alloc (.cells #[.slice a0 l0.length c0, .slice a1 l1.length c1, .slice a2 l2.length c2, .slice a3 l3.length c3] 88)).heap.size = wx.heap.size + 1 := by simp
  have hcK := (V1.2 kk kk4).1
  have hk4 : (kk : Int) < 4 := by omega
  obtain ⟨rK, nK, zK⟩ := HK.out kk
  by_cases hi0 : i < 0
  · have HE : Hid ((wthB l0 l1 l2 l3 (kk : Int) i) = false) := by show (wthB l0 l1 l2 l3 (kk : Int) i) = false; unfold wthB; rw [decide_eq_false (p := 0 ≤ i ∧ _) (by omega)]; simp
    obtain ⟨F, FO⟩ := R0.fill (.slice none 0 0) (.slice none 0 0) (.slice none 0 0) (.slice none 0 0)
    have j0' := R0.c0; have j1' := R0.c1; have j2' := R0.c2; have j3' := R0.c3
    have g0 := R0.f0; have g1 := R0.f1; have g2 := R0.f2; have g3 := R0.f3
    go_wp2
    have i0 := F.c0; have i1 := F.c1; have i2 := F.c2; have i3 := F.c3
    refine bodyPost_ret (v := .tuple #[.agg #[.slice none 0 0, .slice none 0 0, .slice none 0 0, .slice none 0 0], .bool false]) ?_ rfl ⟨none, none, none, none, 0, 0, 0, 0, by rw [HE.out]; rfl, ?_, ?_, ?_⟩
    · simp [results, Try.results58, go_sem, i0, i1, i2, i3]
    · rw [HE.out]; exact (Four.none _ w.heap.size).mono (Nat.le_refl _) (by have := FO.size; have := L0.size; omega)
    · rw [HE.out]; exact ⟨⟨fun _ => rfl, Nat.le_refl _⟩, ⟨fun _ => rfl, Nat.le_refl _⟩, ⟨fun _ => rfl, Nat.le_refl _⟩, ⟨fun _ => rfl, Nat.le_refl _⟩⟩
    · exact L0.trans (FO.below (by omega) L0.size)
  by_cases hi1 : ((kindL l0 l1 l2 l3 kk).length : Int) ≤ i
  · have HE : Hid ((wthB l0 l1 l2 l3 (kk : Int) i) = false) := by show (wthB l0 l1 l2 l3 (kk : Int) i) = false; unfold wthB; rw [decide_eq_false (p := 0 ≤ i ∧ _) (by omega)]; simp
    obtain ⟨F, FO⟩ := R0.fill (.slice none 0 0) (.slice none 0 0) (.slice none 0 0) (.slice none 0 0)
    have j0' := R0.c0; have j1' := R0.c1; have j2' := R0.c2; have j3' := R0.c3
    have g0 := R0.f0; have g1 := R0.f1; have g2 := R0.f2; have g3 := R0.f3
    go_wp2
    have i0 := F.c0; have i1 := F.c1; have i2 := F.c2; have i3 := F.c3
    refine bodyPost_ret (v := .tuple #[.agg #[.slice none 0 0, .slice none 0 0, .slice none 0 0, .slice none 0 0], .bool false]) ?_ rfl ⟨none, none, none, none, 0, 0, 0, 0, by rw [HE.out]; rfl, ?_, ?_, ?_⟩
    · simp [results, Try.results58, go_sem, i0, i1, i2, i3]
    · rw [HE.out]; exact (Four.none _ w.heap.size).mono (Nat.le_refl _) (by have := FO.size; have := L0.size; omega)
    · rw [HE.out]; exact ⟨⟨fun _ => rfl, Nat.le_refl _⟩, ⟨fun _ => rfl, Nat.le_refl _⟩, ⟨fun _ => rfl, Nat.le_refl _⟩, ⟨fun _ => rfl, Nat.le_refl _⟩⟩
    · exact L0.trans (FO.below (by omega) L0.size)
  obtain ⟨i, rfl⟩ := Int.eq_ofNat_of_zero_le (show 0 ≤ i by omega)
  have HE : Hid ((wthB l0 l1 l2 l3 (kk : Int) (i : Int)) = true) := by show (wthB l0 l1 l2 l3 (kk : Int) (i : Int)) = true; unfold wthB; rw [H1.out, decide_eq_true (by omega), decide_eq_true (by omega)]; rfl
  have hil : i < (kindL l0 l1 l2 l3 kk).length := by omega
  obtain ⟨bK, oK, eK⟩ : ∃ b off, (kindO a0 a1 a2 a3 kk) = some ⟨b, off, none⟩ := by
    rcases rK with h | ⟨b, off, h, _⟩
    · rw [h] at hil; simp at hil
    · exact ⟨b, off, h⟩
  have HX : Hid (∀ w : World, (Instr.slice 26 (.slice (kindO a0 a1 a2 a3 kk) (kindL l0 l1 l2 l3 kk).length (kindB c0 c1 c2 c3 kk)) none (some (.int .i64 (i : Int))) none).run Try.prog w = .ok (.slice (some ⟨bK, oK, none⟩) i (kindB c0 c1 c2 c3 kk)) w) := fun w => by rw [eK]; exact cut_hi bK oK _ _ i (by have := zK.2; omega) w
  have HY : Hid (∀ w : World, (Instr.slice 26 (.slice (kindO a0 a1 a2 a3 kk) (kindL l0 l1 l2 l3 kk).length (kindB c0 c1 c2 c3 kk)) (some (.int .i64 ((i : Int) + 1))) none none).run Try.prog w = .ok (.slice (some (dropA bK oK (kindB c0 c1 c2 c3 kk) (i + 1))) ((kindL l0 l1 l2 l3 kk).length - (i + 1)) ((kindB c0 c1 c2 c3 kk) - (i + 1))) w) := fun w => by rw [eK]; exact cut_lo bK oK _ _ (i + 1) (by omega) w
  have hbn : decide ((kindL l0 l1 l2 l3 kk).length ≤ i) = false := by simp; omega
  have hbz : decide ((i : Int) < 0) = false := by simp
  have hbm : decide ((((kindL l0 l1 l2 l3 kk).length : Nat) : Int) ≤ (i : Int)) = false := by simp; omega
  go_wp2
  have V3 := V1.below ((Below.refl _ _).alloc (Nat.le_refl _) (.cells #[.slice none 0 0, .slice none 0 0, .slice none 0 0, .slice none 0 0] 88)) V1.1
  have O3 := VRow.new (wx.alloc (.cells #[.slice a0 l0.length c0, .slice a1 l1.length c1, .slice a2 l2.length c2, .slice a3 l3.length c3] 88)) (.slice none 0 0) (.slice none 0 0) (.slice none 0 0) (.slice none 0 0) 88 (fun _ => .slice none 0 0) rfl rfl rfl rfl
  rw [za] at O3
  have al : Below (wx.alloc (.cells #[.slice a0 l0.length c0, .slice a1 l1.length c1, .slice a2 l2.length c2, .slice a3 l3.length c3] 88)).heap.size (wx.alloc (.cells #[.slice a0 l0.length c0, .slice a1 l1.length c1, .slice a2 l2.length c2, .slice a3 l3.length c3] 88)) ((wx.alloc (.cells #[.slice a0 l0.length c0, .slice a1 l1.length c1, .slice a2 l2.length c2, .slice a3 l3.length c3] 88)).alloc (.cells #[.slice none 0 0, .slice none 0 0, .slice none 0 0, .slice none 0 0] 88)) := (Below.refl _ _).alloc (Nat.le_refl _) _
  replace A0 := A0.below al A0.lt; replace R0 := R0.below al R0.lt; replace L0 := L0.trans (al.mono L0.size)
  clear al V1 hcK
  have zb : ((wx.alloc (.cells #[.slice a0 l0.length c0, .slice a1 l1.length c1, .slice a2 l2.length c2, .slice a3 l3.length c3] 88)).alloc (.cells #[.slice none 0 0, .slice none 0 0, .slice none 0 0, .slice none 0 0] 88)).heap.size = wx.heap.size + 1 + 1 := by simp
  generalize (wx.alloc (.cells #[.slice a0 l0.length c0, .slice a1 l1.length c1, .slice a2 l2.length c2, .slice a3 l3.length c3] 88)).alloc (.cells #[.slice none 0 0, .slice none 0 0, .slice none 0 0, .slice none 0 0] 88) = w3 at *
  have HK3 : Hid (∀ k : Int, PRow w3 (kindO a0 a1 a2 a3 k) (kindL l0 l1 l2 l3 k) ∧ (∀ p, (kindO a0 a1 a2 a3 k) = some p → (kindL l0 l1 l2 l3 k) ≠ [] → p.block < w.heap.size)) := fun k => ⟨(HK.out k).1.below L0 (Nat.le_refl _), (HK.out k).1.lt⟩
  have zw := L0.size
  clear za A0 rK
  generalize wx.heap.size = O at *
  go_loopw [33] (fun x wr => ∃ q : Nat, q ≤ 4 ∧ x = .int .i64 q ∧ ∃ V H, VRow wr O (fun j => .slice (kindO a0 a1 a2 a3 j) (kindL l0 l1 l2 l3 j).length (kindB c0 c1 c2 c3 j)) ∧ VRow wr (O + 1) V ∧ FilC (fun j => wthL (kindL l0 l1 l2 l3 (j : Int)) (kk : Int) j (i : Int)) w3.heap.size wr V H q ∧ Out (O + 1) (O + 1 + 1) w3 wr) (fun x _ => 4 - (intOf x).toNat)
  case atStart => exact ⟨0, Nat.zero_le _, rfl, _, _, V3, O3, FilC.start _ _ _, Out.refl _ _ _⟩
  case round =>
    obtain ⟨q, hq, rfl, V, H, hA, hV, hF, hO⟩ := hrel
    by_cases hlt : q < 4
    · obtain ⟨rl, nl, zl⟩ := HK.out q
      obtain ⟨rk, bl⟩ := HK3.out q
      replace rk := rk.out2 hO (fun p h1 h2 => by have := bl p h1 h2; omega)
      have HFS : Hid (∀ (w' : World) (a : Option Addr) (c : Nat), Out (O + 1) (O + 1 + 1) wr w' → RowIn w' wr.heap.size w'.heap.size a (wthL (kindL l0 l1 l2 l3 (q : Int)) (kk : Int) q (i : Int)).length (wthL (kindL l0 l1 l2 l3 (q : Int)) (kk : Int) q (i : Int)) → CapZ a (wthL (kindL l0 l1 l2 l3 (q : Int)) (kk : Int) q (i : Int)).length c → ∃ H', FilC (fun j => wthL (kindL l0 l1 l2 l3 (j : Int)) (kk : Int) j (i : Int)) w3.heap.size w' (fun j => if j = q then .slice a (wthL (kindL l0 l1 l2 l3 (q : Int)) (kk : Int) q (i : Int)).length c else V j) H' (q + 1)) := fun w' a c h1 h2 h3 => ⟨_, FilC.step (c := c) hF (by omega) h1 h2 h3⟩
      have hcO : wr.cell? ⟨O, q, none⟩ = some (.slice (kindO a0 a1 a2 a3 (q : Int)) (kindL l0 l1 l2 l3 (q : Int)).length (kindB c0 c1 c2 c3 (q : Int))) := (hA.2 q hlt).1
      have dO := (hV.2 q hlt).1; have eO := (hV.2 q hlt).2
      have hS : O + 1 < wr.heap.size := hV.1
      have hS0 : O < wr.heap.size := hA.1
      have hq4 : (q : Int) < 4 := by omega
      clear hF rl
      by_cases hqk : q = kk
      · subst hqk
        have hqe : ((q : Int) == (q : Int)) = true := by simp
        have hx := HX.out; have hy := HY.out
        rw [eK] at hx hy hcO rk
        clear HX HY
        have HL : Hid (wthL (kindL l0 l1 l2 l3 (q : Int)) (q : Int) q (i : Int) = (kindL l0 l1 l2 l3 (q : Int)).take i ++ (kindL l0 l1 l2 l3 (q : Int)).drop (i + 1)) := by show wthL _ _ _ _ = _; unfold wthL; rw [if_pos rfl]; rfl
        have e1 : ((kindL l0 l1 l2 l3 (q : Int)).take i).length = i := by rw [List.length_take]; omega
        have e2 : ((kindL l0 l1 l2 l3 (q : Int)).drop (i + 1)).length = (kindL l0 l1 l2 l3 (q : Int)).length - (i + 1) := by rw [List.length_drop]
        have rt := rk.take i
        have rd := drop_row (c := (kindB c0 c1 c2 c3 (q : Int))) rk (i + 1) zl.2
        have HLen : Hid ((wthL (kindL l0 l1 l2 l3 (q : Int)) (q : Int) q (i : Int)).length = i + ((kindL l0 l1 l2 l3 (q : Int)).length - (i + 1))) := by show List.length _ = _; rw [HL.out, List.length_append, e1, e2]
        generalize hTT : (kindL l0 l1 l2 l3 (q : Int)).take i = lt at *
        generalize hDD : (kindL l0 l1 l2 l3 (q : Int)).drop (i + 1) = ld at *
        have HTT : Hid ((kindL l0 l1 l2 l3 (q : Int)).take i = lt) := hTT
        have HDD : Hid ((kindL l0 l1 l2 l3 (q : Int)).drop (i + 1) = ld) := hDD
        clear hTT hDD
        generalize (kindL l0 l1 l2 l3 (q : Int)).length = n at *
        generalize (kindB c0 c1 c2 c3 (q : Int)) = cc at *
        generalize dropA bK oK cc (i + 1) = ad at *
        have hb0 : Below wr.heap.size wr wr.drew := (Below.refl _ _).drew
        have hcD : wr.drew.cell? ⟨O, q, none⟩ = some (.slice (some ⟨bK, oK, none⟩) n cc) := hcO
        replace rt := rt.below hb0 (Nat.le_refl _); replace rd := rd.below hb0 (Nat.le_refl _)
        have hwr : IntKind.i64.wrap ((i : Int) + 1) = (i : Int) + 1 := by rw [IntKind.wrap_i64]; omega
        go_wp2
        go_region_held3 (fun W => W.cell? ⟨O, q, none⟩ = some (.slice (some ⟨bK, oK, none⟩) n cc))
          (first | exact hcD | assumption | (rw [World.cell?_setCell_other _ _ _ _ (by intro h; injection h with h1; omega)]; assumption) | go_keep)
          (first | (go_at_call 139; refine (behind_cap _ _ _ _ _ _ lt ld _ e1 e2 (by omega) rt rd (by intro e; cases e) (by intro e; cases e)).mono ?_; rintro e w4 ⟨a, cq, rfl, hr, hz, hb⟩; replace hb := hb0.trans hb; have hA4 := hA.below hb hA.1; have hV4 := hV.below hb hV.1; have cA : w4.cell? ⟨O, q, none⟩ = some (.slice (some ⟨bK, oK, none⟩) n cc) := (by rw [hb.cell (p := ⟨O, q, none⟩) hS0]; exact hcO); have cO := (hV4.2 q hlt).1; have fO := (hV4.2 q hlt).2))
        all_goals
          have hO4 : Out (O + 1) (O + 1 + 1) wr (w4.setCell ⟨O + 1, q, none⟩ (.slice a (i + (n - (i + 1))) cq)) := (Out.ofBelow hb).trans (Out.set (O + 1) q w4 _)
          have hA5 := hA4.out3 (Out.set (O + 1) q w4 (.slice a (i + (n - (i + 1))) cq)) (.inl (by omega))
          have hV5 := hV4.put q (.slice a (i + (n - (i + 1))) cq)
          have hr5 := hr.out (Out.set (O + 1) q w4 (.slice a (i + (n - (i + 1))) cq)) (.inr (by first | omega | (simp; omega)))
          obtain ⟨H', hF'⟩ := HFS.out _ a cq hO4 (by rw [HLen.out, HL.out]; simpa using hr5) (by rw [HLen.out]; exact hz)
          rw [HLen.out] at hF'
          have HF' := (show Hid (FilC (fun j => wthL (kindL l0 l1 l2 l3 (j : Int)) (q : Int) j (i : Int)) w3.heap.size (w4.setCell ⟨O + 1, q, none⟩ (.slice a (i + (n - (i + 1))) cq)) (fun j => if j = q then .slice a (i + (n - (i + 1))) cq else V j) H' (q + 1)) from hF')
          have HO5 : Hid (Out (O + 1) (O + 1 + 1) w3 (w4.setCell ⟨O + 1, q, none⟩ (.slice a (i + (n - (i + 1))) cq))) := hO.trans hO4
          have HV5 : Hid (VRow (w4.setCell ⟨O + 1, q, none⟩ (.slice a (i + (n - (i + 1))) cq)) (O + 1) (fun j => if j = q then .slice a (i + (n - (i + 1))) cq else V j)) := hV5
          have HA5 := (show Hid (VRow (w4.setCell ⟨O + 1, q, none⟩ (.slice a (i + (n - (i + 1))) cq)) O (fun j => .slice (kindO a0 a1 a2 a3 j) (kindL l0 l1 l2 l3 j).length (kindB c0 c1 c2 c3 j))) from hA5)
          clear hF' hr hr5 hb hV4 hV5 hV HFS hO4 hA4 hA5 hA
          go_wp2
          first
            | (go_roundw
               case rel => exact ⟨q + 1, by omega, by go_num, _, H', HA5.out, HV5.out, HF'.out, HO5.out⟩
               case measure => simp [intOf]; omega)
            | (go_roundw
               case rel => (repeat apply Exists.intro); exact ⟨⟨q + 1, by omega, by go_num, _, H', HA5.out, HV5.out, HF'.out, HO5.out⟩, rfl⟩
               case measure => simp [intOf]; omega)
            | ((repeat apply Exists.intro); exact ⟨⟨q + 1, by omega, by go_num, _, H', HA5.out, HV5.out, HF'.out, HO5.out⟩, rfl⟩)
      · have hqe : ((q : Int) == (kk : Int)) = false := by simp; omega
        have HL : Hid (wthL (kindL l0 l1 l2 l3 (q : Int)) (kk : Int) q (i : Int) = (kindL l0 l1 l2 l3 (q : Int))) := by show wthL _ _ _ _ = _; unfold wthL; rw [if_neg (by omega)]
        have HLen : Hid ((wthL (kindL l0 l1 l2 l3 (q : Int)) (kk : Int) q (i : Int)).length = (kindL l0 l1 l2 l3 (q : Int)).length) := by show List.length _ = _; rw [HL.out]
        clear HX HY
        generalize hGG : (kindL l0 l1 l2 l3 (q : Int)) = lq at *
        have HGG : Hid ((kindL l0 l1 l2 l3 (q : Int)) = lq) := hGG
        clear hGG
        generalize (kindB c0 c1 c2 c3 (q : Int)) = cc at *
        generalize (kindO a0 a1 a2 a3 (q : Int)) = aq at *
        go_wp2_with fail
        refine (copy_cap _ _ _ lq _ rfl (by omega) (by exact rk) zl.1).mono ?_
        rintro e w4 ⟨a, cq, rfl, hr, hz, hb⟩
        have hA4 := hA.below hb hA.1; have hV4 := hV.below hb hV.1
        have cO := (hV4.2 q hlt).1; have fO := (hV4.2 q hlt).2
        have hO4 : Out (O + 1) (O + 1 + 1) wr (w4.setCell ⟨O + 1, q, none⟩ (.slice a lq.length cq)) := (Out.ofBelow hb).trans (Out.set (O + 1) q w4 _)
        have hA5 := hA4.out3 (Out.set (O + 1) q w4 (.slice a lq.length cq)) (.inl (by omega))
        have hV5 := hV4.put q (.slice a lq.length cq)
        have hr5 := hr.out (Out.set (O + 1) q w4 (.slice a lq.length cq)) (.inr (by first | omega | (simp; omega)))
        obtain ⟨H', hF'⟩ := HFS.out _ a cq hO4 (by rw [HLen.out, HL.out]; simpa using hr5) (by rw [HLen.out]; exact hz)
        rw [HLen.out] at hF'
        have HF' := (show Hid (FilC (fun j => wthL (kindL l0 l1 l2 l3 (j : Int)) (kk : Int) j (i : Int)) w3.heap.size (w4.setCell ⟨O + 1, q, none⟩ (.slice a lq.length cq)) (fun j => if j = q then .slice a lq.length cq else V j) H' (q + 1)) from hF')
        have HO5 : Hid (Out (O + 1) (O + 1 + 1) w3 (w4.setCell ⟨O + 1, q, none⟩ (.slice a lq.length cq))) := hO.trans hO4
        have HV5 : Hid (VRow (w4.setCell ⟨O + 1, q, none⟩ (.slice a lq.length cq)) (O + 1) (fun j => if j = q then .slice a lq.length cq else V j)) := hV5
        have HA5 := (show Hid (VRow (w4.setCell ⟨O + 1, q, none⟩ (.slice a lq.length cq)) O (fun j => .slice (kindO a0 a1 a2 a3 j) (kindL l0 l1 l2 l3 j).length (kindB c0 c1 c2 c3 j))) from hA5)
        clear hF' hr hr5 hb hV4 hV5 hV HFS hO4 hA4 hA5 hA
        go_wp2
        first
          | (go_roundw
             case rel => exact ⟨q + 1, by omega, by go_num, _, H', HA5.out, HV5.out, HF'.out, HO5.out⟩
             case measure => simp [intOf]; omega)
          | (go_roundw
             case rel => (repeat apply Exists.intro); exact ⟨⟨q + 1, by omega, by go_num, _, H', HA5.out, HV5.out, HF'.out, HO5.out⟩, rfl⟩
             case measure => simp [intOf]; omega)
          | ((repeat apply Exists.intro); exact ⟨⟨q + 1, by omega, by go_num, _, H', HA5.out, HV5.out, HF'.out, HO5.out⟩, rfl⟩)
    · obtain rfl : q = 4 := by omega
      obtain ⟨a0', a1', a2', a3', e0, e1, e2, e3, x0, x1, x2, x3, u0, u1, u2, u3, T⟩ := hF.done hV
      have R4 := R0.out hO (.inl (by omega))
      have L4 := L0.trans (hO.below (by have := L0.size; omega) L0.size)
      have zM := hO.size
      have zL := L0.size
      clear hF hV hA hO HK HK3 HX HY R0 L0
      try dsimp only at x0 x1 x2 x3 T u0 u1 u2 u3
      have s0 : wthL (kindL l0 l1 l2 l3 ((0 : Nat) : Int)) (kk : Int) 0 (i : Int) = wthL l0 (kk : Int) 0 (i : Int) := rfl
      have s1 : wthL (kindL l0 l1 l2 l3 ((1 : Nat) : Int)) (kk : Int) 1 (i : Int) = wthL l1 (kk : Int) 1 (i : Int) := rfl
      have s2 : wthL (kindL l0 l1 l2 l3 ((2 : Nat) : Int)) (kk : Int) 2 (i : Int) = wthL l2 (kk : Int) 2 (i : Int) := rfl
      have s3 : wthL (kindL l0 l1 l2 l3 ((3 : Nat) : Int)) (kk : Int) 3 (i : Int) = wthL l3 (kk : Int) 3 (i : Int) := rfl
      rw [s0] at x0 T u0; rw [s1] at x1 T u1; rw [s2] at x2 T u2; rw [s3] at x3 T u3
      clear s0 s1 s2 s3
      obtain ⟨v0, hv0⟩ : ∃ x, wthL l0 (kk : Int) 0 (i : Int) = x := ⟨_, rfl⟩
      obtain ⟨v1, hv1⟩ : ∃ x, wthL l1 (kk : Int) 1 (i : Int) = x := ⟨_, rfl⟩
      obtain ⟨v2, hv2⟩ : ∃ x, wthL l2 (kk : Int) 2 (i : Int) = x := ⟨_, rfl⟩
      obtain ⟨v3, hv3⟩ : ∃ x, wthL l3 (kk : Int) 3 (i : Int) = x := ⟨_, rfl⟩
      rw [hv0] at x0 T u0; rw [hv1] at x1 T u1; rw [hv2] at x2 T u2; rw [hv3] at x3 T u3
      have HX0 : Hid (wthL l0 (kk : Int) 0 (i : Int) = v0) := hv0
      have HX1 : Hid (wthL l1 (kk : Int) 1 (i : Int) = v1) := hv1
      have HX2 : Hid (wthL l2 (kk : Int) 2 (i : Int) = v2) := hv2
      have HX3 : Hid (wthL l3 (kk : Int) 3 (i : Int) = v3) := hv3
      clear hv0 hv1 hv2 hv3
      go_wp2_with fail
      refine (asnOf_any _ _ _ _ _ _ _ _ _ _ _ _ _).mono ?_
      rintro e w5 ⟨rfl, hb⟩
      have R5 := R4.below hb R4.lt
      have L5 := L4.trans (hb.mono L4.size)
      have zz := hb.size
      replace T := T.below hb (Nat.le_refl _)
      clear hb R4 L4 x0 x1 x2 x3
      obtain ⟨F, FO⟩ := R5.fill (.slice a0' v0.length e0) (.slice a1' v1.length e1) (.slice a2' v2.length e2) (.slice a3' v3.length e3)
      have j0' := R5.c0; have j1' := R5.c1; have j2' := R5.c2; have j3' := R5.c3
      have g0 := R5.f0; have g1 := R5.f1; have g2 := R5.f2; have g3 := R5.f3
      go_wp2
      have i0 := F.c0; have i1 := F.c1; have i2 := F.c2; have i3 := F.c3
      have fz := FO.size
      refine bodyPost_ret (v := .tuple #[.agg #[.slice a0' v0.length e0, .slice a1' v1.length e1, .slice a2' v2.length e2, .slice a3' v3.length e3], .bool true]) ?_ rfl ⟨a0', a1', a2', a3', e0, e1, e2, e3, by rw [HE.out, HX0.out, HX1.out, HX2.out, HX3.out]; rfl, ?_, ?_, ?_⟩
      · simp [results, Try.results58, go_sem, i0, i1, i2, i3]
      · rw [HE.out, HX0.out, HX1.out, HX2.out, HX3.out]; exact (T.out FO (.inr (by omega))).mono (by omega) (by omega)
      · rw [HE.out, HX0.out, HX1.out, HX2.out, HX3.out]; exact ⟨u0, u1, u2, u3⟩
      · exact L5.trans (FO.below (by omega) L5.size)

end Go.Proofs.Ytfplloabkceaoaa
