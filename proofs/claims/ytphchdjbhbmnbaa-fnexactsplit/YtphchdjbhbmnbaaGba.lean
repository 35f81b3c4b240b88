/-
  Plain lemmas and contracts of functions for the other texts of this seat: Sp0, Ss0, Xc, Ap, Fs, Sy.
-/
import Derived.Test.YtphchdjbhbmnbaaGaj
import Derived.Test.YtphchdjbhbmnbaaGaf
import Derived.Test.YtphchdjbhbmnbaaGag
import Derived.Deep.RegionHeld3
import Derived.Deep.DeepCutAuto
import Derived.Test.YtphchdjbhbmnbaaGab
namespace Go.Proofs.Ytphchdjbhbmnbaa
open Go.RowKit
set_option linter.unusedVariables false

def splB (l0 l1 l2 l3 : List (Int × Int)) (i : Int) : Bool := roomB l0 l1 l2 l3 && decide (0 ≤ i ∧ i < (l3.length : Int))
theorem splB_no {l0 l1 l2 l3 : List (Int × Int)} {i : Int} (h : splB l0 l1 l2 l3 i = false) (hr : roomB l0 l1 l2 l3 = true) : wthB l0 l1 l2 l3 3 i = false := by
  rw [wth3]
  unfold splB at h
  rw [hr, Bool.true_and] at h
  rw [h, Bool.and_false]

set_option maxRecDepth 20000 in
set_option maxHeartbeats 4000000 in
theorem iSplit_no (a0 a1 a2 a3 : Option Addr) (c0 c1 c2 c3 : Nat) (l0 l1 l2 l3 : List (Int × Int)) (i : Int) (w : World) (n0 : l0.length ≤ 1048576) (n1 : l1.length ≤ 1048576) (n2 : l2.length ≤ 1048576) (n3 : l3.length ≤ 1048576) (r0 : PRow w a0 l0) (r1 : PRow w a1 l1) (r2 : PRow w a2 l2) (r3 : PRow w a3 l3) (z0 : CapZ a0 l0.length c0) (z1 : CapZ a1 l1.length c1) (z2 : CapZ a2 l2.length c2) (z3 : CapZ a3 l3.length c3) (hB : splB l0 l1 l2 l3 i = false) :
    Calls Try.prog 96 #[.agg #[.slice a0 l0.length c0, .slice a1 l1.length c1, .slice a2 l2.length c2, .slice a3 l3.length c3], .int .i64 i] w fun e w' => e = .returned (.tuple #[.agg #[.slice none 0 0, .slice none 0 0, .slice none 0 0, .slice none 0 0], .agg #[.slice none 0 0, .slice none 0 0, .slice none 0 0, .slice none 0 0], .bool false]) ∧ Below w.heap.size w w' := by
  have HB : Hid (splB l0 l1 l2 l3 i = false) := hB
  clear hB
  have A0 := ((Box.new w (.slice a0 l0.length c0) (.slice a1 l1.length c1) (.slice a2 l2.length c2) (.slice a3 l3.length c3) 28).alloc (.cells #[.slice none 0 0, .slice none 0 0, .slice none 0 0, .slice none 0 0] 28)).alloc (.cells #[.slice none 0 0, .slice none 0 0, .slice none 0 0, .slice none 0 0] 28)
  have R0 := (Box.new (w.alloc (.cells #[.slice a0 l0.length c0, .slice a1 l1.length c1, .slice a2 l2.length c2, .slice a3 l3.length c3] 28)) (.slice none 0 0) (.slice none 0 0) (.slice none 0 0) (.slice none 0 0) 28).alloc (.cells #[.slice none 0 0, .slice none 0 0, .slice none 0 0, .slice none 0 0] 28)
  have Y0 := Box.new ((w.alloc (.cells #[.slice a0 l0.length c0, .slice a1 l1.length c1, .slice a2 l2.length c2, .slice a3 l3.length c3] 28)).alloc (.cells #[.slice none 0 0, .slice none 0 0, .slice none 0 0, .slice none 0 0] 28)) (.slice none 0 0) (.slice none 0 0) (.slice none 0 0) (.slice none 0 0) 28
  have L0 : Below w.heap.size w (((w.alloc (.cells #[.slice a0 l0.length c0, .slice a1 l1.length c1, .slice a2 l2.length c2, .slice a3 l3.length c3] 28)).alloc (.cells #[.slice none 0 0, .slice none 0 0, .slice none 0 0, .slice none 0 0] 28)).alloc (.cells #[.slice none 0 0, .slice none 0 0, .slice none 0 0, .slice none 0 0] 28)) := (((Below.refl _ _).alloc (Nat.le_refl _) _).alloc (by simp) _).alloc (by simp; omega) _
  rw [World.size_alloc] at R0 Y0
  rw [World.size_alloc] at Y0
  have A0c0 := A0.c0; have A0c1 := A0.c1; have A0c2 := A0.c2; have A0c3 := A0.c3
  go_enter Try.func96, Try.ntmps96
  go_upto_region 1 with fail
  replace r0 := r0.below L0 (Nat.le_refl _); replace r1 := r1.below L0 (Nat.le_refl _); replace r2 := r2.below L0 (Nat.le_refl _); replace r3 := r3.below L0 (Nat.le_refl _)
  generalize (((w.alloc (.cells #[.slice a0 l0.length c0, .slice a1 l1.length c1, .slice a2 l2.length c2, .slice a3 l3.length c3] 28)).alloc (.cells #[.slice none 0 0, .slice none 0 0, .slice none 0 0, .slice none 0 0] 28)).alloc (.cells #[.slice none 0 0, .slice none 0 0, .slice none 0 0, .slice none 0 0] 28)) = wB at *
  go_wp2_with fail
  refine (hasRoom_any _ _ _ _ _ _ _ _ l0 l1 l2 l3 _ n0 n1 n2 n3 r0 r1 r2 r3).mono ?_
  rintro e w1 ⟨rfl, hb⟩
  clear A0c0 A0c1 A0c2 A0c3
  replace A0 := A0.below hb A0.lt; replace R0 := R0.below hb R0.lt; replace Y0 := Y0.below hb Y0.lt; replace L0 := L0.trans (hb.mono L0.size)
  replace r0 := r0.below hb (Nat.le_refl _); replace r1 := r1.below hb (Nat.le_refl _); replace r2 := r2.below hb (Nat.le_refl _); replace r3 := r3.below hb (Nat.le_refl _)
  clear hb
  by_cases hr : roomB l0 l1 l2 l3 = true
  · rw [hr]
    have hw := splB_no HB.out hr
    have A0c0 := A0.c0; have A0c1 := A0.c1; have A0c2 := A0.c2; have A0c3 := A0.c3
    clear hr
    go_wp2_with fail
    refine (iWithout3_no a0 a1 a2 a3 c0 c1 c2 c3 l0 l1 l2 l3 i _ n0 n1 n2 n3 r0 r1 r2 r3 z0 z1 z2 z3 hw).mono ?_
    rintro e w2 ⟨p0, p1, p2, p3, q0, q1, q2, q3, rfl, hb⟩
    clear A0c0 A0c1 A0c2 A0c3
    have al : Below w2.heap.size w2 (w2.alloc (.cells #[.slice p0 0 q0, .slice p1 0 q1, .slice p2 0 q2, .slice p3 0 q3] 28)) := (Below.refl _ _).alloc (Nat.le_refl _) _
    have zz : w.heap.size + 1 < w2.heap.size := Nat.lt_of_lt_of_le R0.lt hb.size
    have zy : w.heap.size + 1 + 1 < w2.heap.size := Nat.lt_of_lt_of_le Y0.lt hb.size
    replace R0 := (R0.below hb R0.lt).below al zz; replace Y0 := (Y0.below hb Y0.lt).below al zy; replace L0 := (L0.trans (hb.mono L0.size)).trans (al.mono (Nat.le_trans L0.size hb.size))
    clear hb al A0 r0 r1 r2 r3 hw
    go_upto_region 4 with fail
    generalize w2.alloc (.cells #[.slice p0 0 q0, .slice p1 0 q1, .slice p2 0 q2, .slice p3 0 q3] 28) = w3 at *
    obtain ⟨F, FO⟩ := R0.fill (.slice none 0 0) (.slice none 0 0) (.slice none 0 0) (.slice none 0 0)
    have Y1 := Y0.out FO (.inr (by omega))
    have j0' := R0.c0; have j1' := R0.c1; have j2' := R0.c2; have j3' := R0.c3
    have g0 := R0.f0; have g1 := R0.f1; have g2 := R0.f2; have g3 := R0.f3
    have l0' := Y1.c0; have l1' := Y1.c1; have l2' := Y1.c2; have l3' := Y1.c3
    have h0' := Y1.f0; have h1' := Y1.f1; have h2' := Y1.f2; have h3' := Y1.f3
    obtain ⟨G, GO⟩ := Y1.fill (.slice none 0 0) (.slice none 0 0) (.slice none 0 0) (.slice none 0 0)
    have F1 := F.out GO (.inl (by omega))
    go_wp2
    have i0 := F1.c0; have i1 := F1.c1; have i2 := F1.c2; have i3 := F1.c3
    have k0 := G.c0; have k1 := G.c1; have k2 := G.c2; have k3 := G.c3
    refine bodyPost_ret (v := .tuple #[.agg #[.slice none 0 0, .slice none 0 0, .slice none 0 0, .slice none 0 0], .agg #[.slice none 0 0, .slice none 0 0, .slice none 0 0, .slice none 0 0], .bool false]) ?_ rfl ⟨rfl, ?_⟩
    · simp [results, Try.results96, go_sem, i0, i1, i2, i3, k0, k1, k2, k3]
    · exact (L0.trans (FO.below (by omega) L0.size)).trans (GO.below (by omega) (Nat.le_trans L0.size FO.size))
  · replace hr : roomB l0 l1 l2 l3 = false := by simpa using hr
    rw [hr]
    clear hr A0 r0 r1 r2 r3
    obtain ⟨F, FO⟩ := R0.fill (.slice none 0 0) (.slice none 0 0) (.slice none 0 0) (.slice none 0 0)
    have Y1 := Y0.out FO (.inr (by omega))
    have j0' := R0.c0; have j1' := R0.c1; have j2' := R0.c2; have j3' := R0.c3
    have g0 := R0.f0; have g1 := R0.f1; have g2 := R0.f2; have g3 := R0.f3
    have l0' := Y1.c0; have l1' := Y1.c1; have l2' := Y1.c2; have l3' := Y1.c3
    have h0' := Y1.f0; have h1' := Y1.f1; have h2' := Y1.f2; have h3' := Y1.f3
    obtain ⟨G, GO⟩ := Y1.fill (.slice none 0 0) (.slice none 0 0) (.slice none 0 0) (.slice none 0 0)
    have F1 := F.out GO (.inl (by omega))
    go_wp2
    have i0 := F1.c0; have i1 := F1.c1; have i2 := F1.c2; have i3 := F1.c3
    have k0 := G.c0; have k1 := G.c1; have k2 := G.c2; have k3 := G.c3
    refine bodyPost_ret (v := .tuple #[.agg #[.slice none 0 0, .slice none 0 0, .slice none 0 0, .slice none 0 0], .agg #[.slice none 0 0, .slice none 0 0, .slice none 0 0, .slice none 0 0], .bool false]) ?_ rfl ⟨rfl, ?_⟩
    · simp [results, Try.results96, go_sem, i0, i1, i2, i3, k0, k1, k2, k3]
    · exact (L0.trans (FO.below (by omega) L0.size)).trans (GO.below (by omega) (Nat.le_trans L0.size FO.size))

end Go.Proofs.Ytphchdjbhbmnbaa
namespace Go.Proofs.Ytphchdjbhbmnbaa
open Go.RowKit
set_option linter.unusedVariables false

set_option maxRecDepth 20000 in
set_option maxHeartbeats 4000000 in
theorem sSplit_no (a0 a1 a2 a3 : Option Addr) (c0 c1 c2 c3 : Nat) (l0 l1 l2 l3 : List (Int × Int)) (i : Int) (w : World) (n0 : l0.length ≤ 1048576) (n1 : l1.length ≤ 1048576) (n2 : l2.length ≤ 1048576) (n3 : l3.length ≤ 1048576) (r0 : PRow w a0 l0) (r1 : PRow w a1 l1) (r2 : PRow w a2 l2) (r3 : PRow w a3 l3) (hB : splB l0 l1 l2 l3 i = false) :
    Calls Try.prog 95 #[.agg #[.slice a0 l0.length c0, .slice a1 l1.length c1, .slice a2 l2.length c2, .slice a3 l3.length c3], .int .i64 i] w fun e w' => e = .returned (.tuple #[.agg #[.slice none 0 0, .slice none 0 0, .slice none 0 0, .slice none 0 0], .agg #[.slice none 0 0, .slice none 0 0, .slice none 0 0, .slice none 0 0], .bool false]) ∧ Below w.heap.size w w' := by
  have HB : Hid (splB l0 l1 l2 l3 i = false) := hB
  clear hB
  have A0 := ((Box.new w (.slice a0 l0.length c0) (.slice a1 l1.length c1) (.slice a2 l2.length c2) (.slice a3 l3.length c3) 28).alloc (.cells #[.slice none 0 0, .slice none 0 0, .slice none 0 0, .slice none 0 0] 28)).alloc (.cells #[.slice none 0 0, .slice none 0 0, .slice none 0 0, .slice none 0 0] 28)
  have R0 := (Box.new (w.alloc (.cells #[.slice a0 l0.length c0, .slice a1 l1.length c1, .slice a2 l2.length c2, .slice a3 l3.length c3] 28)) (.slice none 0 0) (.slice none 0 0) (.slice none 0 0) (.slice none 0 0) 28).alloc (.cells #[.slice none 0 0, .slice none 0 0, .slice none 0 0, .slice none 0 0] 28)
  have Y0 := Box.new ((w.alloc (.cells #[.slice a0 l0.length c0, .slice a1 l1.length c1, .slice a2 l2.length c2, .slice a3 l3.length c3] 28)).alloc (.cells #[.slice none 0 0, .slice none 0 0, .slice none 0 0, .slice none 0 0] 28)) (.slice none 0 0) (.slice none 0 0) (.slice none 0 0) (.slice none 0 0) 28
  have L0 : Below w.heap.size w (((w.alloc (.cells #[.slice a0 l0.length c0, .slice a1 l1.length c1, .slice a2 l2.length c2, .slice a3 l3.length c3] 28)).alloc (.cells #[.slice none 0 0, .slice none 0 0, .slice none 0 0, .slice none 0 0] 28)).alloc (.cells #[.slice none 0 0, .slice none 0 0, .slice none 0 0, .slice none 0 0] 28)) := (((Below.refl _ _).alloc (Nat.le_refl _) _).alloc (by simp) _).alloc (by simp; omega) _
  rw [World.size_alloc] at R0 Y0
  rw [World.size_alloc] at Y0
  have A0c0 := A0.c0; have A0c1 := A0.c1; have A0c2 := A0.c2; have A0c3 := A0.c3
  go_enter Try.func95, Try.ntmps95
  go_upto_region 1 with fail
  replace r0 := r0.below L0 (Nat.le_refl _); replace r1 := r1.below L0 (Nat.le_refl _); replace r2 := r2.below L0 (Nat.le_refl _); replace r3 := r3.below L0 (Nat.le_refl _)
  generalize (((w.alloc (.cells #[.slice a0 l0.length c0, .slice a1 l1.length c1, .slice a2 l2.length c2, .slice a3 l3.length c3] 28)).alloc (.cells #[.slice none 0 0, .slice none 0 0, .slice none 0 0, .slice none 0 0] 28)).alloc (.cells #[.slice none 0 0, .slice none 0 0, .slice none 0 0, .slice none 0 0] 28)) = wB at *
  go_wp2_with fail
  refine (l4room_any _ _ _ _ _ _ _ _ l0 l1 l2 l3 _ n0 n1 n2 n3 r0 r1 r2 r3).mono ?_
  rintro e w1 ⟨rfl, hb⟩
  clear A0c0 A0c1 A0c2 A0c3
  replace A0 := A0.below hb A0.lt; replace R0 := R0.below hb R0.lt; replace Y0 := Y0.below hb Y0.lt; replace L0 := L0.trans (hb.mono L0.size)
  clear hb r0 r1 r2 r3
  have A0c3 := A0.c3
  by_cases hr : roomB l0 l1 l2 l3 = true
  · rw [hr]
    have hi : i < 0 ∨ (l3.length : Int) ≤ i := by
      have h := HB.out
      unfold splB at h
      rw [hr, Bool.true_and, decide_eq_false_iff_not] at h
      omega
    clear hr
    by_cases hi0 : i < 0
    · clear hi
      obtain ⟨F, FO⟩ := R0.fill (.slice none 0 0) (.slice none 0 0) (.slice none 0 0) (.slice none 0 0)
      have Y1 := Y0.out FO (.inr (by omega))
      have j0' := R0.c0; have j1' := R0.c1; have j2' := R0.c2; have j3' := R0.c3
      have g0 := R0.f0; have g1 := R0.f1; have g2 := R0.f2; have g3 := R0.f3
      have l0' := Y1.c0; have l1' := Y1.c1; have l2' := Y1.c2; have l3' := Y1.c3
      have h0' := Y1.f0; have h1' := Y1.f1; have h2' := Y1.f2; have h3' := Y1.f3
      obtain ⟨G, GO⟩ := Y1.fill (.slice none 0 0) (.slice none 0 0) (.slice none 0 0) (.slice none 0 0)
      have F1 := F.out GO (.inl (by omega))
      go_wp2
      have i0 := F1.c0; have i1 := F1.c1; have i2 := F1.c2; have i3 := F1.c3
      have k0 := G.c0; have k1 := G.c1; have k2 := G.c2; have k3 := G.c3
      refine bodyPost_ret (v := .tuple #[.agg #[.slice none 0 0, .slice none 0 0, .slice none 0 0, .slice none 0 0], .agg #[.slice none 0 0, .slice none 0 0, .slice none 0 0, .slice none 0 0], .bool false]) ?_ rfl ⟨rfl, ?_⟩
      · simp [results, Try.results95, go_sem, i0, i1, i2, i3, k0, k1, k2, k3]
      · exact (L0.trans (FO.below (by omega) L0.size)).trans (GO.below (by omega) (Nat.le_trans L0.size FO.size))
    · have hi1 : (l3.length : Int) ≤ i := by omega
      clear hi
      obtain ⟨F, FO⟩ := R0.fill (.slice none 0 0) (.slice none 0 0) (.slice none 0 0) (.slice none 0 0)
      have Y1 := Y0.out FO (.inr (by omega))
      have j0' := R0.c0; have j1' := R0.c1; have j2' := R0.c2; have j3' := R0.c3
      have g0 := R0.f0; have g1 := R0.f1; have g2 := R0.f2; have g3 := R0.f3
      have l0' := Y1.c0; have l1' := Y1.c1; have l2' := Y1.c2; have l3' := Y1.c3
      have h0' := Y1.f0; have h1' := Y1.f1; have h2' := Y1.f2; have h3' := Y1.f3
      obtain ⟨G, GO⟩ := Y1.fill (.slice none 0 0) (.slice none 0 0) (.slice none 0 0) (.slice none 0 0)
      have F1 := F.out GO (.inl (by omega))
      go_wp2
      have i0 := F1.c0; have i1 := F1.c1; have i2 := F1.c2; have i3 := F1.c3
      have k0 := G.c0; have k1 := G.c1; have k2 := G.c2; have k3 := G.c3
      refine bodyPost_ret (v := .tuple #[.agg #[.slice none 0 0, .slice none 0 0, .slice none 0 0, .slice none 0 0], .agg #[.slice none 0 0, .slice none 0 0, .slice none 0 0, .slice none 0 0], .bool false]) ?_ rfl ⟨rfl, ?_⟩
      · simp [results, Try.results95, go_sem, i0, i1, i2, i3, k0, k1, k2, k3]
      · exact (L0.trans (FO.below (by omega) L0.size)).trans (GO.below (by omega) (Nat.le_trans L0.size FO.size))
  · replace hr : roomB l0 l1 l2 l3 = false := by simpa using hr
    rw [hr]
    clear hr
    obtain ⟨F, FO⟩ := R0.fill (.slice none 0 0) (.slice none 0 0) (.slice none 0 0) (.slice none 0 0)
    have Y1 := Y0.out FO (.inr (by omega))
    have j0' := R0.c0; have j1' := R0.c1; have j2' := R0.c2; have j3' := R0.c3
    have g0 := R0.f0; have g1 := R0.f1; have g2 := R0.f2; have g3 := R0.f3
    have l0' := Y1.c0; have l1' := Y1.c1; have l2' := Y1.c2; have l3' := Y1.c3
    have h0' := Y1.f0; have h1' := Y1.f1; have h2' := Y1.f2; have h3' := Y1.f3
    obtain ⟨G, GO⟩ := Y1.fill (.slice none 0 0) (.slice none 0 0) (.slice none 0 0) (.slice none 0 0)
    have F1 := F.out GO (.inl (by omega))
    go_wp2
    have i0 := F1.c0; have i1 := F1.c1; have i2 := F1.c2; have i3 := F1.c3
    have k0 := G.c0; have k1 := G.c1; have k2 := G.c2; have k3 := G.c3
    refine bodyPost_ret (v := .tuple #[.agg #[.slice none 0 0, .slice none 0 0, .slice none 0 0, .slice none 0 0], .agg #[.slice none 0 0, .slice none 0 0, .slice none 0 0, .slice none 0 0], .bool false]) ?_ rfl ⟨rfl, ?_⟩
    · simp [results, Try.results95, go_sem, i0, i1, i2, i3, k0, k1, k2, k3]
    · exact (L0.trans (FO.below (by omega) L0.size)).trans (GO.below (by omega) (Nat.le_trans L0.size FO.size))

end Go.Proofs.Ytphchdjbhbmnbaa
namespace Go.Proofs.Ytphchdjbhbmnbaa
open Go.RowKit
set_option linter.unusedVariables false

theorem getD_l {x y : List Int} {j : Nat} (h : j < x.length) : (x ++ y).getD j 0 = x.getD j 0 := by
  rw [List.getD_eq_getElem?_getD, List.getD_eq_getElem?_getD, List.getElem?_append_left h]
theorem getD_r {x y : List Int} {j : Nat} (h : x.length ≤ j) : (x ++ y).getD j 0 = y.getD (j - x.length) 0 := by
  rw [List.getD_eq_getElem?_getD, List.getD_eq_getElem?_getD, List.getElem?_append_right h]
theorem headsOf_at (c : List Int) {l : List (Int × Int)} {k : Nat} (hk : k < l.length) : (headsOf c l).getD k 0 = c.getD (l.getD k (0, 0)).1.toNat 0 := by
  simp [headsOf, hk]
theorem headsOf_length (c : List Int) (l : List (Int × Int)) : (headsOf c l).length = l.length := by simp [headsOf]
theorem idx_lt {l : List Int} {v : Int} (h : 0 ≤ idxV l v) : ∃ k : Nat, idxV l v = (k : Int) ∧ k < l.length ∧ l.getD k 0 = v ∧ ∀ j, j < k → ¬ l.getD j 0 = v := by
  unfold idxV at h ⊢
  cases hf : l.findIdx? (fun z => decide (z = v)) with
  | none => rw [hf] at h; simp at h
  | some k =>
    rw [List.findIdx?_eq_some_iff_getElem] at hf
    obtain ⟨h1, h2, h3⟩ := hf
    refine ⟨k, rfl, h1, by simpa [h1] using h2, fun j hj => ?_⟩
    have := h3 j hj
    have hjl : j < l.length := by omega
    simpa [hjl] using this
theorem idx_ge (l : List Int) (v : Int) : -1 ≤ idxV l v := by
  unfold idxV
  split <;> omega
theorem idx_neg {l : List Int} {v : Int} (h : idxV l v < 0) : ∀ j, j < l.length → ¬ l.getD j 0 = v := by
  intro j hj e
  have hh : hasV l v = true := by unfold hasV; rw [List.any_eq_true]; exact ⟨l[j], List.getElem_mem hj, by simpa [hj] using e⟩
  have := has_idx l v
  rw [hh] at this
  simp only [decide_eq_true_eq] at this
  omega
theorem idx_app1 {x y : List Int} {v : Int} (h : 0 ≤ idxV x v) : idxV (x ++ y) v = idxV x v := by
  obtain ⟨k, e, hk, hv, hn⟩ := idx_lt h
  rw [e]
  refine (idx_hit (by simp; omega) (fun j hj => ?_) ?_).1
  · have := hn j hj
    rwa [getD_l (by omega)]
  · rwa [getD_l hk]
theorem idx_app2 {x y : List Int} {v : Int} (h : idxV x v < 0) {k : Nat} (hy : idxV y v = (k : Int)) : idxV (x ++ y) v = ((x.length + k : Nat) : Int) := by
  obtain ⟨k', e, hk, hv, hn⟩ := idx_lt (l := y) (v := v) (by omega)
  obtain rfl : k' = k := by omega
  refine (idx_hit (by simp; omega) (fun j hj => ?_) ?_).1
  · by_cases hjx : j < x.length
    · rw [getD_l hjx]; exact idx_neg h j hjx
    · rw [getD_r (by omega)]; exact hn _ (by omega)
  · rw [getD_r (by omega)]
    rwa [show x.length + k' - x.length = k' by omega]
theorem idx_app3 {x y : List Int} {v : Int} (h : idxV x v < 0) (hy : idxV y v < 0) : idxV (x ++ y) v = -1 := by
  refine (idx_none (fun j hj => ?_)).1
  by_cases hjx : j < x.length
  · rw [getD_l hjx]; exact idx_neg h j hjx
  · rw [getD_r (by omega)]; exact idx_neg hy _ (by rw [List.length_append] at hj; omega)

set_option maxRecDepth 20000 in
set_option maxHeartbeats 2000000 in
theorem l7cell_any (a0 a1 a2 a3 : Option Addr) (c0 c1 c2 c3 : Nat) (l0 l1 l2 l3 : List (Int × Int)) (t : Nat) (ht : t < 16) (w : World) (n0 : l0.length ≤ 1048576) (n2 : l2.length ≤ 1048576) (t0 : toks l0 = true) (t2 : toks l2 = true) (r0 : PRow w a0 l0) (r2 : PRow w a2 l2) :
    Calls Try.prog 240 #[.agg #[.slice a0 l0.length c0, .slice a1 l1.length c1, .slice a2 l2.length c2, .slice a3 l3.length c3], .int .i64 t] w fun e w' => e = .returned (.int .i64 (idxV (headsOf (clsV l0) l2) ((clsV l0).getD t 0))) ∧ Below w.heap.size w w' := by
  have A0 := Box.new w (.slice a0 l0.length c0) (.slice a1 l1.length c1) (.slice a2 l2.length c2) (.slice a3 l3.length c3) 28
  have L0 : Below w.heap.size w (w.alloc (.cells #[.slice a0 l0.length c0, .slice a1 l1.length c1, .slice a2 l2.length c2, .slice a3 l3.length c3] 28)) := (Below.refl _ _).alloc (Nat.le_refl _) _
  go_enter Try.func240, Try.ntmps240
  have y0 := A0.c0; have y1 := A0.c1; have y2 := A0.c2; have y3 := A0.c3
  go_wp2_with fail
  clear y0 y1 y2 y3
  refine (l3classes_any _ _ _ _ _ _ _ _ l0 l1 l2 l3 _ n0 t0 (r0.below L0 (Nat.le_refl _))).mono ?_
  rintro e w1 ⟨b, cR, rfl, hzR, CO, hb⟩
  replace A0 := A0.below hb A0.lt; replace L0 := L0.trans (hb.mono L0.size)
  clear hb r0
  have HC := Cls.all t0
  obtain ⟨c, HCE⟩ : ∃ c, Hid (clsV l0 = c) := ⟨_, rfl⟩
  rw [HCE.out] at HC CO
  have HLEN : Hid ((headsOf c l2).length = l2.length) := headsOf_length c l2
  obtain ⟨v, hv⟩ : ∃ v, Hid (c.getD t 0 = v) := ⟨_, rfl⟩
  go_wp2
  go_loopw [6] (fun i wr => ∃ k : Nat, k ≤ l2.length ∧ i = .int .i64 k ∧ Hid (∀ j, j < k → ¬ (headsOf c l2).getD j 0 = v) ∧ OwnI wr b 16 c 16 ∧ Box wr w.heap.size (.slice a0 l0.length c0) (.slice a1 l1.length c1) (.slice a2 l2.length c2) (.slice a3 l3.length c3) ∧ Below w.heap.size w wr) (fun i _ => l2.length - (intOf i).toNat)
  case atStart => exact ⟨0, Nat.zero_le _, rfl, fun j hj => absurd hj (Nat.not_lt_zero _), CO, A0, L0⟩
  case round =>
    clear CO A0 L0
    obtain ⟨k, hk, rfl, HM, C, B, L⟩ := hrel
    have e2 := B.c2
    by_cases hltx : k < l2.length
    · rcases r2 with hnil | ⟨b2, off2, rfl, hb2, hcl2⟩
      · rw [hnil] at hltx; simp at hltx
      have hxq0 : wr.cell? ⟨b2, off2 + k * 2, none⟩ = some (.int .i64 (l2.getD k (0, 0)).1) := by rw [L.cell (p := ⟨b2, _, none⟩) hb2]; exact (hcl2 k hltx).1
      have hkn : (k : Int) < (l2.length : Int) := by omega
      have hk0' : (0 : Int) ≤ (k : Int) := by omega
      have htk := (toks_get t2 hltx).1
      have HAT : Hid ((headsOf c l2).getD k 0 = c.getD (l2.getD k (0, 0)).1.toNat 0) := headsOf_at c hltx
      generalize l2.getD k (0, 0) = p at *
      clear hcl2
      obtain ⟨q1, q2⟩ := htk
      obtain ⟨x, hx0, hx⟩ : ∃ x : Nat, p.1 = (x : Int) ∧ x < 16 := ⟨p.1.toNat, by omega, by omega⟩
      rw [hx0] at hxq0 HAT
      rw [Int.toNat_natCast] at HAT
      clear q1 q2 hx0
      have hxi : (x : Int) < 16 := by omega
      have hxz : (0 : Int) ≤ (x : Int) := by omega
      have hti : (t : Int) < 16 := by omega
      have htz : (0 : Int) ≤ (t : Int) := by omega
      have ex := C.2.2 x hx
      have et := C.2.2 t ht
      rw [hv.out] at et
      generalize c.getD x 0 = u at *
      go_upto_region 5 with fail
      have C2 := C.drew; have B2 := B.drew; have L2 := L.drew
      have hS0 : Below w.heap.size w wr.drew ∧ wr.drew.cell? ⟨w.heap.size, 2, none⟩ = some (.slice (some ⟨b2, off2, none⟩) l2.length c2) ∧ wr.drew.cell? ⟨b2, off2 + k * 2, none⟩ = some (.int .i64 x) ∧ wr.drew.cell? ⟨b, x, none⟩ = some (.int .i64 u) ∧ wr.drew.cell? ⟨b, t, none⟩ = some (.int .i64 v) := ⟨L2, e2, hxq0, ex, et⟩
      go_region_held3 (fun w' => Below w.heap.size w w' ∧ w'.cell? ⟨w.heap.size, 2, none⟩ = some (.slice (some ⟨b2, off2, none⟩) l2.length c2) ∧ w'.cell? ⟨b2, off2 + k * 2, none⟩ = some (.int .i64 x) ∧ w'.cell? ⟨b, x, none⟩ = some (.int .i64 u) ∧ w'.cell? ⟨b, t, none⟩ = some (.int .i64 v))
        (first | exact hS0 | assumption | (refine ⟨?_, ?_, ?_, ?_, ?_⟩ <;> assumption))
        (fail)
      clear hS0 C B L e2 hxq0 ex et
      generalize wr.drew = wd at *
      by_cases huv : u = v
      · have HR : Hid (idxV (headsOf c l2) (c.getD t 0) = (k : Int)) := by
          show idxV _ _ = _
          rw [hv.out]
          exact (idx_hit (by rw [HLEN.out]; exact hltx) HM.out (HAT.out.trans huv)).1
        subst huv
        go_wp2
        go_ret
        exact ⟨by rw [HCE.out, HR.out]; rfl, L2⟩
      · have HM2 : Hid (∀ j, j < k + 1 → ¬ (headsOf c l2).getD j 0 = v) := by
          intro j hj
          by_cases e : j = k
          · subst e; rw [HAT.out]; exact huv
          · exact HM.out j (by omega)
        go_wp2
        go_roundw
        case rel => exact ⟨k + 1, by omega, by go_num, HM2, C2, B2, L2⟩
        case measure => simp [intOf]; omega
    · have HR : Hid (idxV (headsOf c l2) (c.getD t 0) = -1) := by
        show idxV _ _ = _
        rw [hv.out]
        exact (idx_none (fun j hj => HM.out j (by rw [HLEN.out] at hj; omega))).1
      have hge : ¬ ((k : Int) < (l2.length : Int)) := by omega
      go_wp2
      go_ret
      exact ⟨by rw [HCE.out, ← List.getD_eq_getElem?_getD, HR.out]; rfl, L⟩

end Go.Proofs.Ytphchdjbhbmnbaa
namespace Go.Proofs.Ytphchdjbhbmnbaa
open Go.RowKit
set_option linter.unusedVariables false

def apB (c : List Int) (l1 l2 : List (Int × Int)) (x y : Nat) (but : Nat) : Bool := decide (c.getD y 0 = 0) || (amongV c l1 (c.getD x 0) (c.getD y 0) || hasV (headsOf c (l2.take but ++ l2.drop (but + 1))) (c.getD y 0))
theorem has_but {c : List Int} {l : List (Int × Int)} {but k : Nat} {v : Int} (hk : k < l.length) (hn : k ≠ but) (e : (headsOf c l).getD k 0 = v) : hasV (headsOf c (l.take but ++ l.drop (but + 1))) v = true := by
  unfold hasV
  rw [List.any_eq_true]
  refine ⟨v, ?_, by simp⟩
  rw [headsOf_at c hk] at e
  unfold headsOf
  rw [List.mem_map]
  refine ⟨l.getD k (0, 0), ?_, e⟩
  rw [List.getD_eq_getElem?_getD, List.getElem?_eq_getElem hk, Option.getD_some, List.mem_append]
  by_cases h : k < but
  · left
    rw [List.mem_take_iff_getElem]
    exact ⟨k, by omega, rfl⟩
  · right
    rw [List.mem_drop_iff_getElem]
    exact ⟨k - (but + 1), by omega, by simp only [show but + 1 + (k - (but + 1)) = k by omega]⟩
theorem has_but_no {c : List Int} {l : List (Int × Int)} {but : Nat} {v : Int} (h : ∀ k, k < l.length → k ≠ but → ¬ (headsOf c l).getD k 0 = v) : hasV (headsOf c (l.take but ++ l.drop (but + 1))) v = false := by
  unfold hasV
  rw [List.any_eq_false]
  intro z hz
  unfold headsOf at hz
  rw [List.mem_map] at hz
  obtain ⟨p, hp, rfl⟩ := hz
  rw [List.mem_append] at hp
  simp only [decide_eq_true_eq]
  rcases hp with hp | hp
  · rw [List.mem_take_iff_getElem] at hp
    obtain ⟨k, hk, rfl⟩ := hp
    have hk2 : k < l.length ∧ k < but := by have := Nat.lt_min.1 hk; exact ⟨this.2, this.1⟩
    have := h k hk2.1 (by omega)
    rw [headsOf_at c hk2.1, show l.getD k (0, 0) = l[k] by rw [List.getD_eq_getElem?_getD, List.getElem?_eq_getElem hk2.1]; rfl] at this
    exact this
  · rw [List.mem_drop_iff_getElem] at hp
    obtain ⟨k, hk, rfl⟩ := hp
    have hk3 : but + 1 + k < l.length := by omega
    have := h (but + 1 + k) hk3 (by omega)
    rw [headsOf_at c hk3, show l.getD (but + 1 + k) (0, 0) = l[but + 1 + k] by rw [List.getD_eq_getElem?_getD, List.getElem?_eq_getElem hk3]; rfl] at this
    exact this

set_option linter.unusedSimpArgs false in
set_option maxRecDepth 20000 in
set_option maxHeartbeats 4000000 in
theorem l4apart_any (a0 a1 a2 a3 : Option Addr) (c0 c1 c2 c3 : Nat) (l0 l1 l2 l3 : List (Int × Int)) (b cp : Nat) (c : List Int) (hc : Cls c) (x y but : Nat) (hx : x < 16) (hy : y < 16) (w : World) (n1 : l1.length ≤ 1048576) (n2 : l2.length ≤ 1048576) (t1 : toks l1 = true) (t2 : toks l2 = true) (r1 : PRow w a1 l1) (r2 : PRow w a2 l2) (CO : OwnI w b 16 c 16) :
    Calls Try.prog 179 #[.agg #[.slice a0 l0.length c0, .slice a1 l1.length c1, .slice a2 l2.length c2, .slice a3 l3.length c3], .slice (some ⟨b, 0, none⟩) 16 cp, .int .i64 x, .int .i64 y, .int .i64 but] w fun e w' => e = .returned (.bool (apB c l1 l2 x y but)) ∧ Below w.heap.size w w' := by
  have A0 := Box.new w (.slice a0 l0.length c0) (.slice a1 l1.length c1) (.slice a2 l2.length c2) (.slice a3 l3.length c3) 28
  have C0 := CO.alloc (.cells #[.slice a0 l0.length c0, .slice a1 l1.length c1, .slice a2 l2.length c2, .slice a3 l3.length c3] 28)
  have L0 : Below w.heap.size w (w.alloc (.cells #[.slice a0 l0.length c0, .slice a1 l1.length c1, .slice a2 l2.length c2, .slice a3 l3.length c3] 28)) := (Below.refl _ _).alloc (Nat.le_refl _) _
  obtain ⟨vx, hvx⟩ : ∃ v, Hid (c.getD x 0 = v) := ⟨_, rfl⟩
  obtain ⟨vy, hvy⟩ : ∃ v, Hid (c.getD y 0 = v) := ⟨_, rfl⟩
  have HV : Hid (apB c l1 l2 x y but = (decide (vy = 0) || (amongV c l1 vx vy || hasV (headsOf c (l2.take but ++ l2.drop (but + 1))) vy))) := by show apB _ _ _ _ _ _ = _; unfold apB; rw [hvx.out, hvy.out]
  have hxi : (x : Int) < 16 := by omega
  have hyi : (y : Int) < 16 := by omega
  have hxz : (0 : Int) ≤ (x : Int) := by omega
  have hyz : (0 : Int) ≤ (y : Int) := by omega
  have HLEN : Hid ((headsOf c l2).length = l2.length) := headsOf_length c l2
  clear CO
  go_enter Try.func179, Try.ntmps179
  have ex := C0.2.2 x hx
  have ey := C0.2.2 y hy
  rw [hvx.out] at ex
  rw [hvy.out] at ey
  by_cases hz : vy = 0
  · go_wp2
    go_ret
    exact ⟨by rw [HV.out]; simp [hz], L0⟩
  have hzb : (vy == 0) = false := by simp [hz]
  go_upto_region 4 with fail
  clear ex ey
  generalize w.alloc (.cells #[.slice a0 l0.length c0, .slice a1 l1.length c1, .slice a2 l2.length c2, .slice a3 l3.length c3] 28) = W at *
  go_loopw [11] (fun i wr => ∃ k : Nat, k ≤ l1.length ∧ i = .int .i64 k ∧ Hid (amongV c (l1.take k) vx vy = false) ∧ OwnI wr b 16 c 16 ∧ Box wr w.heap.size (.slice a0 l0.length c0) (.slice a1 l1.length c1) (.slice a2 l2.length c2) (.slice a3 l3.length c3) ∧ Below w.heap.size w wr) (fun i _ => l1.length - (intOf i).toNat)
  case atStart => exact ⟨0, Nat.zero_le _, rfl, rfl, C0, A0, L0⟩
  case round =>
    clear C0 A0 L0
    obtain ⟨k, hk, rfl, HM, C, B, L⟩ := hrel
    have e1 := B.c1
    have ex := C.2.2 x hx
    have ey := C.2.2 y hy
    rw [hvx.out] at ex
    rw [hvy.out] at ey
    by_cases hltx : k < l1.length
    · rcases r1 with hnil | ⟨b1, off1, rfl, hb1, hcl1⟩
      · rw [hnil] at hltx; simp at hltx
      have hq0 : wr.cell? ⟨b1, off1 + k * 2, none⟩ = some (.int .i64 (l1.getD k (0, 0)).1) := by rw [L.cell (p := ⟨b1, _, none⟩) hb1]; exact (hcl1 k hltx).1
      have hq1 : wr.cell? ⟨b1, off1 + k * 2 + 1, none⟩ = some (.int .i64 (l1.getD k (0, 0)).2) := by rw [L.cell (p := ⟨b1, _, none⟩) hb1]; exact (hcl1 k hltx).2
      have hkn : (k : Int) < (l1.length : Int) := by omega
      have hk0' : (0 : Int) ≤ (k : Int) := by omega
      have htk := toks_get t1 hltx
      have HHIT : Hid (pairIs (c.getD (l1.getD k (0, 0)).1.toNat 0) (c.getD (l1.getD k (0, 0)).2.toNat 0) vx vy = true → amongV c l1 vx vy = true) := fun h => among_hit hltx h
      have HST : Hid (amongV c (l1.take (k + 1)) vx vy = (amongV c (l1.take k) vx vy || pairIs (c.getD (l1.getD k (0, 0)).1.toNat 0) (c.getD (l1.getD k (0, 0)).2.toNat 0) vx vy)) := among_step c vx vy hltx
      generalize l1.getD k (0, 0) = p at *
      clear hcl1
      obtain ⟨⟨q1, q2⟩, q3, q4⟩ := htk
      obtain ⟨s, t, rfl, hs, hts⟩ : ∃ s t : Nat, p = ((s : Int), (t : Int)) ∧ s < 16 ∧ t < 16 := ⟨p.1.toNat, p.2.toNat, by rw [Int.toNat_of_nonneg q1, Int.toNat_of_nonneg q3], by omega, by omega⟩
      clear q1 q2 q3 q4
      dsimp only at hq0 hq1
      simp only [Int.toNat_natCast] at HHIT HST
      have hsa : (s : Int) < 16 := by omega
      have hta : (t : Int) < 16 := by omega
      have hsb : (0 : Int) ≤ (s : Int) := by omega
      have htb : (0 : Int) ≤ (t : Int) := by omega
      have ep := C.2.2 s hs
      have eq := C.2.2 t hts
      generalize c.getD s 0 = u at *
      generalize c.getD t 0 = z at *
      go_upto_region 6 with fail
      have hS0 : Below w.heap.size w wr.drew ∧ wr.drew.cell? ⟨w.heap.size, 1, none⟩ = some (.slice (some ⟨b1, off1, none⟩) l1.length c1) ∧ wr.drew.cell? ⟨b1, off1 + k * 2, none⟩ = some (.int .i64 s) ∧ wr.drew.cell? ⟨b1, off1 + k * 2 + 1, none⟩ = some (.int .i64 t) ∧ wr.drew.cell? ⟨b, s, none⟩ = some (.int .i64 u) ∧ wr.drew.cell? ⟨b, t, none⟩ = some (.int .i64 z) := ⟨L.drew, e1, hq0, hq1, ep, eq⟩
      have C2 := C.drew; have B2 := B.drew; have L2 := L.drew
      go_region_held3 (fun w' => Below w.heap.size w w' ∧ w'.cell? ⟨w.heap.size, 1, none⟩ = some (.slice (some ⟨b1, off1, none⟩) l1.length c1) ∧ w'.cell? ⟨b1, off1 + k * 2, none⟩ = some (.int .i64 s) ∧ w'.cell? ⟨b1, off1 + k * 2 + 1, none⟩ = some (.int .i64 t) ∧ w'.cell? ⟨b, s, none⟩ = some (.int .i64 u) ∧ w'.cell? ⟨b, t, none⟩ = some (.int .i64 z))
        (first | exact hS0 | assumption | (refine ⟨?_, ?_, ?_, ?_, ?_, ?_⟩ <;> assumption))
        (fail)
      clear hS0 C B L e1 hq0 hq1 ep eq ex ey
      generalize wr.drew = wd at *
      have ex := C2.2.2 x hx
      have ey := C2.2.2 y hy
      rw [hvx.out] at ex
      rw [hvy.out] at ey
      by_cases hh : pairIs u z vx vy = true
      · have HR : Hid (amongV c l1 vx vy = true) := HHIT.out hh
        have h := hh
        simp only [pairIs, decide_eq_true_eq] at h
        clear hh HST HM HHIT
        by_cases g1 : u = vx <;> by_cases g2 : z = vy <;> by_cases g3 : u = vy <;> by_cases g4 : z = vx
        all_goals first
          | (exfalso; omega)
          | (clear h
             go_wp2
             go_ret
             exact ⟨by rw [HV.out, HR.out]; simp, L2⟩)
      · have HM2 : Hid (amongV c (l1.take (k + 1)) vx vy = false) := by show _ = _; rw [HST.out, HM.out]; simpa using hh
        have h := hh
        simp only [pairIs, decide_eq_true_eq] at h
        clear hh HST HM HHIT
        by_cases g1 : u = vx <;> by_cases g2 : z = vy <;> by_cases g3 : u = vy <;> by_cases g4 : z = vx
        all_goals first
          | (exfalso; omega)
          | (clear h
             go_wp2
             first
               | (go_roundw
                  case rel => exact ⟨k + 1, by omega, by go_num, HM2, C2, B2, L2⟩
                  case measure => simp [intOf]; omega)
               | (go_roundw
                  case rel => (repeat apply Exists.intro); exact ⟨⟨k + 1, by omega, by go_num, HM2, C2, B2, L2⟩, rfl⟩
                  case measure => simp [intOf]; omega)
               | ((repeat apply Exists.intro); exact ⟨⟨k + 1, by omega, by go_num, HM2, C2, B2, L2⟩, rfl⟩))
    · have HN1 : Hid (amongV c l1 vx vy = false) := by show _ = _; have h := HM.out; rwa [show k = l1.length by omega, List.take_length] at h
      have hge : ¬ ((k : Int) < (l1.length : Int)) := by omega
      clear HM
      go_upto_region 10 with fail
      clear e1 ex ey
      go_loopw [14] (fun i wq => ∃ m : Nat, m ≤ l2.length ∧ i = .int .i64 m ∧ Hid (∀ j, j < m → j ≠ but → ¬ (headsOf c l2).getD j 0 = vy) ∧ OwnI wq b 16 c 16 ∧ Box wq w.heap.size (.slice a0 l0.length c0) (.slice a1 l1.length c1) (.slice a2 l2.length c2) (.slice a3 l3.length c3) ∧ Below w.heap.size w wq) (fun i _ => l2.length - (intOf i).toNat)
      case atStart => exact ⟨0, Nat.zero_le _, rfl, fun j hj => absurd hj (Nat.not_lt_zero _), C, B, L⟩
      case round =>
        clear C B L
        obtain ⟨m, hm, rfl, HM, C, B, L⟩ := hrel
        have e2 := B.c2
        by_cases hltm : m < l2.length
        · have hmn : (m : Int) < (l2.length : Int) := by omega
          have hm0' : (0 : Int) ≤ (m : Int) := by omega
          by_cases hmb : m = but
          · have hmi : (m : Int) = (but : Int) := by omega
            have HM2 : Hid (∀ j, j < m + 1 → j ≠ but → ¬ (headsOf c l2).getD j 0 = vy) := fun j hj hn => HM.out j (by omega) hn
            have C2 := C.drew; have B2 := B.drew; have L2 := L.drew
            have hne : ((m : Int) != (but : Int)) = false := by simp; omega
            go_upto_region 12 with fail
            refine wp_region_held_drew (S := fun w' => Below w.heap.size w w') (by kernel_rfl) L2 (fun _ => ?_)
            clear C B L e2
            generalize wr.drew = wd at *
            refine wpAnyH_take (i := 0) (v := .int .i64 (m : Int)) rfl (by kernel_rfl) (by kernel_rfl) (by kernel_rfl) (fun _ _ _ h => h) (Or.inl ⟨by rfl, ?_⟩) L2 ?_
            · intro w2 hSw; go_simp
            simp only [Act.put, List.setIfInBounds_toArray, List.set_cons_zero, List.set_cons_succ]
            refine wpAnyH_take (i := 1) (v := .int .i64 (but : Int)) rfl (by kernel_rfl) (by kernel_rfl) (by kernel_rfl) (fun _ _ _ h => h) (Or.inl ⟨by rfl, ?_⟩) L2 ?_
            · intro w2 hSw; go_simp
            simp only [Act.put, List.setIfInBounds_toArray, List.set_cons_zero, List.set_cons_succ]
            refine wpAnyH_take (i := 2) (v := .bool false) rfl (by kernel_rfl) (by kernel_rfl) (by kernel_rfl) (fun _ _ _ h => h) (Or.inl ⟨by rfl, ?_⟩) L2 ?_
            · intro w2 hSw; go_simp
            simp only [Act.put, List.setIfInBounds_toArray, List.set_cons_zero, List.set_cons_succ]
            refine wpAnyH_take (i := 3) (v := .bool false) rfl (by kernel_rfl) (by kernel_rfl) (by kernel_rfl) (fun _ _ _ h => h) (Or.inl ⟨by rfl, ?_⟩) L2 ?_
            · intro w2 hSw; go_simp
            simp only [Act.put, List.setIfInBounds_toArray, List.set_cons_zero, List.set_cons_succ]
            refine wpAnyH_take (i := 4) (v := undef) rfl (by kernel_rfl) (by kernel_rfl) (by kernel_rfl) (fun _ _ _ h => h) (Or.inr ⟨by simp [Region.wanted, yielded], rfl⟩) L2 ?_
            simp only [Act.put, List.setIfInBounds_toArray, List.set_cons_zero, List.set_cons_succ]
            refine wpAnyH_take (i := 5) (v := undef) rfl (by kernel_rfl) (by kernel_rfl) (by kernel_rfl) (fun _ _ _ h => h) (Or.inr ⟨by simp [Region.wanted, yielded], rfl⟩) L2 ?_
            simp only [Act.put, List.setIfInBounds_toArray, List.set_cons_zero, List.set_cons_succ]
            refine wpAnyH_take (i := 6) (v := undef) rfl (by kernel_rfl) (by kernel_rfl) (by kernel_rfl) (fun _ _ _ h => h) (Or.inr ⟨by simp [Region.wanted, yielded], rfl⟩) L2 ?_
            simp only [Act.put, List.setIfInBounds_toArray, List.set_cons_zero, List.set_cons_succ]
            refine wpAnyH_take (i := 7) (v := undef) rfl (by kernel_rfl) (by kernel_rfl) (by kernel_rfl) (fun _ _ _ h => h) (Or.inr ⟨by simp [Region.wanted, yielded], rfl⟩) L2 ?_
            simp only [Act.put, List.setIfInBounds_toArray, List.set_cons_zero, List.set_cons_succ]
            refine wpAnyH_take (i := 8) (v := undef) rfl (by kernel_rfl) (by kernel_rfl) (by kernel_rfl) (fun _ _ _ h => h) (Or.inr ⟨by simp [Region.wanted, yielded], rfl⟩) L2 ?_
            simp only [Act.put, List.setIfInBounds_toArray, List.set_cons_zero, List.set_cons_succ]
            refine wpAnyH_take (i := 9) (v := undef) rfl (by kernel_rfl) (by kernel_rfl) (by kernel_rfl) (fun _ _ _ h => h) (Or.inr ⟨by simp [Region.wanted, yielded], rfl⟩) L2 ?_
            simp only [Act.put, List.setIfInBounds_toArray, List.set_cons_zero, List.set_cons_succ]
            refine wpAnyH_take (i := 10) (v := undef) rfl (by kernel_rfl) (by kernel_rfl) (by kernel_rfl) (fun _ _ _ h => h) (Or.inr ⟨by simp [Region.wanted, yielded], rfl⟩) L2 ?_
            simp only [Act.put, List.setIfInBounds_toArray, List.set_cons_zero, List.set_cons_succ]
            refine wpAnyH_take (i := 11) (v := undef) rfl (by kernel_rfl) (by kernel_rfl) (by kernel_rfl) (fun _ _ _ h => h) (Or.inr ⟨by simp [Region.wanted, yielded], rfl⟩) L2 ?_
            simp only [Act.put, List.setIfInBounds_toArray, List.set_cons_zero, List.set_cons_succ]
            refine wpAnyH_take (i := 12) (v := undef) rfl (by kernel_rfl) (by kernel_rfl) (by kernel_rfl) (fun _ _ _ h => h) (Or.inr ⟨by simp [Region.wanted, yielded], rfl⟩) L2 ?_
            simp only [Act.put, List.setIfInBounds_toArray, List.set_cons_zero, List.set_cons_succ]
            refine wpAnyH_take (i := 13) (v := undef) rfl (by kernel_rfl) (by kernel_rfl) (by kernel_rfl) (fun _ _ _ h => h) (Or.inr ⟨by simp [Region.wanted, yielded], rfl⟩) L2 ?_
            simp only [Act.put, List.setIfInBounds_toArray, List.set_cons_zero, List.set_cons_succ]
            refine wpAnyH_take (i := 14) (v := undef) rfl (by kernel_rfl) (by kernel_rfl) (by kernel_rfl) (fun _ _ _ h => h) (Or.inr ⟨by simp [Region.wanted, yielded], rfl⟩) L2 ?_
            simp only [Act.put, List.setIfInBounds_toArray, List.set_cons_zero, List.set_cons_succ]
            refine wpAnyH_take (i := 15) (v := undef) rfl (by kernel_rfl) (by kernel_rfl) (by kernel_rfl) (fun _ _ _ h => h) (Or.inr ⟨by simp [Region.wanted, yielded], rfl⟩) L2 ?_
            simp only [Act.put, List.setIfInBounds_toArray, List.set_cons_zero, List.set_cons_succ]
            refine wpAnyH_take (i := 16) (v := undef) rfl (by kernel_rfl) (by kernel_rfl) (by kernel_rfl) (fun _ _ _ h => h) (Or.inr ⟨by simp [Region.wanted, yielded], rfl⟩) L2 ?_
            simp only [Act.put, List.setIfInBounds_toArray, List.set_cons_zero, List.set_cons_succ]
            refine wpAnyH_take (i := 17) (v := undef) rfl (by kernel_rfl) (by kernel_rfl) (by kernel_rfl) (fun _ _ _ h => h) (Or.inr ⟨by simp [Region.wanted, yielded], rfl⟩) L2 ?_
            simp only [Act.put, List.setIfInBounds_toArray, List.set_cons_zero, List.set_cons_succ]
            refine wpAnyH_take (i := 18) (v := .bool false) rfl (by kernel_rfl) (by kernel_rfl) (by kernel_rfl) (fun _ _ _ h => h) (Or.inl ⟨by rfl, ?_⟩) L2 ?_
            · intro w2 hSw; go_simp
            simp only [Act.put, List.setIfInBounds_toArray, List.set_cons_zero, List.set_cons_succ]
            refine wpAnyH_done (by kernel_rfl) ?_ _
            simp only [List.getElem_toArray, List.getElem_cons_succ, List.getElem_cons_zero, Act.put, List.setIfInBounds_toArray, List.set_cons_zero, List.set_cons_succ]
            go_wp2
            go_roundw
            case rel => exact ⟨m + 1, by omega, by go_num, HM2, C2, B2, L2⟩
            case measure => simp [intOf]; omega
          · rcases r2 with hnil | ⟨b2, off2, rfl, hb2, hcl2⟩
            · rw [hnil] at hltm; simp at hltm
            have hq0 : wr.cell? ⟨b2, off2 + m * 2, none⟩ = some (.int .i64 (l2.getD m (0, 0)).1) := by rw [L.cell (p := ⟨b2, _, none⟩) hb2]; exact (hcl2 m hltm).1
            have htk := (toks_get t2 hltm).1
            have HAT : Hid ((headsOf c l2).getD m 0 = c.getD (l2.getD m (0, 0)).1.toNat 0) := headsOf_at c hltm
            have HBUT : Hid ((headsOf c l2).getD m 0 = vy → hasV (headsOf c (l2.take but ++ l2.drop (but + 1))) vy = true) := fun e => has_but hltm hmb e
            generalize l2.getD m (0, 0) = p at *
            clear hcl2
            obtain ⟨q1, q2⟩ := htk
            obtain ⟨s, hs0, hs⟩ : ∃ s : Nat, p.1 = (s : Int) ∧ s < 16 := ⟨p.1.toNat, by omega, by omega⟩
            rw [hs0] at hq0 HAT
            rw [Int.toNat_natCast] at HAT
            clear q1 q2 hs0
            have hsa : (s : Int) < 16 := by omega
            have hsb : (0 : Int) ≤ (s : Int) := by omega
            have es := C.2.2 s hs
            have ey := C.2.2 y hy
            rw [hvy.out] at ey
            generalize c.getD s 0 = u at *
            have hmi : ¬ ((m : Int) = (but : Int)) := by omega
            have hne : ((m : Int) != (but : Int)) = true := by simp; omega
            go_upto_region 12 with fail
            have hS0 : Below w.heap.size w wr.drew ∧ wr.drew.cell? ⟨w.heap.size, 2, none⟩ = some (.slice (some ⟨b2, off2, none⟩) l2.length c2) ∧ wr.drew.cell? ⟨b2, off2 + m * 2, none⟩ = some (.int .i64 s) ∧ wr.drew.cell? ⟨b, s, none⟩ = some (.int .i64 u) ∧ wr.drew.cell? ⟨b, y, none⟩ = some (.int .i64 vy) := ⟨L.drew, e2, hq0, es, ey⟩
            have C2 := C.drew; have B2 := B.drew; have L2 := L.drew
            go_region_held3 (fun w' => Below w.heap.size w w' ∧ w'.cell? ⟨w.heap.size, 2, none⟩ = some (.slice (some ⟨b2, off2, none⟩) l2.length c2) ∧ w'.cell? ⟨b2, off2 + m * 2, none⟩ = some (.int .i64 s) ∧ w'.cell? ⟨b, s, none⟩ = some (.int .i64 u) ∧ w'.cell? ⟨b, y, none⟩ = some (.int .i64 vy))
              (first | exact hS0 | assumption | (refine ⟨?_, ?_, ?_, ?_, ?_⟩ <;> assumption))
              (fail)
            clear hS0 C B L e2 hq0 es ey
            generalize wr.drew = wd at *
            by_cases huv : u = vy
            · have HR : Hid (hasV (headsOf c (l2.take but ++ l2.drop (but + 1))) vy = true) := HBUT.out (HAT.out.trans huv)
              subst huv
              go_wp2
              go_ret
              exact ⟨by rw [HV.out, HR.out]; simp, L2⟩
            · have HM2 : Hid (∀ j, j < m + 1 → j ≠ but → ¬ (headsOf c l2).getD j 0 = vy) := by
                intro j hj hn
                by_cases e : j = m
                · subst e; rw [HAT.out]; exact huv
                · exact HM.out j (by omega) hn
              go_wp2
              go_roundw
              case rel => exact ⟨m + 1, by omega, by go_num, HM2, C2, B2, L2⟩
              case measure => simp [intOf]; omega
        · have HR : Hid (hasV (headsOf c (l2.take but ++ l2.drop (but + 1))) vy = false) := has_but_no (fun j hj hn => HM.out j (by omega) hn)
          have hge2 : ¬ ((m : Int) < (l2.length : Int)) := by omega
          go_wp2
          go_ret
          exact ⟨by rw [HV.out, HN1.out, HR.out]; simp [hz], L⟩

end Go.Proofs.Ytphchdjbhbmnbaa
namespace Go.Proofs.Ytphchdjbhbmnbaa
open Go.RowKit
set_option linter.unusedVariables false

def foldS (l2 l3 : List (Int × Int)) (i j : Nat) : List (Int × Int) := l3.take j ++ l3.drop (j + 1) ++ [((l2.getD i (0, 0)).1, (l3.getD j (0, 0)).2)]
def foldB (l0 l1 l2 l3 : List (Int × Int)) (i j : Int) : Bool := asnB l0 l1 l2 l3 && decide (0 ≤ i ∧ i < (l2.length : Int)) && decide (0 ≤ j ∧ j < (l3.length : Int)) && (decide ((clsV l0).getD (l2.getD i.toNat (0, 0)).2.toNat 0 = (clsV l0).getD (l3.getD j.toNat (0, 0)).1.toNat 0) && apB (clsV l0) l1 l2 (l2.getD i.toNat (0, 0)).1.toNat (l3.getD j.toNat (0, 0)).2.toNat i.toNat)

/-- What the region that takes both pieces keeps. -/
abbrev FS (w2 : World) (A b2 b3 i2 j2 : Nat) (v2 v3 : Value) (px py qx qy : Int) (W : World) : Prop := Below w2.heap.size w2 W ∧ W.cell? ⟨A, 2, none⟩ = some v2 ∧ W.cell? ⟨A, 3, none⟩ = some v3 ∧ W.cell? ⟨b2, i2, none⟩ = some (.int .i64 px) ∧ W.cell? ⟨b2, i2 + 1, none⟩ = some (.int .i64 py) ∧ W.cell? ⟨b3, j2, none⟩ = some (.int .i64 qx) ∧ W.cell? ⟨b3, j2 + 1, none⟩ = some (.int .i64 qy)
theorem fs_keep {w2 W u : World} {A b2 b3 i2 j2 : Nat} {v2 v3 : Value} {px py qx qy : Int} (hz : A < w2.heap.size ∧ b2 < w2.heap.size ∧ b3 < w2.heap.size) (h : FS w2 A b2 b3 i2 j2 v2 v3 px py qx qy W) (hb : Below w2.heap.size W u) : FS w2 A b2 b3 i2 j2 v2 v3 px py qx qy u := by
  obtain ⟨h0, h1, h2, h3, h4, h5, h6⟩ := h
  have e : ∀ b o, b < w2.heap.size → u.cell? ⟨b, o, none⟩ = W.cell? ⟨b, o, none⟩ := fun b o hb' => hb.cell (p := ⟨b, o, none⟩) hb'
  exact ⟨h0.trans hb, (e _ _ hz.1).trans h1, (e _ _ hz.1).trans h2, (e _ _ hz.2.1).trans h3, (e _ _ hz.2.1).trans h4, (e _ _ hz.2.2).trans h5, (e _ _ hz.2.2).trans h6⟩
theorem fs_al {w2 W : World} {A b2 b3 i2 j2 : Nat} {v2 v3 : Value} {px py qx qy : Int} (hz : A < w2.heap.size ∧ b2 < w2.heap.size ∧ b3 < w2.heap.size) (o : Obj) (h : FS w2 A b2 b3 i2 j2 v2 v3 px py qx qy W) : FS w2 A b2 b3 i2 j2 v2 v3 px py qx qy (W.alloc o) := fs_keep hz h ((Below.refl _ _).alloc h.1.size _)
theorem fs_ad {w2 W : World} {A b2 b3 i2 j2 : Nat} {v2 v3 : Value} {px py qx qy : Int} (hz : A < w2.heap.size ∧ b2 < w2.heap.size ∧ b3 < w2.heap.size) (h : FS w2 A b2 b3 i2 j2 v2 v3 px py qx qy W) : FS w2 A b2 b3 i2 j2 v2 v3 px py qx qy W.drew := fs_keep hz h (Below.refl _ _).drew
theorem fs_st {w2 W : World} {A b2 b3 i2 j2 : Nat} {v2 v3 : Value} {px py qx qy : Int} (hz : A < w2.heap.size ∧ b2 < w2.heap.size ∧ b3 < w2.heap.size) (p : Addr) (v : Value) (hp : w2.heap.size ≤ p.block) (h : FS w2 A b2 b3 i2 j2 v2 v3 px py qx qy W) : FS w2 A b2 b3 i2 j2 v2 v3 px py qx qy (W.setCell p v) := fs_keep hz h ((Below.refl _ _).setCell hp v)
theorem two_box (w : World) (x y u v : Int) : PBox ((w.alloc (.cells #[.int .i64 x, .int .i64 y] 69)).alloc (.cells #[.int .i64 u, .int .i64 v] 69)).drew w.heap.size x y ∧ PBox ((w.alloc (.cells #[.int .i64 x, .int .i64 y] 69)).alloc (.cells #[.int .i64 u, .int .i64 v] 69)).drew (w.heap.size + 1) u v ∧ Below w.heap.size w ((w.alloc (.cells #[.int .i64 x, .int .i64 y] 69)).alloc (.cells #[.int .i64 u, .int .i64 v] 69)).drew := by
  have b1 : Below w.heap.size w (w.alloc (.cells #[.int .i64 x, .int .i64 y] 69)) := (Below.refl _ _).alloc (Nat.le_refl _) _
  have p2 := (PBox.new (w.alloc (.cells #[.int .i64 x, .int .i64 y] 69)) u v 69).drew
  rw [World.size_alloc] at p2
  exact ⟨((PBox.new w x y 69).below ((Below.refl _ _).alloc (Nat.le_refl _) _) (by simp)).drew, p2, (b1.alloc (by simp) _).drew⟩

/-- What the region that appends to Segs keeps. -/
abbrev VJ (wR : World) (Z A S T : Nat) (x0 x1 x2 vs vy vz : Value) (W : World) : Prop := Out Z (Z + 1) wR W ∧ (∃ x, Box W Z x0 x1 x2 x) ∧ W.cell? ⟨A, 3, none⟩ = some vs ∧ W.cell? ⟨S, 0, none⟩ = some vy ∧ W.cell? ⟨T, 1, none⟩ = some vz
theorem vj_out {wR W u : World} {Z A S T lo hi : Nat} {x0 x1 x2 vs vy vz : Value} (h : VJ wR Z A S T x0 x1 x2 vs vy vz W) (hb : Out lo hi W u) (hl : wR.heap.size ≤ lo) (hz : Z < wR.heap.size ∧ A < wR.heap.size ∧ S < wR.heap.size ∧ T < wR.heap.size) : VJ wR Z A S T x0 x1 x2 vs vy vz u := by
  obtain ⟨h0, ⟨x, h1⟩, h2, h3, h4⟩ := h
  have hB : Below wR.heap.size W u := hb.below hl h0.size
  refine ⟨⟨hb.os.trans h0.os, hb.tape.trans h0.tape, hb.output.trans h0.output, Nat.le_trans h0.size hb.size, fun k hk hr => (hB.block k hk).trans (h0.block k hk hr)⟩, ⟨x, h1.below hB hz.1⟩, by rw [hB.cell (p := ⟨A, 3, none⟩) hz.2.1]; exact h2, by rw [hB.cell (p := ⟨S, 0, none⟩) hz.2.2.1]; exact h3, by rw [hB.cell (p := ⟨T, 1, none⟩) hz.2.2.2]; exact h4⟩
theorem vj_keep {wR W u : World} {Z A S T : Nat} {x0 x1 x2 vs vy vz : Value} (hz : Z < wR.heap.size ∧ A < wR.heap.size ∧ S < wR.heap.size ∧ T < wR.heap.size) (h : VJ wR Z A S T x0 x1 x2 vs vy vz W) (hb : Below W.heap.size W u) : VJ wR Z A S T x0 x1 x2 vs vy vz u :=
  vj_out h (Out.ofBelow (lo := wR.heap.size) (hi := wR.heap.size) hb) (Nat.le_refl _) hz
theorem vj_al {wR W : World} {Z A S T : Nat} {x0 x1 x2 vs vy vz : Value} (hz : Z < wR.heap.size ∧ A < wR.heap.size ∧ S < wR.heap.size ∧ T < wR.heap.size) (o : Obj) (h : VJ wR Z A S T x0 x1 x2 vs vy vz W) : VJ wR Z A S T x0 x1 x2 vs vy vz (W.alloc o) := vj_keep hz h ((Below.refl _ _).alloc (Nat.le_refl _) o)
theorem vj_ad {wR W : World} {Z A S T : Nat} {x0 x1 x2 vs vy vz : Value} (hz : Z < wR.heap.size ∧ A < wR.heap.size ∧ S < wR.heap.size ∧ T < wR.heap.size) (h : VJ wR Z A S T x0 x1 x2 vs vy vz W) : VJ wR Z A S T x0 x1 x2 vs vy vz W.drew := vj_keep hz h (Below.refl _ _).drew
theorem vj_store {wR W : World} {Z A S T : Nat} {x0 x1 x2 vs vy vz : Value} (hz : A ≠ Z ∧ S ≠ Z ∧ T ≠ Z) (u : Value) (h : VJ wR Z A S T x0 x1 x2 vs vy vz W) : VJ wR Z A S T x0 x1 x2 vs vy vz (W.setCell ⟨Z, 3, none⟩ u) := by
  obtain ⟨h0, ⟨x, h1⟩, h2, h3, h4⟩ := h
  have e : ∀ b o, b ≠ Z → (W.setCell ⟨Z, 3, none⟩ u).cell? ⟨b, o, none⟩ = W.cell? ⟨b, o, none⟩ := fun b o hb => World.cell?_setCell_other _ _ _ _ (by intro e; injection e with e _; exact hb e.symm)
  exact ⟨h0.trans (Out.set Z 3 W u), ⟨u, h1.set3 u⟩, (e _ _ hz.1).trans h2, (e _ _ hz.2.1).trans h3, (e _ _ hz.2.2).trans h4⟩
theorem vj_own {wR W : World} {Z A S T b n k : Nat} {x0 x1 x2 vs vy vz : Value} {l : List (Int × Int)} (o : Own wR b n l k) (hb : b < Z) (h : VJ wR Z A S T x0 x1 x2 vs vy vz W) : Own W b n l k := o.out h.1 (.inl hb)
theorem vj_room {wR W u : World} {Z A S T m c : Nat} {a : Option Addr} {l : List (Int × Int)} {x0 x1 x2 vs vy vz : Value} (hz : Z < wR.heap.size ∧ A < wR.heap.size ∧ S < wR.heap.size ∧ T < wR.heap.size) (h : VJ wR Z A S T x0 x1 x2 vs vy vz W) (hb : Below W.heap.size W u) (d : RoomIn u W.heap.size u.heap.size a m c l) : VJ wR Z A S T x0 x1 x2 vs vy vz u ∧ RoomIn u wR.heap.size u.heap.size a m c l ∧ wR.heap.size ≤ u.heap.size := ⟨vj_keep hz h hb, d.mono h.1.size (Nat.le_refl _), Nat.le_trans h.1.size hb.size⟩

/-- What the region that asks keeps. -/
abbrev FT (w4 : World) (A bp bq bR : Nat) (v0 v1 v2 v3 : Value) (iy ix : Nat) (px py qx qy gp gq : Int) (W : World) : Prop := Below w4.heap.size w4 W ∧ W.cell? ⟨A, 0, none⟩ = some v0 ∧ W.cell? ⟨A, 1, none⟩ = some v1 ∧ W.cell? ⟨A, 2, none⟩ = some v2 ∧ W.cell? ⟨A, 3, none⟩ = some v3 ∧ W.cell? ⟨bp, 0, none⟩ = some (.int .i64 px) ∧ W.cell? ⟨bp, 1, none⟩ = some (.int .i64 py) ∧ W.cell? ⟨bq, 0, none⟩ = some (.int .i64 qx) ∧ W.cell? ⟨bq, 1, none⟩ = some (.int .i64 qy) ∧ W.cell? ⟨bR, iy, none⟩ = some (.int .i64 gp) ∧ W.cell? ⟨bR, ix, none⟩ = some (.int .i64 gq)
theorem ft_mk {w4 u : World} {A bp bq bR : Nat} {v0 v1 v2 v3 : Value} {iy ix : Nat} {px py qx qy gp gq : Int} (a0 : w4.cell? ⟨A, 0, none⟩ = some v0) (a1 : w4.cell? ⟨A, 1, none⟩ = some v1) (a2 : w4.cell? ⟨A, 2, none⟩ = some v2) (a3 : w4.cell? ⟨A, 3, none⟩ = some v3) (p0 : w4.cell? ⟨bp, 0, none⟩ = some (.int .i64 px)) (p1 : w4.cell? ⟨bp, 1, none⟩ = some (.int .i64 py)) (q0 : w4.cell? ⟨bq, 0, none⟩ = some (.int .i64 qx)) (q1 : w4.cell? ⟨bq, 1, none⟩ = some (.int .i64 qy)) (r0 : w4.cell? ⟨bR, iy, none⟩ = some (.int .i64 gp)) (r1 : w4.cell? ⟨bR, ix, none⟩ = some (.int .i64 gq)) (hz : A < w4.heap.size ∧ bp < w4.heap.size ∧ bq < w4.heap.size ∧ bR < w4.heap.size) (hb : Below w4.heap.size w4 u) : FT w4 A bp bq bR v0 v1 v2 v3 iy ix px py qx qy gp gq u := by
  have e : ∀ b o, b < w4.heap.size → u.cell? ⟨b, o, none⟩ = w4.cell? ⟨b, o, none⟩ := fun b o hb' => hb.cell (p := ⟨b, o, none⟩) hb'
  exact ⟨hb, (e _ _ hz.1).trans a0, (e _ _ hz.1).trans a1, (e _ _ hz.1).trans a2, (e _ _ hz.1).trans a3, (e _ _ hz.2.1).trans p0, (e _ _ hz.2.1).trans p1, (e _ _ hz.2.2.1).trans q0, (e _ _ hz.2.2.1).trans q1, (e _ _ hz.2.2.2).trans r0, (e _ _ hz.2.2.2).trans r1⟩

set_option linter.unusedSimpArgs false in
set_option maxRecDepth 20000 in
set_option maxHeartbeats 4000000 in
theorem sFold_any (b0 b1 b2 b3 c0 c1 c2 c3 : Nat) (l0 l1 l2 l3 : List (Int × Int)) (i j : Int) (w : World) (n0 : l0.length ≤ 1048576) (n1 : l1.length ≤ 1048576) (n2 : l2.length ≤ 1048576) (n3 : l3.length ≤ 1048576) (o0 : Own w b0 l0.length l0 l0.length) (o1 : Own w b1 l1.length l1 l1.length) (o2 : Own w b2 l2.length l2 l2.length) (o3 : Own w b3 l3.length l3 l3.length) (z2 : l2.length ≤ c2) (z3 : l3.length ≤ c3) :
    Calls Try.prog 91 #[.agg #[.slice (some ⟨b0, 0, none⟩) l0.length c0, .slice (some ⟨b1, 0, none⟩) l1.length c1, .slice (some ⟨b2, 0, none⟩) l2.length c2, .slice (some ⟨b3, 0, none⟩) l3.length c3], .int .i64 i, .int .i64 j] w fun e w' => ∃ p0 p1 p2 p3 q0 q1 q2 q3, e = .returned (.tuple #[.agg #[.slice p0 (okL (foldB l0 l1 l2 l3 i j) l0).length q0, .slice p1 (okL (foldB l0 l1 l2 l3 i j) l1).length q1, .slice p2 (okL (foldB l0 l1 l2 l3 i j) (l2.take (i).toNat ++ l2.drop ((i).toNat + 1))).length q2, .slice p3 (okL (foldB l0 l1 l2 l3 i j) (foldS l2 l3 (i).toNat (j).toNat)).length q3], .bool (foldB l0 l1 l2 l3 i j)]) ∧ Seen w' w.heap.size w'.heap.size p0 p1 p2 p3 (okL (foldB l0 l1 l2 l3 i j) l0).length (okL (foldB l0 l1 l2 l3 i j) l1).length (okL (foldB l0 l1 l2 l3 i j) (l2.take (i).toNat ++ l2.drop ((i).toNat + 1))).length (okL (foldB l0 l1 l2 l3 i j) (foldS l2 l3 (i).toNat (j).toNat)).length (okL (foldB l0 l1 l2 l3 i j) l0) (okL (foldB l0 l1 l2 l3 i j) l1) (okL (foldB l0 l1 l2 l3 i j) (l2.take (i).toNat ++ l2.drop ((i).toNat + 1))) (okL (foldB l0 l1 l2 l3 i j) (foldS l2 l3 (i).toNat (j).toNat)) ∧ Below w.heap.size w w' := by
  have A0 := (Box.new w (.slice (some ⟨b0, 0, none⟩) l0.length c0) (.slice (some ⟨b1, 0, none⟩) l1.length c1) (.slice (some ⟨b2, 0, none⟩) l2.length c2) (.slice (some ⟨b3, 0, none⟩) l3.length c3) 28).alloc (.cells #[.slice none 0 0, .slice none 0 0, .slice none 0 0, .slice none 0 0] 28)
  have R0 := Box.new (w.alloc (.cells #[.slice (some ⟨b0, 0, none⟩) l0.length c0, .slice (some ⟨b1, 0, none⟩) l1.length c1, .slice (some ⟨b2, 0, none⟩) l2.length c2, .slice (some ⟨b3, 0, none⟩) l3.length c3] 28)) (.slice none 0 0) (.slice none 0 0) (.slice none 0 0) (.slice none 0 0) 28
  have L0 : Below w.heap.size w ((w.alloc (.cells #[.slice (some ⟨b0, 0, none⟩) l0.length c0, .slice (some ⟨b1, 0, none⟩) l1.length c1, .slice (some ⟨b2, 0, none⟩) l2.length c2, .slice (some ⟨b3, 0, none⟩) l3.length c3] 28)).alloc (.cells #[.slice none 0 0, .slice none 0 0, .slice none 0 0, .slice none 0 0] 28)) := ((Below.refl _ _).alloc (Nat.le_refl _) _).alloc (by simp) _
  rw [World.size_alloc] at R0
  go_enter Try.func91, Try.ntmps91
  go_wp2_with fail
  refine (sAsnOk_any _ _ _ _ _ _ _ _ l0 l1 l2 l3 _ n0 n1 n2 n3 (o0.row.below L0 (Nat.le_refl _)) (o1.row.below L0 (Nat.le_refl _)) (o2.row.below L0 (Nat.le_refl _)) (o3.row.below L0 (Nat.le_refl _))).mono ?_
  rintro e w1 ⟨rfl, hb⟩
  replace A0 := A0.below hb A0.lt; replace R0 := R0.below hb R0.lt; replace L0 := L0.trans (hb.mono L0.size)
  clear hb
  have A0c0 := A0.c0; have A0c1 := A0.c1; have A0c2 := A0.c2; have A0c3 := A0.c3
  by_cases hok : asnB l0 l1 l2 l3 = true
  rotate_left
  · replace hok : asnB l0 l1 l2 l3 = false := by simpa using hok
    rw [hok]
    have HE : Hid ((foldB l0 l1 l2 l3 i j) = false) := by show (foldB l0 l1 l2 l3 i j) = false; unfold foldB; rw [hok]; rfl
    obtain ⟨F, FO⟩ := R0.fill (.slice none 0 0) (.slice none 0 0) (.slice none 0 0) (.slice none 0 0)
    have j0' := R0.c0; have j1' := R0.c1; have j2' := R0.c2; have j3' := R0.c3
    have g0 := R0.f0; have g1 := R0.f1; have g2 := R0.f2; have g3 := R0.f3
    go_wp2
    have i0 := F.c0; have i1 := F.c1; have i2 := F.c2; have i3 := F.c3
    refine bodyPost_ret (v := .tuple #[.agg #[.slice none 0 0, .slice none 0 0, .slice none 0 0, .slice none 0 0], .bool false]) ?_ rfl ⟨none, none, none, none, 0, 0, 0, 0, by rw [HE.out]; rfl, ?_, ?_⟩
    · simp [results, Try.results91, go_sem, i0, i1, i2, i3]
    · rw [HE.out]; exact Seen.none _ _ _
    · exact L0.trans (FO.below (by omega) L0.size)
  have HT : Hid (asnB l0 l1 l2 l3 = true) := hok
  rw [hok]
  by_cases hi0 : i < 0
  · clear hok
    have HE : Hid ((foldB l0 l1 l2 l3 i j) = false) := by show (foldB l0 l1 l2 l3 i j) = false; unfold foldB; rw [decide_eq_false (p := 0 ≤ i ∧ _) (by omega)]; simp
    obtain ⟨F, FO⟩ := R0.fill (.slice none 0 0) (.slice none 0 0) (.slice none 0 0) (.slice none 0 0)
    have j0' := R0.c0; have j1' := R0.c1; have j2' := R0.c2; have j3' := R0.c3
    have g0 := R0.f0; have g1 := R0.f1; have g2 := R0.f2; have g3 := R0.f3
    go_wp2
    have i0 := F.c0; have i1 := F.c1; have i2 := F.c2; have i3 := F.c3
    refine bodyPost_ret (v := .tuple #[.agg #[.slice none 0 0, .slice none 0 0, .slice none 0 0, .slice none 0 0], .bool false]) ?_ rfl ⟨none, none, none, none, 0, 0, 0, 0, by rw [HE.out]; rfl, ?_, ?_⟩
    · simp [results, Try.results91, go_sem, i0, i1, i2, i3]
    · rw [HE.out]; exact Seen.none _ _ _
    · exact L0.trans (FO.below (by omega) L0.size)
  by_cases hi1 : (l2.length : Int) ≤ i
  · clear hok
    have HE : Hid ((foldB l0 l1 l2 l3 i j) = false) := by show (foldB l0 l1 l2 l3 i j) = false; unfold foldB; rw [decide_eq_false (p := 0 ≤ i ∧ _) (by omega)]; simp
    obtain ⟨F, FO⟩ := R0.fill (.slice none 0 0) (.slice none 0 0) (.slice none 0 0) (.slice none 0 0)
    have j0' := R0.c0; have j1' := R0.c1; have j2' := R0.c2; have j3' := R0.c3
    have g0 := R0.f0; have g1 := R0.f1; have g2 := R0.f2; have g3 := R0.f3
    go_wp2
    have i0 := F.c0; have i1 := F.c1; have i2 := F.c2; have i3 := F.c3
    refine bodyPost_ret (v := .tuple #[.agg #[.slice none 0 0, .slice none 0 0, .slice none 0 0, .slice none 0 0], .bool false]) ?_ rfl ⟨none, none, none, none, 0, 0, 0, 0, by rw [HE.out]; rfl, ?_, ?_⟩
    · simp [results, Try.results91, go_sem, i0, i1, i2, i3]
    · rw [HE.out]; exact Seen.none _ _ _
    · exact L0.trans (FO.below (by omega) L0.size)
  by_cases hj0 : j < 0
  · clear hok
    have HE : Hid ((foldB l0 l1 l2 l3 i j) = false) := by show (foldB l0 l1 l2 l3 i j) = false; unfold foldB; rw [decide_eq_false (p := 0 ≤ j ∧ _) (by omega)]; simp
    obtain ⟨F, FO⟩ := R0.fill (.slice none 0 0) (.slice none 0 0) (.slice none 0 0) (.slice none 0 0)
    have j0' := R0.c0; have j1' := R0.c1; have j2' := R0.c2; have j3' := R0.c3
    have g0 := R0.f0; have g1 := R0.f1; have g2 := R0.f2; have g3 := R0.f3
    go_wp2
    have i0 := F.c0; have i1 := F.c1; have i2 := F.c2; have i3 := F.c3
    refine bodyPost_ret (v := .tuple #[.agg #[.slice none 0 0, .slice none 0 0, .slice none 0 0, .slice none 0 0], .bool false]) ?_ rfl ⟨none, none, none, none, 0, 0, 0, 0, by rw [HE.out]; rfl, ?_, ?_⟩
    · simp [results, Try.results91, go_sem, i0, i1, i2, i3]
    · rw [HE.out]; exact Seen.none _ _ _
    · exact L0.trans (FO.below (by omega) L0.size)
  by_cases hj1 : (l3.length : Int) ≤ j
  · clear hok
    have HE : Hid ((foldB l0 l1 l2 l3 i j) = false) := by show (foldB l0 l1 l2 l3 i j) = false; unfold foldB; rw [decide_eq_false (p := 0 ≤ j ∧ _) (by omega)]; simp
    obtain ⟨F, FO⟩ := R0.fill (.slice none 0 0) (.slice none 0 0) (.slice none 0 0) (.slice none 0 0)
    have j0' := R0.c0; have j1' := R0.c1; have j2' := R0.c2; have j3' := R0.c3
    have g0 := R0.f0; have g1 := R0.f1; have g2 := R0.f2; have g3 := R0.f3
    go_wp2
    have i0 := F.c0; have i1 := F.c1; have i2 := F.c2; have i3 := F.c3
    refine bodyPost_ret (v := .tuple #[.agg #[.slice none 0 0, .slice none 0 0, .slice none 0 0, .slice none 0 0], .bool false]) ?_ rfl ⟨none, none, none, none, 0, 0, 0, 0, by rw [HE.out]; rfl, ?_, ?_⟩
    · simp [results, Try.results91, go_sem, i0, i1, i2, i3]
    · rw [HE.out]; exact Seen.none _ _ _
    · exact L0.trans (FO.below (by omega) L0.size)
  obtain ⟨i, rfl⟩ := Int.eq_ofNat_of_zero_le (show 0 ≤ i by omega)
  obtain ⟨j, rfl⟩ := Int.eq_ofNat_of_zero_le (show 0 ≤ j by omega)
  have hi : i < l2.length := by omega
  have hj : j < l3.length := by omega
  obtain ⟨t0, t1, t2, t3⟩ := asnB_toks hok
  clear hok
  go_wp2_with fail
  clear A0c0 A0c1 A0c2 A0c3
  refine (l3classes_any _ _ _ _ _ _ _ _ l0 l1 l2 l3 _ n0 t0 (o0.row.below L0 (Nat.le_refl _))).mono ?_
  rintro e w2 ⟨bR, cR, rfl, hzR, CO, hb⟩
  replace A0 := A0.below hb A0.lt; replace R0 := R0.below hb R0.lt; replace L0 := L0.trans (hb.mono L0.size)
  clear hb
  have HC := Cls.all t0
  have zA := A0.lt
  have zR := R0.lt
  have zw := L0.size
  have q2 := o2.below L0 o2.1
  have q3 := o3.below L0 o3.1
  obtain ⟨p, HP⟩ : ∃ p, Hid (l2.getD i (0, 0) = p) := ⟨_, rfl⟩
  obtain ⟨q, HQ⟩ : ∃ q, Hid (l3.getD j (0, 0) = q) := ⟨_, rfl⟩
  have tp := toks_get t2 hi
  have tq := toks_get t3 hj
  have P1 := q2.2.2 i hi
  have Q1 := q3.2.2 j hj
  rw [HP.out] at tp P1
  rw [HQ.out] at tq Q1
  obtain ⟨px, py, rfl, epx, epy⟩ : ∃ s t : Nat, p = ((s : Int), (t : Int)) ∧ s < 16 ∧ t < 16 := ⟨p.1.toNat, p.2.toNat, by obtain ⟨⟨_, _⟩, _, _⟩ := tp; rw [Int.toNat_of_nonneg (by assumption), Int.toNat_of_nonneg (by assumption)], by omega, by omega⟩
  obtain ⟨qx, qy, rfl, eqx, eqy⟩ : ∃ s t : Nat, q = ((s : Int), (t : Int)) ∧ s < 16 ∧ t < 16 := ⟨q.1.toNat, q.2.toNat, by obtain ⟨⟨_, _⟩, _, _⟩ := tq; rw [Int.toNat_of_nonneg (by assumption), Int.toNat_of_nonneg (by assumption)], by omega, by omega⟩
  clear tp tq
  obtain ⟨P1, P2⟩ := P1
  obtain ⟨Q1, Q2⟩ := Q1
  have A0c2 := A0.c2; have A0c3 := A0.c3
  have hil : (i : Int) < (l2.length : Int) := by omega
  have hjl : (j : Int) < (l3.length : Int) := by omega
  have hi0' : (0 : Int) ≤ (i : Int) := by omega
  have hj0' : (0 : Int) ≤ (j : Int) := by omega
  go_upto_region 4 with fail
  go_cut [9, 10] (fun v9 v10 wz => ∃ bp bq, v9 = .pointer (some ⟨bp, 0, none⟩) ∧ v10 = .pointer (some ⟨bq, 0, none⟩) ∧ PBox wz bp px py ∧ PBox wz bq qx qy ∧ w2.heap.size ≤ bp ∧ w2.heap.size ≤ bq ∧ Below w2.heap.size w2 wz)
  case first =>
    have hS1 : FS w2 w.heap.size b2 b3 (i * 2) (j * 2) (.slice (some ⟨b2, 0, none⟩) l2.length c2) (.slice (some ⟨b3, 0, none⟩) l3.length c3) px py qx qy w2 := ⟨Below.refl _ _, A0c2, A0c3, P1, P2, Q1, Q2⟩
    have hz : w.heap.size < w2.heap.size ∧ b2 < w2.heap.size ∧ b3 < w2.heap.size := ⟨zA, q2.1, q3.1⟩
    have hS0 := fs_ad hz hS1
    clear A0c2 A0c3 P1 P2 Q1 Q2
    go_region_held3 (fun W => Below w2.heap.size w2 W ∧ W.cell? ⟨w.heap.size, 2, none⟩ = some ((.slice (some ⟨b2, 0, none⟩) l2.length c2)) ∧ W.cell? ⟨w.heap.size, 3, none⟩ = some ((.slice (some ⟨b3, 0, none⟩) l3.length c3)) ∧ W.cell? ⟨b2, i * 2, none⟩ = some (.int .i64 px) ∧ W.cell? ⟨b2, i * 2 + 1, none⟩ = some (.int .i64 py) ∧ W.cell? ⟨b3, j * 2, none⟩ = some (.int .i64 qx) ∧ W.cell? ⟨b3, j * 2 + 1, none⟩ = some (.int .i64 qy))
      (first | exact hS0 | exact hS1 | assumption | exact fs_keep hz hS1 (by repeat (first | exact Below.refl _ _ | exact (Below.refl _ _).drew | apply Below.drew | (refine Below.alloc ?_ (by first | exact Nat.le_refl _ | (simp; done) | (simp; omega)) _) | (refine Below.setCell ?_ (by first | exact Nat.le_refl _ | (simp; done) | (simp; omega)) _))) | (refine ⟨?_, ?_, ?_, ?_, ?_, ?_, ?_⟩ <;> assumption))
      (fail)
    all_goals
      go_wp2_with fail
      go_meet
      first
        | exact ⟨_, _, rfl, rfl, (two_box w2 px py qx qy).1, (two_box w2 px py qx qy).2.1, Nat.le_refl _, by omega, (two_box w2 px py qx qy).2.2⟩
        | exact ⟨_, _, rfl, rfl, (two_box w2 qx qy px py).2.1, (two_box w2 qx qy px py).1, by omega, Nat.le_refl _, (two_box w2 qx qy px py).2.2⟩
  case rest =>
    obtain ⟨bp, bq, rfl, rfl, BP, BQ, zp, zq, hb⟩ := hcut
    rename World => w4
    clear P1 P2 Q1 Q2 A0c2 A0c3 q2 q3
    replace A0 := A0.below hb A0.lt; replace R0 := R0.below hb R0.lt; replace L0 := L0.trans (hb.mono L0.size); replace CO := CO.below hb CO.1
    clear hb
    obtain ⟨gp, hgp⟩ : ∃ g, Hid ((clsV l0).getD py 0 = g) := ⟨_, rfl⟩
    obtain ⟨gq, hgq⟩ : ∃ g, Hid ((clsV l0).getD qx 0 = g) := ⟨_, rfl⟩
    obtain ⟨ap, hap⟩ : ∃ a, Hid (apB (clsV l0) l1 l2 px qy i = a) := ⟨_, rfl⟩
    have HV : Hid (foldB l0 l1 l2 l3 (i : Int) (j : Int) = (decide (gp = gq) && ap)) := by
      show foldB l0 l1 l2 l3 (i : Int) (j : Int) = (decide (gp = gq) && ap)
      unfold foldB
      rw [Int.toNat_natCast, Int.toNat_natCast, HT.out, HP.out, HQ.out]
      rw [decide_eq_true (p := 0 ≤ (i : Int) ∧ _) (by omega), decide_eq_true (p := 0 ≤ (j : Int) ∧ _) (by omega)]
      simp only [Int.toNat_natCast, hgp.out, hgq.out, hap.out, Bool.true_and]
    have gpC := CO.2.2 py epy
    have gqC := CO.2.2 qx eqx
    rw [hgp.out] at gpC
    rw [hgq.out] at gqC
    have zA4 := A0.lt
    have zP4 := BP.lt
    have zQ4 := BQ.lt
    have zC4 := CO.1
    have hK : Hid (∀ u : World, Below w4.heap.size w4 u → FT w4 w.heap.size bp bq bR (.slice (some ⟨b0, 0, none⟩) l0.length c0) (.slice (some ⟨b1, 0, none⟩) l1.length c1) (.slice (some ⟨b2, 0, none⟩) l2.length c2) (.slice (some ⟨b3, 0, none⟩) l3.length c3) py qx px py qx qy gp gq u) := fun u hu => ft_mk A0.c0 A0.c1 A0.c2 A0.c3 BP.c0 BP.c1 BQ.c0 BQ.c1 gpC gqC ⟨zA4, zP4, zQ4, zC4⟩ hu
    have hS0 := hK.out w4.drew (Below.refl _ _).drew
    clear gpC gqC
    have hepy : (py : Int) < 16 := by omega
    have heqx : (qx : Int) < 16 := by omega
    have hepy0 : (0 : Int) ≤ (py : Int) := by omega
    have heqx0 : (0 : Int) ≤ (qx : Int) := by omega
    go_upto_region 5 with fail
    go_cut [71] (fun v71 wz => v71 = .bool (!(decide (gp = gq) && ap)) ∧ Below w4.heap.size w4 wz)
    case first =>
      by_cases hg : gp = gq
      rotate_left
      · have hne : (gp != gq) = true := by simpa using hg
        refine wp_region_held_drew (S := fun W => Below w4.heap.size w4 W ∧ W.cell? ⟨w.heap.size, 0, none⟩ = some (.slice (some ⟨b0, 0, none⟩) l0.length c0) ∧ W.cell? ⟨w.heap.size, 1, none⟩ = some (.slice (some ⟨b1, 0, none⟩) l1.length c1) ∧ W.cell? ⟨w.heap.size, 2, none⟩ = some (.slice (some ⟨b2, 0, none⟩) l2.length c2) ∧ W.cell? ⟨w.heap.size, 3, none⟩ = some (.slice (some ⟨b3, 0, none⟩) l3.length c3) ∧ W.cell? ⟨bp, 0, none⟩ = some (.int .i64 px) ∧ W.cell? ⟨bp, 1, none⟩ = some (.int .i64 py) ∧ W.cell? ⟨bq, 0, none⟩ = some (.int .i64 qx) ∧ W.cell? ⟨bq, 1, none⟩ = some (.int .i64 qy) ∧ W.cell? ⟨bR, py, none⟩ = some (.int .i64 gp) ∧ W.cell? ⟨bR, qx, none⟩ = some (.int .i64 gq)) (by kernel_rfl) hS0 (fun _ => ?_)
        clear BP BQ A0 CO
        generalize w4.drew = w5 at *
        refine wpAnyH_take (i := 0) (v := .slice (some ⟨bR, 0, none⟩) 16 cR) rfl (by kernel_rfl) (by kernel_rfl) (by kernel_rfl) (fun _ _ _ h => h) (Or.inl ⟨by rfl, ?_⟩) hS0 ?_
        · intro w2 hSw; go_simp
        simp only [Act.put, List.setIfInBounds_toArray, List.set_cons_zero, List.set_cons_succ]
        refine wpAnyH_take (i := 1) (v := .pointer (some ⟨bp, 1, none⟩)) rfl (by kernel_rfl) (by kernel_rfl) (by kernel_rfl) (fun _ _ _ h => h) (Or.inl ⟨by rfl, ?_⟩) hS0 ?_
        · intro w2 hSw; go_simp
        simp only [Act.put, List.setIfInBounds_toArray, List.set_cons_zero, List.set_cons_succ]
        refine wpAnyH_take (i := 2) (v := .int .i64 (py : Int)) rfl (by kernel_rfl) (by kernel_rfl) (by kernel_rfl) (fun _ _ _ h => h) (Or.inl ⟨by rfl, ?_⟩) hS0 ?_
        · intro w2 hSw; go_simp
        simp only [Act.put, List.setIfInBounds_toArray, List.set_cons_zero, List.set_cons_succ]
        refine wpAnyH_take (i := 3) (v := .pointer (some ⟨bR, py, none⟩)) rfl (by kernel_rfl) (by kernel_rfl) (by kernel_rfl) (fun _ _ _ h => h) (Or.inl ⟨by rfl, ?_⟩) hS0 ?_
        · intro w2 hSw; go_simp
        simp only [Act.put, List.setIfInBounds_toArray, List.set_cons_zero, List.set_cons_succ]
        refine wpAnyH_take (i := 4) (v := .int .i64 gp) rfl (by kernel_rfl) (by kernel_rfl) (by kernel_rfl) (fun _ _ _ h => h) (Or.inl ⟨by rfl, ?_⟩) hS0 ?_
        · intro w2 hSw; go_simp
        simp only [Act.put, List.setIfInBounds_toArray, List.set_cons_zero, List.set_cons_succ]
        refine wpAnyH_take (i := 5) (v := .slice (some ⟨bR, 0, none⟩) 16 cR) rfl (by kernel_rfl) (by kernel_rfl) (by kernel_rfl) (fun _ _ _ h => h) (Or.inl ⟨by rfl, ?_⟩) hS0 ?_
        · intro w2 hSw; go_simp
        simp only [Act.put, List.setIfInBounds_toArray, List.set_cons_zero, List.set_cons_succ]
        refine wpAnyH_take (i := 6) (v := .pointer (some ⟨bq, 0, none⟩)) rfl (by kernel_rfl) (by kernel_rfl) (by kernel_rfl) (fun _ _ _ h => h) (Or.inl ⟨by rfl, ?_⟩) hS0 ?_
        · intro w2 hSw; go_simp
        simp only [Act.put, List.setIfInBounds_toArray, List.set_cons_zero, List.set_cons_succ]
        refine wpAnyH_take (i := 7) (v := .int .i64 (qx : Int)) rfl (by kernel_rfl) (by kernel_rfl) (by kernel_rfl) (fun _ _ _ h => h) (Or.inl ⟨by rfl, ?_⟩) hS0 ?_
        · intro w2 hSw; go_simp
        simp only [Act.put, List.setIfInBounds_toArray, List.set_cons_zero, List.set_cons_succ]
        refine wpAnyH_take (i := 8) (v := .pointer (some ⟨bR, qx, none⟩)) rfl (by kernel_rfl) (by kernel_rfl) (by kernel_rfl) (fun _ _ _ h => h) (Or.inl ⟨by rfl, ?_⟩) hS0 ?_
        · intro w2 hSw; go_simp
        simp only [Act.put, List.setIfInBounds_toArray, List.set_cons_zero, List.set_cons_succ]
        refine wpAnyH_take (i := 9) (v := .int .i64 gq) rfl (by kernel_rfl) (by kernel_rfl) (by kernel_rfl) (fun _ _ _ h => h) (Or.inl ⟨by rfl, ?_⟩) hS0 ?_
        · intro w2 hSw; go_simp
        simp only [Act.put, List.setIfInBounds_toArray, List.set_cons_zero, List.set_cons_succ]
        refine wpAnyH_take (i := 10) (v := .bool true) rfl (by kernel_rfl) (by kernel_rfl) (by kernel_rfl) (fun _ _ _ h => h) (Or.inl ⟨by rfl, ?_⟩) hS0 ?_
        · intro w2 hSw; go_simp
        simp only [Act.put, List.setIfInBounds_toArray, List.set_cons_zero, List.set_cons_succ]
        refine wpAnyH_take (i := 11) (v := .bool true) rfl (by kernel_rfl) (by kernel_rfl) (by kernel_rfl) (fun _ _ _ h => h) (Or.inl ⟨by rfl, ?_⟩) hS0 ?_
        · intro w2 hSw; go_simp
        simp only [Act.put, List.setIfInBounds_toArray, List.set_cons_zero, List.set_cons_succ]
        refine wpAnyH_take (i := 12) (v := undef) rfl (by kernel_rfl) (by kernel_rfl) (by kernel_rfl) (fun _ _ _ h => h) (Or.inr ⟨by simp [Region.wanted, yielded], rfl⟩) hS0 ?_
        simp only [Act.put, List.setIfInBounds_toArray, List.set_cons_zero, List.set_cons_succ]
        refine wpAnyH_take (i := 13) (v := undef) rfl (by kernel_rfl) (by kernel_rfl) (by kernel_rfl) (fun _ _ _ h => h) (Or.inr ⟨by simp [Region.wanted, yielded], rfl⟩) hS0 ?_
        simp only [Act.put, List.setIfInBounds_toArray, List.set_cons_zero, List.set_cons_succ]
        refine wpAnyH_take (i := 14) (v := undef) rfl (by kernel_rfl) (by kernel_rfl) (by kernel_rfl) (fun _ _ _ h => h) (Or.inr ⟨by simp [Region.wanted, yielded], rfl⟩) hS0 ?_
        simp only [Act.put, List.setIfInBounds_toArray, List.set_cons_zero, List.set_cons_succ]
        refine wpAnyH_take (i := 15) (v := undef) rfl (by kernel_rfl) (by kernel_rfl) (by kernel_rfl) (fun _ _ _ h => h) (Or.inr ⟨by simp [Region.wanted, yielded], rfl⟩) hS0 ?_
        simp only [Act.put, List.setIfInBounds_toArray, List.set_cons_zero, List.set_cons_succ]
        refine wpAnyH_take (i := 16) (v := undef) rfl (by kernel_rfl) (by kernel_rfl) (by kernel_rfl) (fun _ _ _ h => h) (Or.inr ⟨by simp [Region.wanted, yielded], rfl⟩) hS0 ?_
        simp only [Act.put, List.setIfInBounds_toArray, List.set_cons_zero, List.set_cons_succ]
        refine wpAnyH_take (i := 17) (v := undef) rfl (by kernel_rfl) (by kernel_rfl) (by kernel_rfl) (fun _ _ _ h => h) (Or.inr ⟨by simp [Region.wanted, yielded], rfl⟩) hS0 ?_
        simp only [Act.put, List.setIfInBounds_toArray, List.set_cons_zero, List.set_cons_succ]
        refine wpAnyH_take (i := 18) (v := undef) rfl (by kernel_rfl) (by kernel_rfl) (by kernel_rfl) (fun _ _ _ h => h) (Or.inr ⟨by simp [Region.wanted, yielded], rfl⟩) hS0 ?_
        simp only [Act.put, List.setIfInBounds_toArray, List.set_cons_zero, List.set_cons_succ]
        refine wpAnyH_take (i := 19) (v := undef) rfl (by kernel_rfl) (by kernel_rfl) (by kernel_rfl) (fun _ _ _ h => h) (Or.inr ⟨by simp [Region.wanted, yielded], rfl⟩) hS0 ?_
        simp only [Act.put, List.setIfInBounds_toArray, List.set_cons_zero, List.set_cons_succ]
        refine wpAnyH_take (i := 20) (v := undef) rfl (by kernel_rfl) (by kernel_rfl) (by kernel_rfl) (fun _ _ _ h => h) (Or.inr ⟨by simp [Region.wanted, yielded], rfl⟩) hS0 ?_
        simp only [Act.put, List.setIfInBounds_toArray, List.set_cons_zero, List.set_cons_succ]
        refine wpAnyH_take (i := 21) (v := .bool true) rfl (by kernel_rfl) (by kernel_rfl) (by kernel_rfl) (fun _ _ _ h => h) (Or.inl ⟨by rfl, ?_⟩) hS0 ?_
        · intro w2 hSw; go_simp
        simp only [Act.put, List.setIfInBounds_toArray, List.set_cons_zero, List.set_cons_succ]
        refine wpAnyH_done (by kernel_rfl) ?_ _
        simp only [List.getElem_toArray, List.getElem_cons_succ, List.getElem_cons_zero, Act.put, List.setIfInBounds_toArray, List.set_cons_zero, List.set_cons_succ]
        go_wp2_with fail
        go_meet
        exact ⟨by simp [hg], hS0.1⟩
      · have hne : (gp != gq) = false := by simpa using hg
        have hS1 := hK.out w4 (Below.refl _ _)
        have zz : w4.drew.heap.size = w4.heap.size := rfl
        go_region_held3 (fun W => Below w4.heap.size w4 W ∧ W.cell? ⟨w.heap.size, 0, none⟩ = some (.slice (some ⟨b0, 0, none⟩) l0.length c0) ∧ W.cell? ⟨w.heap.size, 1, none⟩ = some (.slice (some ⟨b1, 0, none⟩) l1.length c1) ∧ W.cell? ⟨w.heap.size, 2, none⟩ = some (.slice (some ⟨b2, 0, none⟩) l2.length c2) ∧ W.cell? ⟨w.heap.size, 3, none⟩ = some (.slice (some ⟨b3, 0, none⟩) l3.length c3) ∧ W.cell? ⟨bp, 0, none⟩ = some (.int .i64 px) ∧ W.cell? ⟨bp, 1, none⟩ = some (.int .i64 py) ∧ W.cell? ⟨bq, 0, none⟩ = some (.int .i64 qx) ∧ W.cell? ⟨bq, 1, none⟩ = some (.int .i64 qy) ∧ W.cell? ⟨bR, py, none⟩ = some (.int .i64 gp) ∧ W.cell? ⟨bR, qx, none⟩ = some (.int .i64 gq))
          (first | exact hS0 | exact hS1 | assumption | exact k1)
          (first | (go_at_call 179; refine (l4apart_any _ _ _ _ _ _ _ _ l0 l1 l2 l3 bR cR (clsV l0) HC px qy i epx eqy _ n1 n2 t1 t2 ((o1.row.below L0 (Nat.le_refl _)).below hS0.1 (Nat.le_refl _)) ((o2.row.below L0 (Nat.le_refl _)).below hS0.1 (Nat.le_refl _)) (CO.below hS0.1 CO.1)).mono ?_; rintro e v0 ⟨rfl, h0⟩; rw [hap.out]; have k1 := hK.out v0 (hS0.1.trans (h0.mono hS0.1.size))))
        go_wp2_with fail
        go_meet
        exact ⟨by simp [hg], k1.1⟩
    case rest =>
      obtain ⟨rfl, hb⟩ := hcut
      rename World => w5
      clear hK hS0 zA4 zP4 zQ4 zC4
      replace A0 := A0.below hb A0.lt; replace R0 := R0.below hb R0.lt; replace L0 := L0.trans (hb.mono L0.size); replace CO := CO.below hb CO.1
      replace BP := BP.below hb BP.lt; replace BQ := BQ.below hb BQ.lt
      clear hb
      clear CO
      by_cases hall : (decide (gp = gq) && ap) = true
      rotate_left
      · replace hall : (decide (gp = gq) && ap) = false := by simpa using hall
        rw [hall]
        have HE : Hid ((foldB l0 l1 l2 l3 (i : Int) (j : Int)) = false) := by show (foldB l0 l1 l2 l3 (i : Int) (j : Int)) = false; rw [HV.out, hall]
        obtain ⟨F, FO⟩ := R0.fill (.slice none 0 0) (.slice none 0 0) (.slice none 0 0) (.slice none 0 0)
        have j0' := R0.c0; have j1' := R0.c1; have j2' := R0.c2; have j3' := R0.c3
        have g0 := R0.f0; have g1 := R0.f1; have g2 := R0.f2; have g3 := R0.f3
        go_wp2
        have i0 := F.c0; have i1 := F.c1; have i2 := F.c2; have i3 := F.c3
        refine bodyPost_ret (v := .tuple #[.agg #[.slice none 0 0, .slice none 0 0, .slice none 0 0, .slice none 0 0], .bool false]) ?_ rfl ⟨none, none, none, none, 0, 0, 0, 0, by rw [HE.out]; rfl, ?_, ?_⟩
        · simp [results, Try.results91, go_sem, i0, i1, i2, i3]
        · rw [HE.out]; exact Seen.none _ _ _
        · exact L0.trans (FO.below (by omega) L0.size)
      rw [hall]
      have HE : Hid (foldB l0 l1 l2 l3 (i : Int) (j : Int) = true) := by show foldB l0 l1 l2 l3 (i : Int) (j : Int) = true; rw [HV.out, hall]
      clear hall
      have A0c0 := A0.c0; have A0c1 := A0.c1; have A0c2 := A0.c2; have A0c3 := A0.c3
      go_wp2_with fail
      clear A0c0 A0c1 A0c2 A0c3
      refine (l1own_any b0 b1 b2 b3 c0 c1 c2 c3 l0 l1 l2 l3 _ n0 n1 n2 n3 (o0.below L0 o0.1) (o1.below L0 o1.1) (o2.below L0 o2.1) (o3.below L0 o3.1)).mono ?_
      rintro e u0 ⟨a0, a1, a2, a3, e0, e1, e2, e3, m1, m2, m3, m4, rfl, t0', t1', t2', t3', g1, g2, g3, g4, g5, hb⟩
      have zL := L0.size
      have zP := BP.lt
      have zQ := BQ.lt
      have zRR := R0.lt
      replace A0 := A0.below hb A0.lt; replace R0 := R0.below hb R0.lt; replace L0 := L0.trans (hb.mono L0.size); replace BP := BP.below hb BP.lt
      replace BQ := BQ.below hb BQ.lt
      clear hb t2' t3'
      have X0 := Box.new u0 (.slice a0 l0.length e0) (.slice a1 l1.length e1) (.slice a2 l2.length e2) (.slice a3 l3.length e3) 28
      have al : Below u0.heap.size u0 (u0.alloc (.cells #[.slice a0 l0.length e0, .slice a1 l1.length e1, .slice a2 l2.length e2, .slice a3 l3.length e3] 28)) := (Below.refl _ _).alloc (Nat.le_refl _) _
      have zU : (u0.alloc (.cells #[.slice a0 l0.length e0, .slice a1 l1.length e1, .slice a2 l2.length e2, .slice a3 l3.length e3] 28)).heap.size = u0.heap.size + 1 := by simp
      replace A0 := A0.below al A0.lt; replace R0 := R0.below al R0.lt; replace L0 := L0.trans (al.mono L0.size); replace BP := BP.below al BP.lt
      replace BQ := BQ.below al BQ.lt; replace t0' := t0'.below al (by omega); replace t1' := t1'.below al (by omega)
      clear al
      have zX0 := X0.lt
      have zA5 := A0.lt
      have zP5 := BP.lt
      have zQ5 := BQ.lt
      go_upto_region 8 with fail
      generalize hZ : u0.heap.size = Z at *
      clear hZ
      generalize u0.alloc (.cells #[.slice a0 l0.length e0, .slice a1 l1.length e1, .slice a2 l2.length e2, .slice a3 l3.length e3] 28) = u1 at *
      have A0c2 := A0.c2
      have X0f := X0.f2
      go_wp2_with fail
      clear A0c2 X0f
      refine (l4without_any b2 c2 l2 i _ hi n2 z2 (o2.below L0 o2.1)).mono ?_
      rintro e u2 ⟨p2, q2, rfl, r2, hb⟩
      have zu2 := hb.size
      replace A0 := A0.below hb A0.lt; replace R0 := R0.below hb R0.lt; replace L0 := L0.trans (hb.mono L0.size); replace BP := BP.below hb BP.lt
      replace BQ := BQ.below hb BQ.lt; replace t0' := t0'.below hb (by omega); replace t1' := t1'.below hb (by omega); replace X0 := X0.below hb X0.lt
      clear hb
      have x2 := X0.c2; have xf := X0.f2
      go_upto_region 9 with fail
      have ho := Out.set Z 2 u2 (.slice p2 (i + (l2.length - (i + 1))) q2)
      replace X0 := X0.set2 (.slice p2 (i + (l2.length - (i + 1))) q2)
      replace t0' := t0'.out ho (.inl (by omega)); replace t1' := t1'.out ho (.inl (by omega)); replace r2 := r2.out ho (.inr (by omega))
      replace A0 := A0.out ho (.inl (by omega)); replace R0 := R0.out ho (.inl (by omega)); replace L0 := L0.trans (ho.below (by omega) L0.size); replace BP := BP.out ho (.inl (by omega)); replace BQ := BQ.out ho (.inl (by omega))
      have hsz : (u2.setCell ⟨Z, 2, none⟩ (.slice p2 (i + (l2.length - (i + 1))) q2)).heap.size = u2.heap.size := by simp
      clear ho x2 xf
      generalize u2.setCell ⟨Z, 2, none⟩ (.slice p2 (i + (l2.length - (i + 1))) q2) = wR at *
      have hszl : u2.heap.size ≤ wR.heap.size := by omega
      clear hsz zU
      have o3R := o3.below L0 o3.1
      have zz : Z < wR.heap.size ∧ w.heap.size < wR.heap.size ∧ bp < wR.heap.size ∧ bq < wR.heap.size := by omega
      have zn : w.heap.size ≠ Z ∧ bp ≠ Z ∧ bq ≠ Z := by omega
      have zb3' : b3 < Z := by have := o3.1; omega
      have hS1 : VJ wR Z w.heap.size bp bq (.slice a0 l0.length e0) (.slice a1 l1.length e1) (.slice p2 (i + (l2.length - (i + 1))) q2) (.slice (some ⟨b3, 0, none⟩) l3.length c3) (.int .i64 px) (.int .i64 qy) wR := ⟨Out.refl _ _ _, ⟨_, X0⟩, A0.c3, BP.c0, BQ.c1⟩
      have hS0 := vj_ad zz hS1
      go_cut [] (fun wz => ∃ p3 q3, Box wz Z (.slice a0 l0.length e0) (.slice a1 l1.length e1) (.slice p2 (i + (l2.length - (i + 1))) q2) (.slice p3 (j + (l3.length - (j + 1)) + 1) q3) ∧ RowIn wz wR.heap.size wz.heap.size p3 (j + (l3.length - (j + 1)) + 1) (l3.take j ++ l3.drop (j + 1) ++ [((px : Int), (qy : Int))]) ∧ Out Z (Z + 1) wR wz)
      case first =>
        go_region_held3 (fun W => Out Z (Z + 1) wR W ∧ (∃ x, Box W Z (.slice a0 l0.length e0) (.slice a1 l1.length e1) (.slice p2 (i + (l2.length - (i + 1))) q2) x) ∧ W.cell? ⟨w.heap.size, 3, none⟩ = some (.slice (some ⟨b3, 0, none⟩) l3.length c3) ∧ W.cell? ⟨bp, 0, none⟩ = some (.int .i64 px) ∧ W.cell? ⟨bq, 1, none⟩ = some (.int .i64 qy))
          (first | exact hS0 | exact hS1 | assumption | (refine vj_ad zz ?_; assumption) | (refine vj_al zz _ ?_; (first | exact hS0 | exact hS1 | assumption)) | exact vj_ad zz (vj_al zz _ hS1) | (refine vj_store zn _ ?_; assumption) | (refine ⟨?_, ?_, ?_, ?_, ?_⟩ <;> assumption))
          (first
            | (go_at_call 180; refine (l4without_any b3 c3 l3 j _ hj n3 z3 (vj_own o3R zb3' (by assumption))).mono ?_; rintro e u6 ⟨x6, y6, rfl, d6, h6⟩; have kk := vj_room zz (by assumption) h6 d6; have k1 := kk.1; have d6' := kk.2.1; have g6 := kk.2.2)
            | (refine step_roomR (by rfl) _ _ (by rfl) wR.heap.size u6.heap.size x6 (j + (l3.length - (j + 1))) y6 (l3.take j ++ l3.drop (j + 1)) (by rfl) (d6'.below ((Below.refl _ _).alloc (Nat.le_refl _) _) (Nat.le_refl _)) ⟨u6.heap.size, 0, none⟩ 1 1 [((px : Int), (qy : Int))] (by rfl) rfl (own_pair u6 px qy).row (by omega) (Nat.le_trans g6 (by simp)) (by simp) ?_; rintro x7 y7 u7 d7 h7; have k2 := vj_out (vj_al zz _ k1) h7 (Nat.le_refl _) zz; obtain ⟨xo, bx⟩ := k2.2.1; have c3' := bx.c3; have f3' := bx.f3)
            | (refine step_roomR (by rfl) _ _ (by rfl) wR.heap.size u6.heap.size x6 (j + (l3.length - (j + 1))) y6 (l3.take j ++ l3.drop (j + 1)) (by rfl) d6' ⟨wR.heap.size, 0, none⟩ 1 1 [((px : Int), (qy : Int))] (by rfl) rfl (pair_be h6).row (by omega) g6 (Nat.le_refl _) ?_; rintro x7 y7 u7 d7 h7; have k2 := vj_out k1 h7 (Nat.le_refl _) zz; obtain ⟨xo, bx⟩ := k2.2.1; have c3' := bx.c3; have f3' := bx.f3))
        all_goals
          have bz := bx.set3 (.slice x7 (j + (l3.length - (j + 1)) + 1) y7)
          have ho7 := k2.1.trans (Out.set Z 3 u7 (.slice x7 (j + (l3.length - (j + 1)) + 1) y7))
          have d7' := d7.row.out (Out.set Z 3 u7 (.slice x7 (j + (l3.length - (j + 1)) + 1) y7)) (.inr (by omega))
          go_wp2_with fail
          go_meet
          exact ⟨x7, y7, bz, by simpa using d7', ho7⟩
      case rest =>
        obtain ⟨p3, q3, X7, r3, hO⟩ := hcut
        rename World => w7
        clear hS0 hS1 A0 BP BQ
        have s7 := hO.size
        replace t0' := t0'.out hO (.inl (by omega)); replace t1' := t1'.out hO (.inl (by omega)); replace r2 := r2.out hO (.inr (by omega))
        replace R0 := R0.out hO (.inl (by omega)); replace L0 := L0.trans (hO.below (by omega) L0.size)
        clear hO
        obtain ⟨F, FO⟩ := R0.fill (.slice a0 l0.length e0) (.slice a1 l1.length e1) (.slice p2 (i + (l2.length - (i + 1))) q2) (.slice p3 (j + (l3.length - (j + 1)) + 1) q3)
        have x0 := X7.c0; have x1 := X7.c1; have x2 := X7.c2; have x3 := X7.c3
        have j0' := R0.c0; have j1' := R0.c1; have j2' := R0.c2; have j3' := R0.c3
        have g0 := R0.f0; have g1 := R0.f1; have g2 := R0.f2; have g3 := R0.f3
        go_wp2
        have i0 := F.c0; have i1 := F.c1; have i2 := F.c2; have i3 := F.c3
        have EL2 : (l2.take i ++ l2.drop (i + 1)).length = i + (l2.length - (i + 1)) := by simp; omega
        have EL3 : (foldS l2 l3 i j).length = j + (l3.length - (j + 1)) + 1 := by simp [foldS]; omega
        have EV3 : foldS l2 l3 i j = l3.take j ++ l3.drop (j + 1) ++ [((px : Int), (qy : Int))] := by unfold foldS; rw [HP.out, HQ.out]
        refine bodyPost_ret (v := .tuple #[.agg #[.slice a0 l0.length e0, .slice a1 l1.length e1, .slice p2 (i + (l2.length - (i + 1))) q2, .slice p3 (j + (l3.length - (j + 1)) + 1) q3], .bool true]) ?_ rfl ⟨a0, a1, p2, p3, e0, e1, q2, q3, by rw [HE.out, Int.toNat_natCast, Int.toNat_natCast]; simp only [okL, if_true, EL2, EL3], ?_, ?_⟩
        · simp [results, Try.results91, go_sem, i0, i1, i2, i3]
        · have hfs := FO.size
          rw [HE.out, Int.toNat_natCast, Int.toNat_natCast]
          simp only [okL, if_true, EL2, EL3]
          rw [EV3]
          exact ⟨(t0'.row.out FO (.inr (by omega))).mono (by omega) (by omega), (t1'.row.out FO (.inr (by omega))).mono (by omega) (by omega), (r2.row.out FO (.inr (by omega))).mono (by omega) (by omega), (r3.out FO (.inr (by omega))).mono (by omega) (by omega)⟩
        · exact L0.trans (FO.below (by omega) L0.size)

end Go.Proofs.Ytphchdjbhbmnbaa
namespace Go.Proofs.Ytphchdjbhbmnbaa
open Go.RowKit
set_option linter.unusedVariables false

set_option linter.unusedSimpArgs false in
set_option maxRecDepth 20000 in
set_option maxHeartbeats 8000000 in
theorem sSplit_yes (b0 b1 b2 b3 c0 c1 c2 c3 : Nat) (l0 l1 l2 l3 : List (Int × Int)) (k : Nat) (w : World) (n0 : l0.length ≤ 1048576) (n1 : l1.length ≤ 1048576) (n2 : l2.length ≤ 1048576) (n3 : l3.length ≤ 1048576) (o0 : Own w b0 l0.length l0 l0.length) (o1 : Own w b1 l1.length l1 l1.length) (o2 : Own w b2 l2.length l2 l2.length) (o3 : Own w b3 l3.length l3 l3.length) (z3' : l3.length ≤ c3) (hB : roomB l0 l1 l2 l3 = true) (hk : k < l3.length) :
    Calls Try.prog 95 #[.agg #[.slice (some ⟨b0, 0, none⟩) l0.length c0, .slice (some ⟨b1, 0, none⟩) l1.length c1, .slice (some ⟨b2, 0, none⟩) l2.length c2, .slice (some ⟨b3, 0, none⟩) l3.length c3], .int .i64 k] w fun e w' => ∃ p0 p1 p2 p3 q0 q1 q2 q3 u0 u1 u2 u3 v0 v1 v2 v3, e = .returned (.tuple #[.agg #[.slice p0 (l0.length + 1) q0, .slice p1 l1.length q1, .slice p2 l2.length q2, .slice p3 (k + (l3.length - (k + 1))) q3], .agg #[.slice u0 l0.length v0, .slice u1 (l1.length + 1) v1, .slice u2 l2.length v2, .slice u3 l3.length v3], .bool true]) ∧ Seen w' w.heap.size w'.heap.size p0 p1 p2 p3 (l0.length + 1) l1.length l2.length (k + (l3.length - (k + 1))) (l0 ++ [l3.getD k (0, 0)]) l1 l2 (l3.take k ++ l3.drop (k + 1)) ∧ Seen w' w.heap.size w'.heap.size u0 u1 u2 u3 l0.length (l1.length + 1) l2.length l3.length l0 (l1 ++ [l3.getD k (0, 0)]) l2 l3 ∧ Below w.heap.size w w' := by
  have A0 := ((Box.new w (.slice (some ⟨b0, 0, none⟩) l0.length c0) (.slice (some ⟨b1, 0, none⟩) l1.length c1) (.slice (some ⟨b2, 0, none⟩) l2.length c2) (.slice (some ⟨b3, 0, none⟩) l3.length c3) 28).alloc (.cells #[.slice none 0 0, .slice none 0 0, .slice none 0 0, .slice none 0 0] 28)).alloc (.cells #[.slice none 0 0, .slice none 0 0, .slice none 0 0, .slice none 0 0] 28)
  have R0 := (Box.new (w.alloc (.cells #[.slice (some ⟨b0, 0, none⟩) l0.length c0, .slice (some ⟨b1, 0, none⟩) l1.length c1, .slice (some ⟨b2, 0, none⟩) l2.length c2, .slice (some ⟨b3, 0, none⟩) l3.length c3] 28)) (.slice none 0 0) (.slice none 0 0) (.slice none 0 0) (.slice none 0 0) 28).alloc (.cells #[.slice none 0 0, .slice none 0 0, .slice none 0 0, .slice none 0 0] 28)
  have Y0 := Box.new ((w.alloc (.cells #[.slice (some ⟨b0, 0, none⟩) l0.length c0, .slice (some ⟨b1, 0, none⟩) l1.length c1, .slice (some ⟨b2, 0, none⟩) l2.length c2, .slice (some ⟨b3, 0, none⟩) l3.length c3] 28)).alloc (.cells #[.slice none 0 0, .slice none 0 0, .slice none 0 0, .slice none 0 0] 28)) (.slice none 0 0) (.slice none 0 0) (.slice none 0 0) (.slice none 0 0) 28
  have L0 : Below w.heap.size w (((w.alloc (.cells #[.slice (some ⟨b0, 0, none⟩) l0.length c0, .slice (some ⟨b1, 0, none⟩) l1.length c1, .slice (some ⟨b2, 0, none⟩) l2.length c2, .slice (some ⟨b3, 0, none⟩) l3.length c3] 28)).alloc (.cells #[.slice none 0 0, .slice none 0 0, .slice none 0 0, .slice none 0 0] 28)).alloc (.cells #[.slice none 0 0, .slice none 0 0, .slice none 0 0, .slice none 0 0] 28)) := (((Below.refl _ _).alloc (Nat.le_refl _) _).alloc (by simp) _).alloc (by simp; omega) _
  rw [World.size_alloc] at R0 Y0
  rw [World.size_alloc] at Y0
  have A0c0 := A0.c0; have A0c1 := A0.c1; have A0c2 := A0.c2; have A0c3 := A0.c3
  go_enter Try.func95, Try.ntmps95
  go_upto_region 1 with fail
  replace o0 := o0.below L0 o0.1; replace o1 := o1.below L0 o1.1; replace o2 := o2.below L0 o2.1; replace o3 := o3.below L0 o3.1
  generalize (((w.alloc (.cells #[.slice (some ⟨b0, 0, none⟩) l0.length c0, .slice (some ⟨b1, 0, none⟩) l1.length c1, .slice (some ⟨b2, 0, none⟩) l2.length c2, .slice (some ⟨b3, 0, none⟩) l3.length c3] 28)).alloc (.cells #[.slice none 0 0, .slice none 0 0, .slice none 0 0, .slice none 0 0] 28)).alloc (.cells #[.slice none 0 0, .slice none 0 0, .slice none 0 0, .slice none 0 0] 28)) = wB at *
  go_wp2_with fail
  refine (l4room_any _ _ _ _ _ _ _ _ l0 l1 l2 l3 _ n0 n1 n2 n3 o0.row o1.row o2.row o3.row).mono ?_
  rintro e w1 ⟨rfl, hb⟩
  clear A0c0 A0c1 A0c2 A0c3
  replace A0 := A0.below hb A0.lt; replace R0 := R0.below hb R0.lt; replace Y0 := Y0.below hb Y0.lt; replace L0 := L0.trans (hb.mono L0.size)
  replace o0 := o0.below hb o0.1; replace o1 := o1.below hb o1.1; replace o2 := o2.below hb o2.1; replace o3 := o3.below hb o3.1
  clear hb
  rw [hB]
  obtain ⟨⟨sx, sy⟩, HSG⟩ : ∃ s, Hid (l3.getD k (0, 0) = s) := ⟨_, rfl⟩
  have hS := o3.2.2 k hk
  rw [HSG.out] at hS
  obtain ⟨q1, q2⟩ := hS
  dsimp only at q1 q2
  have hi : (k : Int) < (l3.length : Int) := by omega
  have hge : ¬ ((l3.length : Int) ≤ (k : Int)) := by omega
  have hi0 : (0 : Int) ≤ (k : Int) := by omega
  have hlt : ¬ ((k : Int) < 0) := by omega
  have A0c3 := A0.c3
  have z1 := A0.lt; have z2 := R0.lt; have z3 := Y0.lt; have z4 := L0.size
  go_upto_region 4 with fail
  have BP := PBox.new w1 sx sy 69
  have al : Below w1.heap.size w1 (w1.alloc (.cells #[.int .i64 sx, .int .i64 sy] 69)) := (Below.refl _ _).alloc (Nat.le_refl _) _
  have zp : (w1.alloc (.cells #[.int .i64 sx, .int .i64 sy] 69)).heap.size = w1.heap.size + 1 := by simp
  clear A0c3 q1 q2
  replace A0 := A0.below al A0.lt; replace R0 := R0.below al R0.lt; replace Y0 := Y0.below al Y0.lt; replace L0 := L0.trans (al.mono L0.size)
  replace o0 := o0.below al o0.1; replace o1 := o1.below al o1.1; replace o2 := o2.below al o2.1; replace o3 := o3.below al o3.1
  clear al
  generalize hp : w1.heap.size = p at *
  replace zp : p + 1 ≤ (w1.alloc (.cells #[.int .i64 sx, .int .i64 sy] 69)).heap.size := by omega
  clear hp
  generalize w1.alloc (.cells #[.int .i64 sx, .int .i64 sy] 69) = w4 at *
  have zA4 := A0.lt
  have zP4 := BP.lt
  have hK : Hid (∀ W : World, Below w4.heap.size w4 W → W.cell? ⟨w.heap.size, 0, none⟩ = some (.slice (some ⟨b0, 0, none⟩) l0.length c0) ∧ W.cell? ⟨w.heap.size, 1, none⟩ = some (.slice (some ⟨b1, 0, none⟩) l1.length c1) ∧ W.cell? ⟨w.heap.size, 2, none⟩ = some (.slice (some ⟨b2, 0, none⟩) l2.length c2) ∧ W.cell? ⟨w.heap.size, 3, none⟩ = some (.slice (some ⟨b3, 0, none⟩) l3.length c3)) := fun W hW => ⟨by rw [hW.cell (p := ⟨w.heap.size, 0, none⟩) zA4]; exact A0.c0, by rw [hW.cell (p := ⟨w.heap.size, 1, none⟩) zA4]; exact A0.c1, by rw [hW.cell (p := ⟨w.heap.size, 2, none⟩) zA4]; exact A0.c2, by rw [hW.cell (p := ⟨w.heap.size, 3, none⟩) zA4]; exact A0.c3⟩
  have k0 : Below w4.heap.size w4 w4.drew := (Below.refl _ _).drew
  have hS0 := hK.out _ k0
  go_cut [8, 9] (fun v8 v9 wz => ∃ Z Y s0 s1 s2 s3 f0 f1 f2 f3 m0 m1 m2 m3 m4 y0 y1 y2 y3 j0 j1 j2 j3 n0 n1 n2 n3 n4, v8 = .pointer (some ⟨Z, 0, none⟩) ∧ v9 = .pointer (some ⟨Y, 0, none⟩) ∧ Box wz Z (.slice s0 l0.length f0) (.slice s1 l1.length f1) (.slice s2 l2.length f2) (.slice s3 l3.length f3) ∧ Box wz Y (.slice y0 l0.length j0) (.slice y1 l1.length j1) (.slice y2 l2.length j2) (.slice y3 l3.length j3) ∧
    (RoomIn wz m0 m1 s0 l0.length f0 l0 ∧ RoomIn wz m1 m2 s1 l1.length f1 l1 ∧ RoomIn wz m2 m3 s2 l2.length f2 l2 ∧ RoomIn wz m3 m4 s3 l3.length f3 l3) ∧ (RoomIn wz n0 n1 y0 l0.length j0 l0 ∧ RoomIn wz n1 n2 y1 l1.length j1 l1 ∧ RoomIn wz n2 n3 y2 l2.length j2 l2 ∧ RoomIn wz n3 n4 y3 l3.length j3 l3) ∧ (w4.heap.size ≤ m0 ∧ m0 ≤ m1 ∧ m1 ≤ m2 ∧ m2 ≤ m3 ∧ m3 ≤ m4 ∧ m4 ≤ wz.heap.size) ∧ (w4.heap.size ≤ n0 ∧ n0 ≤ n1 ∧ n1 ≤ n2 ∧ n2 ≤ n3 ∧ n3 ≤ n4 ∧ n4 ≤ wz.heap.size) ∧ (w4.heap.size ≤ Z ∧ w4.heap.size ≤ Y ∧ Z ≠ Y ∧ (Z < m0 ∨ m4 ≤ Z) ∧ (Z < n0 ∨ n4 ≤ Z) ∧ (Y < m0 ∨ m4 ≤ Y) ∧ (Y < n0 ∨ n4 ≤ Y) ∧ (m4 ≤ n0 ∨ n4 ≤ m0)) ∧ Below w4.heap.size w4 wz)
  case first =>
    refine wp_region_held_drew (S := fun W => W.cell? ⟨w.heap.size, 0, none⟩ = some (.slice (some ⟨b0, 0, none⟩) l0.length c0) ∧ W.cell? ⟨w.heap.size, 1, none⟩ = some (.slice (some ⟨b1, 0, none⟩) l1.length c1) ∧ W.cell? ⟨w.heap.size, 2, none⟩ = some (.slice (some ⟨b2, 0, none⟩) l2.length c2) ∧ W.cell? ⟨w.heap.size, 3, none⟩ = some (.slice (some ⟨b3, 0, none⟩) l3.length c3)) (by kernel_rfl) hS0 (fun _ => ?_)
    have ksz := k0.size
    have ob0 : b0 < w4.heap.size := o0.1
    have ob1 : b1 < w4.heap.size := o1.1
    have ob2 : b2 < w4.heap.size := o2.1
    have ob3 : b3 < w4.heap.size := o3.1
    replace o0 := o0.below k0 o0.1; replace o1 := o1.below k0 o1.1; replace o2 := o2.below k0 o2.1; replace o3 := o3.below k0 o3.1
    have hx := hS0
    have kx := k0
    clear k0
    clear R0 Y0 BP hS0
    generalize w4.drew = x0 at *
    refine wpAnyH_take (i := 0) (v := .agg #[.slice (some ⟨b0, 0, none⟩) l0.length c0, .slice (some ⟨b1, 0, none⟩) l1.length c1, .slice (some ⟨b2, 0, none⟩) l2.length c2, .slice (some ⟨b3, 0, none⟩) l3.length c3]) rfl (by kernel_rfl) (by kernel_rfl) (by kernel_rfl) (fun _ _ _ h => h) (Or.inl ⟨by rfl, ?_⟩) hx ?_
    · intro w2 hSw; go_simp
    try simp only [Act.put, List.setIfInBounds_toArray, List.set_cons_zero, List.set_cons_succ]
    refine wpAnyH_take (i := 2) (v := .agg #[.slice (some ⟨b0, 0, none⟩) l0.length c0, .slice (some ⟨b1, 0, none⟩) l1.length c1, .slice (some ⟨b2, 0, none⟩) l2.length c2, .slice (some ⟨b3, 0, none⟩) l3.length c3]) rfl (by kernel_rfl) (by kernel_rfl) (by kernel_rfl) (fun _ _ _ h => h) (Or.inl ⟨by rfl, ?_⟩) hx ?_
    · intro w2 hSw; go_simp
    try simp only [Act.put, List.setIfInBounds_toArray, List.set_cons_zero, List.set_cons_succ]
    refine wpAnyH_ready (rs := [1, 4, 5]) (by kernel_rfl) (by simp) ?_
    refine AllReadyH.cons (o := { dst := some 32, op := Op.call { callee := Callee.value (Operand.func 150), args := #[Operand.tmp 31], argTypes := #[28] }, type := 28, pos := "l04_cases.go:264", after := #[{ on := 0, ground := Ground.data }], guard := none }) rfl (fun K hK' => ?_) (AllReadyH.cons (o := { dst := some 8, op := Op.alloc 28, type := 0, pos := "l04_cases.go:264", after := #[], guard := none }) rfl (fun K hK' => ?_) (AllReadyH.cons (o := { dst := some 9, op := Op.alloc 28, type := 0, pos := "l04_cases.go:264", after := #[], guard := none }) rfl (fun K hK' => ?_) AllReadyH.nil))
    · rw [if_pos (by rfl)]
      go_simp
      go_at_call 150
      refine (l1own_any b0 b1 b2 b3 c0 c1 c2 c3 l0 l1 l2 l3 _ n0 n1 n2 n3 o0 o1 o2 o3).mono ?_
      rintro e x1 ⟨a0, a1, a2, a3, f0, f1, f2, f3, m1, m2, m3, m4, rfl, T0, T1, T2, T3, mg1, mg2, mg3, mg4, mg5, hb⟩
      have hbs := hb.size
      replace o0 := o0.below hb o0.1; replace o1 := o1.below hb o1.1; replace o2 := o2.below hb o2.1; replace o3 := o3.below hb o3.1
      replace kx := kx.trans (hb.mono kx.size)
      replace hx := hK.out _ kx
      have ksz := kx.size
      refine hK'.out _ _ hx (fun _ => ?_)
      clear hK' K hb
      generalize hxs : x0.heap.size = m0 at *
      clear hxs
      refine wpAnyH_ready (rs := [3, 4, 5]) (by kernel_rfl) (by simp) ?_
      refine AllReadyH.cons (o := { dst := some 34, op := Op.call { callee := Callee.value (Operand.func 150), args := #[Operand.tmp 33], argTypes := #[28] }, type := 28, pos := "l04_cases.go:264", after := #[{ on := 2, ground := Ground.data }, { on := 1, ground := Ground.chain }], guard := none }) rfl (fun K hK' => ?_) (AllReadyH.cons (o := { dst := some 8, op := Op.alloc 28, type := 0, pos := "l04_cases.go:264", after := #[], guard := none }) rfl (fun K hK' => ?_) (AllReadyH.cons (o := { dst := some 9, op := Op.alloc 28, type := 0, pos := "l04_cases.go:264", after := #[], guard := none }) rfl (fun K hK' => ?_) AllReadyH.nil))
      · rw [if_pos (by rfl)]
        go_simp
        go_at_call 150
        refine (l1own_any b0 b1 b2 b3 c0 c1 c2 c3 l0 l1 l2 l3 _ n0 n1 n2 n3 o0 o1 o2 o3).mono ?_
        rintro e x2 ⟨d0, d1, d2, d3, e0, e1, e2, e3, j1, j2, j3, j4, rfl, U0, U1, U2, U3, jg1, jg2, jg3, jg4, jg5, hb⟩
        have hbs := hb.size
        replace T0 := T0.below hb (by omega); replace T1 := T1.below hb (by omega); replace T2 := T2.below hb (by omega); replace T3 := T3.below hb (by omega); replace o0 := o0.below hb o0.1; replace o1 := o1.below hb o1.1; replace o2 := o2.below hb o2.1; replace o3 := o3.below hb o3.1
        replace kx := kx.trans (hb.mono kx.size)
        replace hx := hK.out _ kx
        have ksz := kx.size
        refine hK'.out _ _ hx (fun _ => ?_)
        clear hK' K hb
        generalize hxs : x1.heap.size = j0 at *
        clear hxs
        refine wpAnyH_ready (rs := [4, 5]) (by kernel_rfl) (by simp) ?_
        refine AllReadyH.cons (o := { dst := some 8, op := Op.alloc 28, type := 0, pos := "l04_cases.go:264", after := #[], guard := none }) rfl (fun K hK' => ?_) (AllReadyH.cons (o := { dst := some 9, op := Op.alloc 28, type := 0, pos := "l04_cases.go:264", after := #[], guard := none }) rfl (fun K hK' => ?_) AllReadyH.nil)
        · rw [if_pos (by rfl)]
          go_simp
          have ZB := Box.new x2 (.slice none 0 0) (.slice none 0 0) (.slice none 0 0) (.slice none 0 0) 28
          have hb : Below x2.heap.size x2 (x2.alloc (.cells #[.slice none 0 0, .slice none 0 0, .slice none 0 0, .slice none 0 0] 28)) := (Below.refl _ _).alloc (Nat.le_refl _) _
          have hbs := hb.size
          replace T0 := T0.below hb (by omega); replace T1 := T1.below hb (by omega); replace T2 := T2.below hb (by omega); replace T3 := T3.below hb (by omega); replace U0 := U0.below hb (by omega); replace U1 := U1.below hb (by omega); replace U2 := U2.below hb (by omega); replace U3 := U3.below hb (by omega); replace o0 := o0.below hb o0.1; replace o1 := o1.below hb o1.1; replace o2 := o2.below hb o2.1; replace o3 := o3.below hb o3.1
          replace kx := kx.trans (hb.mono kx.size)
          replace hx := hK.out _ kx
          have ksz := kx.size
          refine hK'.out _ _ hx (fun _ => ?_)
          clear hK' K hb
          have Zlt := ZB.lt
          generalize hxs : x2.heap.size = Z at *
          clear hxs
          generalize x2.alloc (.cells #[.slice none 0 0, .slice none 0 0, .slice none 0 0, .slice none 0 0] 28) = x3 at *
          refine wpAnyH_ready (rs := [5]) (by kernel_rfl) (by simp) ?_
          refine AllReadyH.cons (o := { dst := some 9, op := Op.alloc 28, type := 0, pos := "l04_cases.go:264", after := #[], guard := none }) rfl (fun K hK' => ?_) AllReadyH.nil
          rw [if_pos (by rfl)]
          go_simp
          have YB := Box.new x3 (.slice none 0 0) (.slice none 0 0) (.slice none 0 0) (.slice none 0 0) 28
          have hb : Below x3.heap.size x3 (x3.alloc (.cells #[.slice none 0 0, .slice none 0 0, .slice none 0 0, .slice none 0 0] 28)) := (Below.refl _ _).alloc (Nat.le_refl _) _
          have hbs := hb.size
          replace ZB := ZB.below hb ZB.lt; replace T0 := T0.below hb (by omega); replace T1 := T1.below hb (by omega); replace T2 := T2.below hb (by omega); replace T3 := T3.below hb (by omega); replace U0 := U0.below hb (by omega); replace U1 := U1.below hb (by omega); replace U2 := U2.below hb (by omega); replace U3 := U3.below hb (by omega); replace o0 := o0.below hb o0.1; replace o1 := o1.below hb o1.1; replace o2 := o2.below hb o2.1; replace o3 := o3.below hb o3.1
          replace kx := kx.trans (hb.mono kx.size)
          replace hx := hK.out _ kx
          have ksz := kx.size
          refine hK'.out _ _ hx (fun _ => ?_)
          clear hK' K hb
          have Ylt := YB.lt
          generalize hxs : x3.heap.size = Y at *
          clear hxs
          generalize x3.alloc (.cells #[.slice none 0 0, .slice none 0 0, .slice none 0 0, .slice none 0 0] 28) = x4 at *
          refine wpAnyH_ready (rs := [6]) (by kernel_rfl) (by simp) ?_
          refine AllReadyH.cons (o := { dst := none, op := Op.store 28 (Operand.tmp 8) (Operand.tmp 32), type := 0, pos := "l04_cases.go:264", after := #[{ on := 4, ground := Ground.data }, { on := 1, ground := Ground.data }, { on := 3, ground := Ground.chain }, { on := 0, ground := Ground.phase }, { on := 1, ground := Ground.phase }, { on := 2, ground := Ground.textOnly Departure.lateStores }, { on := 3, ground := Ground.textOnly Departure.lateStoresUnsure }, { on := 4, ground := Ground.phase }, { on := 5, ground := Ground.phase }], guard := none }) rfl (fun K hK' => ?_) AllReadyH.nil
          rw [if_pos (by rfl)]
          have bc0 := ZB.c0; have bf0 := ZB.f0
          have bc1 := ZB.c1; have bf1 := ZB.f1
          have bc2 := ZB.c2; have bf2 := ZB.f2
          have bc3 := ZB.c3; have bf3 := ZB.f3
          go_simp
          clear bc0 bc1 bc2 bc3 bf0 bf1 bf2 bf3
          obtain ⟨FB, FO⟩ := ZB.fill (.slice a0 l0.length f0) (.slice a1 l1.length f1) (.slice a2 l2.length f2) (.slice a3 l3.length f3)
          replace YB := YB.out FO (by omega); replace T0 := T0.out FO (by omega); replace T1 := T1.out FO (by omega); replace T2 := T2.out FO (by omega); replace T3 := T3.out FO (by omega); replace U0 := U0.out FO (by omega); replace U1 := U1.out FO (by omega); replace U2 := U2.out FO (by omega); replace U3 := U3.out FO (by omega); replace o0 := o0.out FO (by omega); replace o1 := o1.out FO (by omega); replace o2 := o2.out FO (by omega); replace o3 := o3.out FO (by omega)
          replace kx := kx.trans (FO.below (B := w4.heap.size) (by omega) kx.size)
          replace hx := hK.out _ kx
          have fsz := FO.size
          have ksz := kx.size
          refine hK'.out _ _ hx (fun _ => ?_)
          clear hK' K FO ZB
          have ZB := FB
          clear FB
          generalize ((((x4.setCell ⟨Z, 0, none⟩ (.slice a0 l0.length f0)).setCell ⟨Z, 1, none⟩ (.slice a1 l1.length f1)).setCell ⟨Z, 2, none⟩ (.slice a2 l2.length f2)).setCell ⟨Z, 3, none⟩ (.slice a3 l3.length f3)) = x5 at *
          generalize hxs : x4.heap.size = Sx5 at *
          clear hxs
          refine wpAnyH_ready (rs := [7]) (by kernel_rfl) (by simp) ?_
          refine AllReadyH.cons (o := { dst := none, op := Op.store 28 (Operand.tmp 9) (Operand.tmp 34), type := 0, pos := "l04_cases.go:264", after := #[{ on := 5, ground := Ground.data }, { on := 3, ground := Ground.data }, { on := 6, ground := Ground.chain }, { on := 0, ground := Ground.phase }, { on := 1, ground := Ground.phase }, { on := 2, ground := Ground.phase }, { on := 3, ground := Ground.phase }, { on := 4, ground := Ground.phase }, { on := 5, ground := Ground.phase }, { on := 6, ground := Ground.phase }], guard := none }) rfl (fun K hK' => ?_) AllReadyH.nil
          rw [if_pos (by rfl)]
          have bc0 := YB.c0; have bf0 := YB.f0
          have bc1 := YB.c1; have bf1 := YB.f1
          have bc2 := YB.c2; have bf2 := YB.f2
          have bc3 := YB.c3; have bf3 := YB.f3
          go_simp
          clear bc0 bc1 bc2 bc3 bf0 bf1 bf2 bf3
          obtain ⟨FB, FO⟩ := YB.fill (.slice d0 l0.length e0) (.slice d1 l1.length e1) (.slice d2 l2.length e2) (.slice d3 l3.length e3)
          replace ZB := ZB.out FO (by omega); replace T0 := T0.out FO (by omega); replace T1 := T1.out FO (by omega); replace T2 := T2.out FO (by omega); replace T3 := T3.out FO (by omega); replace U0 := U0.out FO (by omega); replace U1 := U1.out FO (by omega); replace U2 := U2.out FO (by omega); replace U3 := U3.out FO (by omega); replace o0 := o0.out FO (by omega); replace o1 := o1.out FO (by omega); replace o2 := o2.out FO (by omega); replace o3 := o3.out FO (by omega)
          replace kx := kx.trans (FO.below (B := w4.heap.size) (by omega) kx.size)
          replace hx := hK.out _ kx
          have fsz := FO.size
          have ksz := kx.size
          refine hK'.out _ _ hx (fun _ => ?_)
          clear hK' K FO YB
          have YB := FB
          clear FB
          generalize ((((x5.setCell ⟨Y, 0, none⟩ (.slice d0 l0.length e0)).setCell ⟨Y, 1, none⟩ (.slice d1 l1.length e1)).setCell ⟨Y, 2, none⟩ (.slice d2 l2.length e2)).setCell ⟨Y, 3, none⟩ (.slice d3 l3.length e3)) = x6 at *
          generalize hxs : x5.heap.size = Sx6 at *
          clear hxs
          refine wpAnyH_done (by kernel_rfl) ?_ _
          try simp only [List.getElem_toArray, List.getElem_cons_succ, List.getElem_cons_zero, Act.put, List.setIfInBounds_toArray, List.set_cons_zero, List.set_cons_succ]
          go_wp2_with fail
          go_meet
          exact ⟨Z, Y, a0, a1, a2, a3, f0, f1, f2, f3, _, m1, m2, m3, m4, d0, d1, d2, d3, e0, e1, e2, e3, _, j1, j2, j3, j4, rfl, rfl, ZB, YB, ⟨T0, T1, T2, T3⟩, ⟨U0, U1, U2, U3⟩, by omega, by omega, by omega, kx⟩
        · rw [if_pos (by rfl)]
          go_simp
          have YB := Box.new x2 (.slice none 0 0) (.slice none 0 0) (.slice none 0 0) (.slice none 0 0) 28
          have hb : Below x2.heap.size x2 (x2.alloc (.cells #[.slice none 0 0, .slice none 0 0, .slice none 0 0, .slice none 0 0] 28)) := (Below.refl _ _).alloc (Nat.le_refl _) _
          have hbs := hb.size
          replace T0 := T0.below hb (by omega); replace T1 := T1.below hb (by omega); replace T2 := T2.below hb (by omega); replace T3 := T3.below hb (by omega); replace U0 := U0.below hb (by omega); replace U1 := U1.below hb (by omega); replace U2 := U2.below hb (by omega); replace U3 := U3.below hb (by omega); replace o0 := o0.below hb o0.1; replace o1 := o1.below hb o1.1; replace o2 := o2.below hb o2.1; replace o3 := o3.below hb o3.1
          replace kx := kx.trans (hb.mono kx.size)
          replace hx := hK.out _ kx
          have ksz := kx.size
          refine hK'.out _ _ hx (fun _ => ?_)
          clear hK' K hb
          have Ylt := YB.lt
          generalize hxs : x2.heap.size = Y at *
          clear hxs
          generalize x2.alloc (.cells #[.slice none 0 0, .slice none 0 0, .slice none 0 0, .slice none 0 0] 28) = x3 at *
          refine wpAnyH_ready (rs := [4]) (by kernel_rfl) (by simp) ?_
          refine AllReadyH.cons (o := { dst := some 8, op := Op.alloc 28, type := 0, pos := "l04_cases.go:264", after := #[], guard := none }) rfl (fun K hK' => ?_) AllReadyH.nil
          rw [if_pos (by rfl)]
          go_simp
          have ZB := Box.new x3 (.slice none 0 0) (.slice none 0 0) (.slice none 0 0) (.slice none 0 0) 28
          have hb : Below x3.heap.size x3 (x3.alloc (.cells #[.slice none 0 0, .slice none 0 0, .slice none 0 0, .slice none 0 0] 28)) := (Below.refl _ _).alloc (Nat.le_refl _) _
          have hbs := hb.size
          replace YB := YB.below hb YB.lt; replace T0 := T0.below hb (by omega); replace T1 := T1.below hb (by omega); replace T2 := T2.below hb (by omega); replace T3 := T3.below hb (by omega); replace U0 := U0.below hb (by omega); replace U1 := U1.below hb (by omega); replace U2 := U2.below hb (by omega); replace U3 := U3.below hb (by omega); replace o0 := o0.below hb o0.1; replace o1 := o1.below hb o1.1; replace o2 := o2.below hb o2.1; replace o3 := o3.below hb o3.1
          replace kx := kx.trans (hb.mono kx.size)
          replace hx := hK.out _ kx
          have ksz := kx.size
          refine hK'.out _ _ hx (fun _ => ?_)
          clear hK' K hb
          have Zlt := ZB.lt
          generalize hxs : x3.heap.size = Z at *
          clear hxs
          generalize x3.alloc (.cells #[.slice none 0 0, .slice none 0 0, .slice none 0 0, .slice none 0 0] 28) = x4 at *
          refine wpAnyH_ready (rs := [6]) (by kernel_rfl) (by simp) ?_
          refine AllReadyH.cons (o := { dst := none, op := Op.store 28 (Operand.tmp 8) (Operand.tmp 32), type := 0, pos := "l04_cases.go:264", after := #[{ on := 4, ground := Ground.data }, { on := 1, ground := Ground.data }, { on := 3, ground := Ground.chain }, { on := 0, ground := Ground.phase }, { on := 1, ground := Ground.phase }, { on := 2, ground := Ground.textOnly Departure.lateStores }, { on := 3, ground := Ground.textOnly Departure.lateStoresUnsure }, { on := 4, ground := Ground.phase }, { on := 5, ground := Ground.phase }], guard := none }) rfl (fun K hK' => ?_) AllReadyH.nil
          rw [if_pos (by rfl)]
          have bc0 := ZB.c0; have bf0 := ZB.f0
          have bc1 := ZB.c1; have bf1 := ZB.f1
          have bc2 := ZB.c2; have bf2 := ZB.f2
          have bc3 := ZB.c3; have bf3 := ZB.f3
          go_simp
          clear bc0 bc1 bc2 bc3 bf0 bf1 bf2 bf3
          obtain ⟨FB, FO⟩ := ZB.fill (.slice a0 l0.length f0) (.slice a1 l1.length f1) (.slice a2 l2.length f2) (.slice a3 l3.length f3)
          replace YB := YB.out FO (by omega); replace T0 := T0.out FO (by omega); replace T1 := T1.out FO (by omega); replace T2 := T2.out FO (by omega); replace T3 := T3.out FO (by omega); replace U0 := U0.out FO (by omega); replace U1 := U1.out FO (by omega); replace U2 := U2.out FO (by omega); replace U3 := U3.out FO (by omega); replace o0 := o0.out FO (by omega); replace o1 := o1.out FO (by omega); replace o2 := o2.out FO (by omega); replace o3 := o3.out FO (by omega)
          replace kx := kx.trans (FO.below (B := w4.heap.size) (by omega) kx.size)
          replace hx := hK.out _ kx
          have fsz := FO.size
          have ksz := kx.size
          refine hK'.out _ _ hx (fun _ => ?_)
          clear hK' K FO ZB
          have ZB := FB
          clear FB
          generalize ((((x4.setCell ⟨Z, 0, none⟩ (.slice a0 l0.length f0)).setCell ⟨Z, 1, none⟩ (.slice a1 l1.length f1)).setCell ⟨Z, 2, none⟩ (.slice a2 l2.length f2)).setCell ⟨Z, 3, none⟩ (.slice a3 l3.length f3)) = x5 at *
          generalize hxs : x4.heap.size = Sx5 at *
          clear hxs
          refine wpAnyH_ready (rs := [7]) (by kernel_rfl) (by simp) ?_
          refine AllReadyH.cons (o := { dst := none, op := Op.store 28 (Operand.tmp 9) (Operand.tmp 34), type := 0, pos := "l04_cases.go:264", after := #[{ on := 5, ground := Ground.data }, { on := 3, ground := Ground.data }, { on := 6, ground := Ground.chain }, { on := 0, ground := Ground.phase }, { on := 1, ground := Ground.phase }, { on := 2, ground := Ground.phase }, { on := 3, ground := Ground.phase }, { on := 4, ground := Ground.phase }, { on := 5, ground := Ground.phase }, { on := 6, ground := Ground.phase }], guard := none }) rfl (fun K hK' => ?_) AllReadyH.nil
          rw [if_pos (by rfl)]
          have bc0 := YB.c0; have bf0 := YB.f0
          have bc1 := YB.c1; have bf1 := YB.f1
          have bc2 := YB.c2; have bf2 := YB.f2
          have bc3 := YB.c3; have bf3 := YB.f3
          go_simp
          clear bc0 bc1 bc2 bc3 bf0 bf1 bf2 bf3
          obtain ⟨FB, FO⟩ := YB.fill (.slice d0 l0.length e0) (.slice d1 l1.length e1) (.slice d2 l2.length e2) (.slice d3 l3.length e3)
          replace ZB := ZB.out FO (by omega); replace T0 := T0.out FO (by omega); replace T1 := T1.out FO (by omega); replace T2 := T2.out FO (by omega); replace T3 := T3.out FO (by omega); replace U0 := U0.out FO (by omega); replace U1 := U1.out FO (by omega); replace U2 := U2.out FO (by omega); replace U3 := U3.out FO (by omega); replace o0 := o0.out FO (by omega); replace o1 := o1.out FO (by omega); replace o2 := o2.out FO (by omega); replace o3 := o3.out FO (by omega)
          replace kx := kx.trans (FO.below (B := w4.heap.size) (by omega) kx.size)
          replace hx := hK.out _ kx
          have fsz := FO.size
          have ksz := kx.size
          refine hK'.out _ _ hx (fun _ => ?_)
          clear hK' K FO YB
          have YB := FB
          clear FB
          generalize ((((x5.setCell ⟨Y, 0, none⟩ (.slice d0 l0.length e0)).setCell ⟨Y, 1, none⟩ (.slice d1 l1.length e1)).setCell ⟨Y, 2, none⟩ (.slice d2 l2.length e2)).setCell ⟨Y, 3, none⟩ (.slice d3 l3.length e3)) = x6 at *
          generalize hxs : x5.heap.size = Sx6 at *
          clear hxs
          refine wpAnyH_done (by kernel_rfl) ?_ _
          try simp only [List.getElem_toArray, List.getElem_cons_succ, List.getElem_cons_zero, Act.put, List.setIfInBounds_toArray, List.set_cons_zero, List.set_cons_succ]
          go_wp2_with fail
          go_meet
          exact ⟨Z, Y, a0, a1, a2, a3, f0, f1, f2, f3, _, m1, m2, m3, m4, d0, d1, d2, d3, e0, e1, e2, e3, _, j1, j2, j3, j4, rfl, rfl, ZB, YB, ⟨T0, T1, T2, T3⟩, ⟨U0, U1, U2, U3⟩, by omega, by omega, by omega, kx⟩
      · rw [if_pos (by rfl)]
        go_simp
        have ZB := Box.new x1 (.slice none 0 0) (.slice none 0 0) (.slice none 0 0) (.slice none 0 0) 28
        have hb : Below x1.heap.size x1 (x1.alloc (.cells #[.slice none 0 0, .slice none 0 0, .slice none 0 0, .slice none 0 0] 28)) := (Below.refl _ _).alloc (Nat.le_refl _) _
        have hbs := hb.size
        replace T0 := T0.below hb (by omega); replace T1 := T1.below hb (by omega); replace T2 := T2.below hb (by omega); replace T3 := T3.below hb (by omega); replace o0 := o0.below hb o0.1; replace o1 := o1.below hb o1.1; replace o2 := o2.below hb o2.1; replace o3 := o3.below hb o3.1
        replace kx := kx.trans (hb.mono kx.size)
        replace hx := hK.out _ kx
        have ksz := kx.size
        refine hK'.out _ _ hx (fun _ => ?_)
        clear hK' K hb
        have Zlt := ZB.lt
        generalize hxs : x1.heap.size = Z at *
        clear hxs
        generalize x1.alloc (.cells #[.slice none 0 0, .slice none 0 0, .slice none 0 0, .slice none 0 0] 28) = x2 at *
        refine wpAnyH_ready (rs := [3, 5]) (by kernel_rfl) (by simp) ?_
        refine AllReadyH.cons (o := { dst := some 34, op := Op.call { callee := Callee.value (Operand.func 150), args := #[Operand.tmp 33], argTypes := #[28] }, type := 28, pos := "l04_cases.go:264", after := #[{ on := 2, ground := Ground.data }, { on := 1, ground := Ground.chain }], guard := none }) rfl (fun K hK' => ?_) (AllReadyH.cons (o := { dst := some 9, op := Op.alloc 28, type := 0, pos := "l04_cases.go:264", after := #[], guard := none }) rfl (fun K hK' => ?_) AllReadyH.nil)
        · rw [if_pos (by rfl)]
          go_simp
          go_at_call 150
          refine (l1own_any b0 b1 b2 b3 c0 c1 c2 c3 l0 l1 l2 l3 _ n0 n1 n2 n3 o0 o1 o2 o3).mono ?_
          rintro e x3 ⟨d0, d1, d2, d3, e0, e1, e2, e3, j1, j2, j3, j4, rfl, U0, U1, U2, U3, jg1, jg2, jg3, jg4, jg5, hb⟩
          have hbs := hb.size
          replace ZB := ZB.below hb ZB.lt; replace T0 := T0.below hb (by omega); replace T1 := T1.below hb (by omega); replace T2 := T2.below hb (by omega); replace T3 := T3.below hb (by omega); replace o0 := o0.below hb o0.1; replace o1 := o1.below hb o1.1; replace o2 := o2.below hb o2.1; replace o3 := o3.below hb o3.1
          replace kx := kx.trans (hb.mono kx.size)
          replace hx := hK.out _ kx
          have ksz := kx.size
          refine hK'.out _ _ hx (fun _ => ?_)
          clear hK' K hb
          generalize hxs : x2.heap.size = j0 at *
          clear hxs
          refine wpAnyH_ready (rs := [5]) (by kernel_rfl) (by simp) ?_
          refine AllReadyH.cons (o := { dst := some 9, op := Op.alloc 28, type := 0, pos := "l04_cases.go:264", after := #[], guard := none }) rfl (fun K hK' => ?_) AllReadyH.nil
          rw [if_pos (by rfl)]
          go_simp
          have YB := Box.new x3 (.slice none 0 0) (.slice none 0 0) (.slice none 0 0) (.slice none 0 0) 28
          have hb : Below x3.heap.size x3 (x3.alloc (.cells #[.slice none 0 0, .slice none 0 0, .slice none 0 0, .slice none 0 0] 28)) := (Below.refl _ _).alloc (Nat.le_refl _) _
          have hbs := hb.size
          replace ZB := ZB.below hb ZB.lt; replace T0 := T0.below hb (by omega); replace T1 := T1.below hb (by omega); replace T2 := T2.below hb (by omega); replace T3 := T3.below hb (by omega); replace U0 := U0.below hb (by omega); replace U1 := U1.below hb (by omega); replace U2 := U2.below hb (by omega); replace U3 := U3.below hb (by omega); replace o0 := o0.below hb o0.1; replace o1 := o1.below hb o1.1; replace o2 := o2.below hb o2.1; replace o3 := o3.below hb o3.1
          replace kx := kx.trans (hb.mono kx.size)
          replace hx := hK.out _ kx
          have ksz := kx.size
          refine hK'.out _ _ hx (fun _ => ?_)
          clear hK' K hb
          have Ylt := YB.lt
          generalize hxs : x3.heap.size = Y at *
          clear hxs
          generalize x3.alloc (.cells #[.slice none 0 0, .slice none 0 0, .slice none 0 0, .slice none 0 0] 28) = x4 at *
          refine wpAnyH_ready (rs := [6]) (by kernel_rfl) (by simp) ?_
          refine AllReadyH.cons (o := { dst := none, op := Op.store 28 (Operand.tmp 8) (Operand.tmp 32), type := 0, pos := "l04_cases.go:264", after := #[{ on := 4, ground := Ground.data }, { on := 1, ground := Ground.data }, { on := 3, ground := Ground.chain }, { on := 0, ground := Ground.phase }, { on := 1, ground := Ground.phase }, { on := 2, ground := Ground.textOnly Departure.lateStores }, { on := 3, ground := Ground.textOnly Departure.lateStoresUnsure }, { on := 4, ground := Ground.phase }, { on := 5, ground := Ground.phase }], guard := none }) rfl (fun K hK' => ?_) AllReadyH.nil
          rw [if_pos (by rfl)]
          have bc0 := ZB.c0; have bf0 := ZB.f0
          have bc1 := ZB.c1; have bf1 := ZB.f1
          have bc2 := ZB.c2; have bf2 := ZB.f2
          have bc3 := ZB.c3; have bf3 := ZB.f3
          go_simp
          clear bc0 bc1 bc2 bc3 bf0 bf1 bf2 bf3
          obtain ⟨FB, FO⟩ := ZB.fill (.slice a0 l0.length f0) (.slice a1 l1.length f1) (.slice a2 l2.length f2) (.slice a3 l3.length f3)
          replace YB := YB.out FO (by omega); replace T0 := T0.out FO (by omega); replace T1 := T1.out FO (by omega); replace T2 := T2.out FO (by omega); replace T3 := T3.out FO (by omega); replace U0 := U0.out FO (by omega); replace U1 := U1.out FO (by omega); replace U2 := U2.out FO (by omega); replace U3 := U3.out FO (by omega); replace o0 := o0.out FO (by omega); replace o1 := o1.out FO (by omega); replace o2 := o2.out FO (by omega); replace o3 := o3.out FO (by omega)
          replace kx := kx.trans (FO.below (B := w4.heap.size) (by omega) kx.size)
          replace hx := hK.out _ kx
          have fsz := FO.size
          have ksz := kx.size
          refine hK'.out _ _ hx (fun _ => ?_)
          clear hK' K FO ZB
          have ZB := FB
          clear FB
          generalize ((((x4.setCell ⟨Z, 0, none⟩ (.slice a0 l0.length f0)).setCell ⟨Z, 1, none⟩ (.slice a1 l1.length f1)).setCell ⟨Z, 2, none⟩ (.slice a2 l2.length f2)).setCell ⟨Z, 3, none⟩ (.slice a3 l3.length f3)) = x5 at *
          generalize hxs : x4.heap.size = Sx5 at *
          clear hxs
          refine wpAnyH_ready (rs := [7]) (by kernel_rfl) (by simp) ?_
          refine AllReadyH.cons (o := { dst := none, op := Op.store 28 (Operand.tmp 9) (Operand.tmp 34), type := 0, pos := "l04_cases.go:264", after := #[{ on := 5, ground := Ground.data }, { on := 3, ground := Ground.data }, { on := 6, ground := Ground.chain }, { on := 0, ground := Ground.phase }, { on := 1, ground := Ground.phase }, { on := 2, ground := Ground.phase }, { on := 3, ground := Ground.phase }, { on := 4, ground := Ground.phase }, { on := 5, ground := Ground.phase }, { on := 6, ground := Ground.phase }], guard := none }) rfl (fun K hK' => ?_) AllReadyH.nil
          rw [if_pos (by rfl)]
          have bc0 := YB.c0; have bf0 := YB.f0
          have bc1 := YB.c1; have bf1 := YB.f1
          have bc2 := YB.c2; have bf2 := YB.f2
          have bc3 := YB.c3; have bf3 := YB.f3
          go_simp
          clear bc0 bc1 bc2 bc3 bf0 bf1 bf2 bf3
          obtain ⟨FB, FO⟩ := YB.fill (.slice d0 l0.length e0) (.slice d1 l1.length e1) (.slice d2 l2.length e2) (.slice d3 l3.length e3)
          replace ZB := ZB.out FO (by omega); replace T0 := T0.out FO (by omega); replace T1 := T1.out FO (by omega); replace T2 := T2.out FO (by omega); replace T3 := T3.out FO (by omega); replace U0 := U0.out FO (by omega); replace U1 := U1.out FO (by omega); replace U2 := U2.out FO (by omega); replace U3 := U3.out FO (by omega); replace o0 := o0.out FO (by omega); replace o1 := o1.out FO (by omega); replace o2 := o2.out FO (by omega); replace o3 := o3.out FO (by omega)
          replace kx := kx.trans (FO.below (B := w4.heap.size) (by omega) kx.size)
          replace hx := hK.out _ kx
          have fsz := FO.size
          have ksz := kx.size
          refine hK'.out _ _ hx (fun _ => ?_)
          clear hK' K FO YB
          have YB := FB
          clear FB
          generalize ((((x5.setCell ⟨Y, 0, none⟩ (.slice d0 l0.length e0)).setCell ⟨Y, 1, none⟩ (.slice d1 l1.length e1)).setCell ⟨Y, 2, none⟩ (.slice d2 l2.length e2)).setCell ⟨Y, 3, none⟩ (.slice d3 l3.length e3)) = x6 at *
          generalize hxs : x5.heap.size = Sx6 at *
          clear hxs
          refine wpAnyH_done (by kernel_rfl) ?_ _
          try simp only [List.getElem_toArray, List.getElem_cons_succ, List.getElem_cons_zero, Act.put, List.setIfInBounds_toArray, List.set_cons_zero, List.set_cons_succ]
          go_wp2_with fail
          go_meet
          exact ⟨Z, Y, a0, a1, a2, a3, f0, f1, f2, f3, _, m1, m2, m3, m4, d0, d1, d2, d3, e0, e1, e2, e3, _, j1, j2, j3, j4, rfl, rfl, ZB, YB, ⟨T0, T1, T2, T3⟩, ⟨U0, U1, U2, U3⟩, by omega, by omega, by omega, kx⟩
        · rw [if_pos (by rfl)]
          go_simp
          have YB := Box.new x2 (.slice none 0 0) (.slice none 0 0) (.slice none 0 0) (.slice none 0 0) 28
          have hb : Below x2.heap.size x2 (x2.alloc (.cells #[.slice none 0 0, .slice none 0 0, .slice none 0 0, .slice none 0 0] 28)) := (Below.refl _ _).alloc (Nat.le_refl _) _
          have hbs := hb.size
          replace ZB := ZB.below hb ZB.lt; replace T0 := T0.below hb (by omega); replace T1 := T1.below hb (by omega); replace T2 := T2.below hb (by omega); replace T3 := T3.below hb (by omega); replace o0 := o0.below hb o0.1; replace o1 := o1.below hb o1.1; replace o2 := o2.below hb o2.1; replace o3 := o3.below hb o3.1
          replace kx := kx.trans (hb.mono kx.size)
          replace hx := hK.out _ kx
          have ksz := kx.size
          refine hK'.out _ _ hx (fun _ => ?_)
          clear hK' K hb
          have Ylt := YB.lt
          generalize hxs : x2.heap.size = Y at *
          clear hxs
          generalize x2.alloc (.cells #[.slice none 0 0, .slice none 0 0, .slice none 0 0, .slice none 0 0] 28) = x3 at *
          refine wpAnyH_ready (rs := [3]) (by kernel_rfl) (by simp) ?_
          refine AllReadyH.cons (o := { dst := some 34, op := Op.call { callee := Callee.value (Operand.func 150), args := #[Operand.tmp 33], argTypes := #[28] }, type := 28, pos := "l04_cases.go:264", after := #[{ on := 2, ground := Ground.data }, { on := 1, ground := Ground.chain }], guard := none }) rfl (fun K hK' => ?_) AllReadyH.nil
          rw [if_pos (by rfl)]
          go_simp
          go_at_call 150
          refine (l1own_any b0 b1 b2 b3 c0 c1 c2 c3 l0 l1 l2 l3 _ n0 n1 n2 n3 o0 o1 o2 o3).mono ?_
          rintro e x4 ⟨d0, d1, d2, d3, e0, e1, e2, e3, j1, j2, j3, j4, rfl, U0, U1, U2, U3, jg1, jg2, jg3, jg4, jg5, hb⟩
          have hbs := hb.size
          replace ZB := ZB.below hb ZB.lt; replace YB := YB.below hb YB.lt; replace T0 := T0.below hb (by omega); replace T1 := T1.below hb (by omega); replace T2 := T2.below hb (by omega); replace T3 := T3.below hb (by omega); replace o0 := o0.below hb o0.1; replace o1 := o1.below hb o1.1; replace o2 := o2.below hb o2.1; replace o3 := o3.below hb o3.1
          replace kx := kx.trans (hb.mono kx.size)
          replace hx := hK.out _ kx
          have ksz := kx.size
          refine hK'.out _ _ hx (fun _ => ?_)
          clear hK' K hb
          generalize hxs : x3.heap.size = j0 at *
          clear hxs
          refine wpAnyH_ready (rs := [6]) (by kernel_rfl) (by simp) ?_
          refine AllReadyH.cons (o := { dst := none, op := Op.store 28 (Operand.tmp 8) (Operand.tmp 32), type := 0, pos := "l04_cases.go:264", after := #[{ on := 4, ground := Ground.data }, { on := 1, ground := Ground.data }, { on := 3, ground := Ground.chain }, { on := 0, ground := Ground.phase }, { on := 1, ground := Ground.phase }, { on := 2, ground := Ground.textOnly Departure.lateStores }, { on := 3, ground := Ground.textOnly Departure.lateStoresUnsure }, { on := 4, ground := Ground.phase }, { on := 5, ground := Ground.phase }], guard := none }) rfl (fun K hK' => ?_) AllReadyH.nil
          rw [if_pos (by rfl)]
          have bc0 := ZB.c0; have bf0 := ZB.f0
          have bc1 := ZB.c1; have bf1 := ZB.f1
          have bc2 := ZB.c2; have bf2 := ZB.f2
          have bc3 := ZB.c3; have bf3 := ZB.f3
          go_simp
          clear bc0 bc1 bc2 bc3 bf0 bf1 bf2 bf3
          obtain ⟨FB, FO⟩ := ZB.fill (.slice a0 l0.length f0) (.slice a1 l1.length f1) (.slice a2 l2.length f2) (.slice a3 l3.length f3)
          replace YB := YB.out FO (by omega); replace T0 := T0.out FO (by omega); replace T1 := T1.out FO (by omega); replace T2 := T2.out FO (by omega); replace T3 := T3.out FO (by omega); replace U0 := U0.out FO (by omega); replace U1 := U1.out FO (by omega); replace U2 := U2.out FO (by omega); replace U3 := U3.out FO (by omega); replace o0 := o0.out FO (by omega); replace o1 := o1.out FO (by omega); replace o2 := o2.out FO (by omega); replace o3 := o3.out FO (by omega)
          replace kx := kx.trans (FO.below (B := w4.heap.size) (by omega) kx.size)
          replace hx := hK.out _ kx
          have fsz := FO.size
          have ksz := kx.size
          refine hK'.out _ _ hx (fun _ => ?_)
          clear hK' K FO ZB
          have ZB := FB
          clear FB
          generalize ((((x4.setCell ⟨Z, 0, none⟩ (.slice a0 l0.length f0)).setCell ⟨Z, 1, none⟩ (.slice a1 l1.length f1)).setCell ⟨Z, 2, none⟩ (.slice a2 l2.length f2)).setCell ⟨Z, 3, none⟩ (.slice a3 l3.length f3)) = x5 at *
          generalize hxs : x4.heap.size = Sx5 at *
          clear hxs
          refine wpAnyH_ready (rs := [7]) (by kernel_rfl) (by simp) ?_
          refine AllReadyH.cons (o := { dst := none, op := Op.store 28 (Operand.tmp 9) (Operand.tmp 34), type := 0, pos := "l04_cases.go:264", after := #[{ on := 5, ground := Ground.data }, { on := 3, ground := Ground.data }, { on := 6, ground := Ground.chain }, { on := 0, ground := Ground.phase }, { on := 1, ground := Ground.phase }, { on := 2, ground := Ground.phase }, { on := 3, ground := Ground.phase }, { on := 4, ground := Ground.phase }, { on := 5, ground := Ground.phase }, { on := 6, ground := Ground.phase }], guard := none }) rfl (fun K hK' => ?_) AllReadyH.nil
          rw [if_pos (by rfl)]
          have bc0 := YB.c0; have bf0 := YB.f0
          have bc1 := YB.c1; have bf1 := YB.f1
          have bc2 := YB.c2; have bf2 := YB.f2
          have bc3 := YB.c3; have bf3 := YB.f3
          go_simp
          clear bc0 bc1 bc2 bc3 bf0 bf1 bf2 bf3
          obtain ⟨FB, FO⟩ := YB.fill (.slice d0 l0.length e0) (.slice d1 l1.length e1) (.slice d2 l2.length e2) (.slice d3 l3.length e3)
          replace ZB := ZB.out FO (by omega); replace T0 := T0.out FO (by omega); replace T1 := T1.out FO (by omega); replace T2 := T2.out FO (by omega); replace T3 := T3.out FO (by omega); replace U0 := U0.out FO (by omega); replace U1 := U1.out FO (by omega); replace U2 := U2.out FO (by omega); replace U3 := U3.out FO (by omega); replace o0 := o0.out FO (by omega); replace o1 := o1.out FO (by omega); replace o2 := o2.out FO (by omega); replace o3 := o3.out FO (by omega)
          replace kx := kx.trans (FO.below (B := w4.heap.size) (by omega) kx.size)
          replace hx := hK.out _ kx
          have fsz := FO.size
          have ksz := kx.size
          refine hK'.out _ _ hx (fun _ => ?_)
          clear hK' K FO YB
          have YB := FB
          clear FB
          generalize ((((x5.setCell ⟨Y, 0, none⟩ (.slice d0 l0.length e0)).setCell ⟨Y, 1, none⟩ (.slice d1 l1.length e1)).setCell ⟨Y, 2, none⟩ (.slice d2 l2.length e2)).setCell ⟨Y, 3, none⟩ (.slice d3 l3.length e3)) = x6 at *
          generalize hxs : x5.heap.size = Sx6 at *
          clear hxs
          refine wpAnyH_done (by kernel_rfl) ?_ _
          try simp only [List.getElem_toArray, List.getElem_cons_succ, List.getElem_cons_zero, Act.put, List.setIfInBounds_toArray, List.set_cons_zero, List.set_cons_succ]
          go_wp2_with fail
          go_meet
          exact ⟨Z, Y, a0, a1, a2, a3, f0, f1, f2, f3, _, m1, m2, m3, m4, d0, d1, d2, d3, e0, e1, e2, e3, _, j1, j2, j3, j4, rfl, rfl, ZB, YB, ⟨T0, T1, T2, T3⟩, ⟨U0, U1, U2, U3⟩, by omega, by omega, by omega, kx⟩
      · rw [if_pos (by rfl)]
        go_simp
        have YB := Box.new x1 (.slice none 0 0) (.slice none 0 0) (.slice none 0 0) (.slice none 0 0) 28
        have hb : Below x1.heap.size x1 (x1.alloc (.cells #[.slice none 0 0, .slice none 0 0, .slice none 0 0, .slice none 0 0] 28)) := (Below.refl _ _).alloc (Nat.le_refl _) _
        have hbs := hb.size
        replace T0 := T0.below hb (by omega); replace T1 := T1.below hb (by omega); replace T2 := T2.below hb (by omega); replace T3 := T3.below hb (by omega); replace o0 := o0.below hb o0.1; replace o1 := o1.below hb o1.1; replace o2 := o2.below hb o2.1; replace o3 := o3.below hb o3.1
        replace kx := kx.trans (hb.mono kx.size)
        replace hx := hK.out _ kx
        have ksz := kx.size
        refine hK'.out _ _ hx (fun _ => ?_)
        clear hK' K hb
        have Ylt := YB.lt
        generalize hxs : x1.heap.size = Y at *
        clear hxs
        generalize x1.alloc (.cells #[.slice none 0 0, .slice none 0 0, .slice none 0 0, .slice none 0 0] 28) = x2 at *
        refine wpAnyH_ready (rs := [3, 4]) (by kernel_rfl) (by simp) ?_
        refine AllReadyH.cons (o := { dst := some 34, op := Op.call { callee := Callee.value (Operand.func 150), args := #[Operand.tmp 33], argTypes := #[28] }, type := 28, pos := "l04_cases.go:264", after := #[{ on := 2, ground := Ground.data }, { on := 1, ground := Ground.chain }], guard := none }) rfl (fun K hK' => ?_) (AllReadyH.cons (o := { dst := some 8, op := Op.alloc 28, type := 0, pos := "l04_cases.go:264", after := #[], guard := none }) rfl (fun K hK' => ?_) AllReadyH.nil)
        · rw [if_pos (by rfl)]
          go_simp
          go_at_call 150
          refine (l1own_any b0 b1 b2 b3 c0 c1 c2 c3 l0 l1 l2 l3 _ n0 n1 n2 n3 o0 o1 o2 o3).mono ?_
          rintro e x3 ⟨d0, d1, d2, d3, e0, e1, e2, e3, j1, j2, j3, j4, rfl, U0, U1, U2, U3, jg1, jg2, jg3, jg4, jg5, hb⟩
          have hbs := hb.size
          replace YB := YB.below hb YB.lt; replace T0 := T0.below hb (by omega); replace T1 := T1.below hb (by omega); replace T2 := T2.below hb (by omega); replace T3 := T3.below hb (by omega); replace o0 := o0.below hb o0.1; replace o1 := o1.below hb o1.1; replace o2 := o2.below hb o2.1; replace o3 := o3.below hb o3.1
          replace kx := kx.trans (hb.mono kx.size)
          replace hx := hK.out _ kx
          have ksz := kx.size
          refine hK'.out _ _ hx (fun _ => ?_)
          clear hK' K hb
          generalize hxs : x2.heap.size = j0 at *
          clear hxs
          refine wpAnyH_ready (rs := [4]) (by kernel_rfl) (by simp) ?_
          refine AllReadyH.cons (o := { dst := some 8, op := Op.alloc 28, type := 0, pos := "l04_cases.go:264", after := #[], guard := none }) rfl (fun K hK' => ?_) AllReadyH.nil
          rw [if_pos (by rfl)]
          go_simp
          have ZB := Box.new x3 (.slice none 0 0) (.slice none 0 0) (.slice none 0 0) (.slice none 0 0) 28
          have hb : Below x3.heap.size x3 (x3.alloc (.cells #[.slice none 0 0, .slice none 0 0, .slice none 0 0, .slice none 0 0] 28)) := (Below.refl _ _).alloc (Nat.le_refl _) _
          have hbs := hb.size
          replace YB := YB.below hb YB.lt; replace T0 := T0.below hb (by omega); replace T1 := T1.below hb (by omega); replace T2 := T2.below hb (by omega); replace T3 := T3.below hb (by omega); replace U0 := U0.below hb (by omega); replace U1 := U1.below hb (by omega); replace U2 := U2.below hb (by omega); replace U3 := U3.below hb (by omega); replace o0 := o0.below hb o0.1; replace o1 := o1.below hb o1.1; replace o2 := o2.below hb o2.1; replace o3 := o3.below hb o3.1
          replace kx := kx.trans (hb.mono kx.size)
          replace hx := hK.out _ kx
          have ksz := kx.size
          refine hK'.out _ _ hx (fun _ => ?_)
          clear hK' K hb
          have Zlt := ZB.lt
          generalize hxs : x3.heap.size = Z at *
          clear hxs
          generalize x3.alloc (.cells #[.slice none 0 0, .slice none 0 0, .slice none 0 0, .slice none 0 0] 28) = x4 at *
          refine wpAnyH_ready (rs := [6]) (by kernel_rfl) (by simp) ?_
          refine AllReadyH.cons (o := { dst := none, op := Op.store 28 (Operand.tmp 8) (Operand.tmp 32), type := 0, pos := "l04_cases.go:264", after := #[{ on := 4, ground := Ground.data }, { on := 1, ground := Ground.data }, { on := 3, ground := Ground.chain }, { on := 0, ground := Ground.phase }, { on := 1, ground := Ground.phase }, { on := 2, ground := Ground.textOnly Departure.lateStores }, { on := 3, ground := Ground.textOnly Departure.lateStoresUnsure }, { on := 4, ground := Ground.phase }, { on := 5, ground := Ground.phase }], guard := none }) rfl (fun K hK' => ?_) AllReadyH.nil
          rw [if_pos (by rfl)]
          have bc0 := ZB.c0; have bf0 := ZB.f0
          have bc1 := ZB.c1; have bf1 := ZB.f1
          have bc2 := ZB.c2; have bf2 := ZB.f2
          have bc3 := ZB.c3; have bf3 := ZB.f3
          go_simp
          clear bc0 bc1 bc2 bc3 bf0 bf1 bf2 bf3
          obtain ⟨FB, FO⟩ := ZB.fill (.slice a0 l0.length f0) (.slice a1 l1.length f1) (.slice a2 l2.length f2) (.slice a3 l3.length f3)
          replace YB := YB.out FO (by omega); replace T0 := T0.out FO (by omega); replace T1 := T1.out FO (by omega); replace T2 := T2.out FO (by omega); replace T3 := T3.out FO (by omega); replace U0 := U0.out FO (by omega); replace U1 := U1.out FO (by omega); replace U2 := U2.out FO (by omega); replace U3 := U3.out FO (by omega); replace o0 := o0.out FO (by omega); replace o1 := o1.out FO (by omega); replace o2 := o2.out FO (by omega); replace o3 := o3.out FO (by omega)
          replace kx := kx.trans (FO.below (B := w4.heap.size) (by omega) kx.size)
          replace hx := hK.out _ kx
          have fsz := FO.size
          have ksz := kx.size
          refine hK'.out _ _ hx (fun _ => ?_)
          clear hK' K FO ZB
          have ZB := FB
          clear FB
          generalize ((((x4.setCell ⟨Z, 0, none⟩ (.slice a0 l0.length f0)).setCell ⟨Z, 1, none⟩ (.slice a1 l1.length f1)).setCell ⟨Z, 2, none⟩ (.slice a2 l2.length f2)).setCell ⟨Z, 3, none⟩ (.slice a3 l3.length f3)) = x5 at *
          generalize hxs : x4.heap.size = Sx5 at *
          clear hxs
          refine wpAnyH_ready (rs := [7]) (by kernel_rfl) (by simp) ?_
          refine AllReadyH.cons (o := { dst := none, op := Op.store 28 (Operand.tmp 9) (Operand.tmp 34), type := 0, pos := "l04_cases.go:264", after := #[{ on := 5, ground := Ground.data }, { on := 3, ground := Ground.data }, { on := 6, ground := Ground.chain }, { on := 0, ground := Ground.phase }, { on := 1, ground := Ground.phase }, { on := 2, ground := Ground.phase }, { on := 3, ground := Ground.phase }, { on := 4, ground := Ground.phase }, { on := 5, ground := Ground.phase }, { on := 6, ground := Ground.phase }], guard := none }) rfl (fun K hK' => ?_) AllReadyH.nil
          rw [if_pos (by rfl)]
          have bc0 := YB.c0; have bf0 := YB.f0
          have bc1 := YB.c1; have bf1 := YB.f1
          have bc2 := YB.c2; have bf2 := YB.f2
          have bc3 := YB.c3; have bf3 := YB.f3
          go_simp
          clear bc0 bc1 bc2 bc3 bf0 bf1 bf2 bf3
          obtain ⟨FB, FO⟩ := YB.fill (.slice d0 l0.length e0) (.slice d1 l1.length e1) (.slice d2 l2.length e2) (.slice d3 l3.length e3)
          replace ZB := ZB.out FO (by omega); replace T0 := T0.out FO (by omega); replace T1 := T1.out FO (by omega); replace T2 := T2.out FO (by omega); replace T3 := T3.out FO (by omega); replace U0 := U0.out FO (by omega); replace U1 := U1.out FO (by omega); replace U2 := U2.out FO (by omega); replace U3 := U3.out FO (by omega); replace o0 := o0.out FO (by omega); replace o1 := o1.out FO (by omega); replace o2 := o2.out FO (by omega); replace o3 := o3.out FO (by omega)
          replace kx := kx.trans (FO.below (B := w4.heap.size) (by omega) kx.size)
          replace hx := hK.out _ kx
          have fsz := FO.size
          have ksz := kx.size
          refine hK'.out _ _ hx (fun _ => ?_)
          clear hK' K FO YB
          have YB := FB
          clear FB
          generalize ((((x5.setCell ⟨Y, 0, none⟩ (.slice d0 l0.length e0)).setCell ⟨Y, 1, none⟩ (.slice d1 l1.length e1)).setCell ⟨Y, 2, none⟩ (.slice d2 l2.length e2)).setCell ⟨Y, 3, none⟩ (.slice d3 l3.length e3)) = x6 at *
          generalize hxs : x5.heap.size = Sx6 at *
          clear hxs
          refine wpAnyH_done (by kernel_rfl) ?_ _
          try simp only [List.getElem_toArray, List.getElem_cons_succ, List.getElem_cons_zero, Act.put, List.setIfInBounds_toArray, List.set_cons_zero, List.set_cons_succ]
          go_wp2_with fail
          go_meet
          exact ⟨Z, Y, a0, a1, a2, a3, f0, f1, f2, f3, _, m1, m2, m3, m4, d0, d1, d2, d3, e0, e1, e2, e3, _, j1, j2, j3, j4, rfl, rfl, ZB, YB, ⟨T0, T1, T2, T3⟩, ⟨U0, U1, U2, U3⟩, by omega, by omega, by omega, kx⟩
        · rw [if_pos (by rfl)]
          go_simp
          have ZB := Box.new x2 (.slice none 0 0) (.slice none 0 0) (.slice none 0 0) (.slice none 0 0) 28
          have hb : Below x2.heap.size x2 (x2.alloc (.cells #[.slice none 0 0, .slice none 0 0, .slice none 0 0, .slice none 0 0] 28)) := (Below.refl _ _).alloc (Nat.le_refl _) _
          have hbs := hb.size
          replace YB := YB.below hb YB.lt; replace T0 := T0.below hb (by omega); replace T1 := T1.below hb (by omega); replace T2 := T2.below hb (by omega); replace T3 := T3.below hb (by omega); replace o0 := o0.below hb o0.1; replace o1 := o1.below hb o1.1; replace o2 := o2.below hb o2.1; replace o3 := o3.below hb o3.1
          replace kx := kx.trans (hb.mono kx.size)
          replace hx := hK.out _ kx
          have ksz := kx.size
          refine hK'.out _ _ hx (fun _ => ?_)
          clear hK' K hb
          have Zlt := ZB.lt
          generalize hxs : x2.heap.size = Z at *
          clear hxs
          generalize x2.alloc (.cells #[.slice none 0 0, .slice none 0 0, .slice none 0 0, .slice none 0 0] 28) = x3 at *
          refine wpAnyH_ready (rs := [3]) (by kernel_rfl) (by simp) ?_
          refine AllReadyH.cons (o := { dst := some 34, op := Op.call { callee := Callee.value (Operand.func 150), args := #[Operand.tmp 33], argTypes := #[28] }, type := 28, pos := "l04_cases.go:264", after := #[{ on := 2, ground := Ground.data }, { on := 1, ground := Ground.chain }], guard := none }) rfl (fun K hK' => ?_) AllReadyH.nil
          rw [if_pos (by rfl)]
          go_simp
          go_at_call 150
          refine (l1own_any b0 b1 b2 b3 c0 c1 c2 c3 l0 l1 l2 l3 _ n0 n1 n2 n3 o0 o1 o2 o3).mono ?_
          rintro e x4 ⟨d0, d1, d2, d3, e0, e1, e2, e3, j1, j2, j3, j4, rfl, U0, U1, U2, U3, jg1, jg2, jg3, jg4, jg5, hb⟩
          have hbs := hb.size
          replace ZB := ZB.below hb ZB.lt; replace YB := YB.below hb YB.lt; replace T0 := T0.below hb (by omega); replace T1 := T1.below hb (by omega); replace T2 := T2.below hb (by omega); replace T3 := T3.below hb (by omega); replace o0 := o0.below hb o0.1; replace o1 := o1.below hb o1.1; replace o2 := o2.below hb o2.1; replace o3 := o3.below hb o3.1
          replace kx := kx.trans (hb.mono kx.size)
          replace hx := hK.out _ kx
          have ksz := kx.size
          refine hK'.out _ _ hx (fun _ => ?_)
          clear hK' K hb
          generalize hxs : x3.heap.size = j0 at *
          clear hxs
          refine wpAnyH_ready (rs := [6]) (by kernel_rfl) (by simp) ?_
          refine AllReadyH.cons (o := { dst := none, op := Op.store 28 (Operand.tmp 8) (Operand.tmp 32), type := 0, pos := "l04_cases.go:264", after := #[{ on := 4, ground := Ground.data }, { on := 1, ground := Ground.data }, { on := 3, ground := Ground.chain }, { on := 0, ground := Ground.phase }, { on := 1, ground := Ground.phase }, { on := 2, ground := Ground.textOnly Departure.lateStores }, { on := 3, ground := Ground.textOnly Departure.lateStoresUnsure }, { on := 4, ground := Ground.phase }, { on := 5, ground := Ground.phase }], guard := none }) rfl (fun K hK' => ?_) AllReadyH.nil
          rw [if_pos (by rfl)]
          have bc0 := ZB.c0; have bf0 := ZB.f0
          have bc1 := ZB.c1; have bf1 := ZB.f1
          have bc2 := ZB.c2; have bf2 := ZB.f2
          have bc3 := ZB.c3; have bf3 := ZB.f3
          go_simp
          clear bc0 bc1 bc2 bc3 bf0 bf1 bf2 bf3
          obtain ⟨FB, FO⟩ := ZB.fill (.slice a0 l0.length f0) (.slice a1 l1.length f1) (.slice a2 l2.length f2) (.slice a3 l3.length f3)
          replace YB := YB.out FO (by omega); replace T0 := T0.out FO (by omega); replace T1 := T1.out FO (by omega); replace T2 := T2.out FO (by omega); replace T3 := T3.out FO (by omega); replace U0 := U0.out FO (by omega); replace U1 := U1.out FO (by omega); replace U2 := U2.out FO (by omega); replace U3 := U3.out FO (by omega); replace o0 := o0.out FO (by omega); replace o1 := o1.out FO (by omega); replace o2 := o2.out FO (by omega); replace o3 := o3.out FO (by omega)
          replace kx := kx.trans (FO.below (B := w4.heap.size) (by omega) kx.size)
          replace hx := hK.out _ kx
          have fsz := FO.size
          have ksz := kx.size
          refine hK'.out _ _ hx (fun _ => ?_)
          clear hK' K FO ZB
          have ZB := FB
          clear FB
          generalize ((((x4.setCell ⟨Z, 0, none⟩ (.slice a0 l0.length f0)).setCell ⟨Z, 1, none⟩ (.slice a1 l1.length f1)).setCell ⟨Z, 2, none⟩ (.slice a2 l2.length f2)).setCell ⟨Z, 3, none⟩ (.slice a3 l3.length f3)) = x5 at *
          generalize hxs : x4.heap.size = Sx5 at *
          clear hxs
          refine wpAnyH_ready (rs := [7]) (by kernel_rfl) (by simp) ?_
          refine AllReadyH.cons (o := { dst := none, op := Op.store 28 (Operand.tmp 9) (Operand.tmp 34), type := 0, pos := "l04_cases.go:264", after := #[{ on := 5, ground := Ground.data }, { on := 3, ground := Ground.data }, { on := 6, ground := Ground.chain }, { on := 0, ground := Ground.phase }, { on := 1, ground := Ground.phase }, { on := 2, ground := Ground.phase }, { on := 3, ground := Ground.phase }, { on := 4, ground := Ground.phase }, { on := 5, ground := Ground.phase }, { on := 6, ground := Ground.phase }], guard := none }) rfl (fun K hK' => ?_) AllReadyH.nil
          rw [if_pos (by rfl)]
          have bc0 := YB.c0; have bf0 := YB.f0
          have bc1 := YB.c1; have bf1 := YB.f1
          have bc2 := YB.c2; have bf2 := YB.f2
          have bc3 := YB.c3; have bf3 := YB.f3
          go_simp
          clear bc0 bc1 bc2 bc3 bf0 bf1 bf2 bf3
          obtain ⟨FB, FO⟩ := YB.fill (.slice d0 l0.length e0) (.slice d1 l1.length e1) (.slice d2 l2.length e2) (.slice d3 l3.length e3)
          replace ZB := ZB.out FO (by omega); replace T0 := T0.out FO (by omega); replace T1 := T1.out FO (by omega); replace T2 := T2.out FO (by omega); replace T3 := T3.out FO (by omega); replace U0 := U0.out FO (by omega); replace U1 := U1.out FO (by omega); replace U2 := U2.out FO (by omega); replace U3 := U3.out FO (by omega); replace o0 := o0.out FO (by omega); replace o1 := o1.out FO (by omega); replace o2 := o2.out FO (by omega); replace o3 := o3.out FO (by omega)
          replace kx := kx.trans (FO.below (B := w4.heap.size) (by omega) kx.size)
          replace hx := hK.out _ kx
          have fsz := FO.size
          have ksz := kx.size
          refine hK'.out _ _ hx (fun _ => ?_)
          clear hK' K FO YB
          have YB := FB
          clear FB
          generalize ((((x5.setCell ⟨Y, 0, none⟩ (.slice d0 l0.length e0)).setCell ⟨Y, 1, none⟩ (.slice d1 l1.length e1)).setCell ⟨Y, 2, none⟩ (.slice d2 l2.length e2)).setCell ⟨Y, 3, none⟩ (.slice d3 l3.length e3)) = x6 at *
          generalize hxs : x5.heap.size = Sx6 at *
          clear hxs
          refine wpAnyH_done (by kernel_rfl) ?_ _
          try simp only [List.getElem_toArray, List.getElem_cons_succ, List.getElem_cons_zero, Act.put, List.setIfInBounds_toArray, List.set_cons_zero, List.set_cons_succ]
          go_wp2_with fail
          go_meet
          exact ⟨Z, Y, a0, a1, a2, a3, f0, f1, f2, f3, _, m1, m2, m3, m4, d0, d1, d2, d3, e0, e1, e2, e3, _, j1, j2, j3, j4, rfl, rfl, ZB, YB, ⟨T0, T1, T2, T3⟩, ⟨U0, U1, U2, U3⟩, by omega, by omega, by omega, kx⟩
    · rw [if_pos (by rfl)]
      go_simp
      have ZB := Box.new x0 (.slice none 0 0) (.slice none 0 0) (.slice none 0 0) (.slice none 0 0) 28
      have hb : Below x0.heap.size x0 (x0.alloc (.cells #[.slice none 0 0, .slice none 0 0, .slice none 0 0, .slice none 0 0] 28)) := (Below.refl _ _).alloc (Nat.le_refl _) _
      have hbs := hb.size
      replace o0 := o0.below hb o0.1; replace o1 := o1.below hb o1.1; replace o2 := o2.below hb o2.1; replace o3 := o3.below hb o3.1
      replace kx := kx.trans (hb.mono kx.size)
      replace hx := hK.out _ kx
      have ksz := kx.size
      refine hK'.out _ _ hx (fun _ => ?_)
      clear hK' K hb
      have Zlt := ZB.lt
      generalize hxs : x0.heap.size = Z at *
      clear hxs
      generalize x0.alloc (.cells #[.slice none 0 0, .slice none 0 0, .slice none 0 0, .slice none 0 0] 28) = x1 at *
      refine wpAnyH_ready (rs := [1, 5]) (by kernel_rfl) (by simp) ?_
      refine AllReadyH.cons (o := { dst := some 32, op := Op.call { callee := Callee.value (Operand.func 150), args := #[Operand.tmp 31], argTypes := #[28] }, type := 28, pos := "l04_cases.go:264", after := #[{ on := 0, ground := Ground.data }], guard := none }) rfl (fun K hK' => ?_) (AllReadyH.cons (o := { dst := some 9, op := Op.alloc 28, type := 0, pos := "l04_cases.go:264", after := #[], guard := none }) rfl (fun K hK' => ?_) AllReadyH.nil)
      · rw [if_pos (by rfl)]
        go_simp
        go_at_call 150
        refine (l1own_any b0 b1 b2 b3 c0 c1 c2 c3 l0 l1 l2 l3 _ n0 n1 n2 n3 o0 o1 o2 o3).mono ?_
        rintro e x2 ⟨a0, a1, a2, a3, f0, f1, f2, f3, m1, m2, m3, m4, rfl, T0, T1, T2, T3, mg1, mg2, mg3, mg4, mg5, hb⟩
        have hbs := hb.size
        replace ZB := ZB.below hb ZB.lt; replace o0 := o0.below hb o0.1; replace o1 := o1.below hb o1.1; replace o2 := o2.below hb o2.1; replace o3 := o3.below hb o3.1
        replace kx := kx.trans (hb.mono kx.size)
        replace hx := hK.out _ kx
        have ksz := kx.size
        refine hK'.out _ _ hx (fun _ => ?_)
        clear hK' K hb
        generalize hxs : x1.heap.size = m0 at *
        clear hxs
        refine wpAnyH_ready (rs := [3, 5]) (by kernel_rfl) (by simp) ?_
        refine AllReadyH.cons (o := { dst := some 34, op := Op.call { callee := Callee.value (Operand.func 150), args := #[Operand.tmp 33], argTypes := #[28] }, type := 28, pos := "l04_cases.go:264", after := #[{ on := 2, ground := Ground.data }, { on := 1, ground := Ground.chain }], guard := none }) rfl (fun K hK' => ?_) (AllReadyH.cons (o := { dst := some 9, op := Op.alloc 28, type := 0, pos := "l04_cases.go:264", after := #[], guard := none }) rfl (fun K hK' => ?_) AllReadyH.nil)
        · rw [if_pos (by rfl)]
          go_simp
          go_at_call 150
          refine (l1own_any b0 b1 b2 b3 c0 c1 c2 c3 l0 l1 l2 l3 _ n0 n1 n2 n3 o0 o1 o2 o3).mono ?_
          rintro e x3 ⟨d0, d1, d2, d3, e0, e1, e2, e3, j1, j2, j3, j4, rfl, U0, U1, U2, U3, jg1, jg2, jg3, jg4, jg5, hb⟩
          have hbs := hb.size
          replace ZB := ZB.below hb ZB.lt; replace T0 := T0.below hb (by omega); replace T1 := T1.below hb (by omega); replace T2 := T2.below hb (by omega); replace T3 := T3.below hb (by omega); replace o0 := o0.below hb o0.1; replace o1 := o1.below hb o1.1; replace o2 := o2.below hb o2.1; replace o3 := o3.below hb o3.1
          replace kx := kx.trans (hb.mono kx.size)
          replace hx := hK.out _ kx
          have ksz := kx.size
          refine hK'.out _ _ hx (fun _ => ?_)
          clear hK' K hb
          generalize hxs : x2.heap.size = j0 at *
          clear hxs
          refine wpAnyH_ready (rs := [5]) (by kernel_rfl) (by simp) ?_
          refine AllReadyH.cons (o := { dst := some 9, op := Op.alloc 28, type := 0, pos := "l04_cases.go:264", after := #[], guard := none }) rfl (fun K hK' => ?_) AllReadyH.nil
          rw [if_pos (by rfl)]
          go_simp
          have YB := Box.new x3 (.slice none 0 0) (.slice none 0 0) (.slice none 0 0) (.slice none 0 0) 28
          have hb : Below x3.heap.size x3 (x3.alloc (.cells #[.slice none 0 0, .slice none 0 0, .slice none 0 0, .slice none 0 0] 28)) := (Below.refl _ _).alloc (Nat.le_refl _) _
          have hbs := hb.size
          replace ZB := ZB.below hb ZB.lt; replace T0 := T0.below hb (by omega); replace T1 := T1.below hb (by omega); replace T2 := T2.below hb (by omega); replace T3 := T3.below hb (by omega); replace U0 := U0.below hb (by omega); replace U1 := U1.below hb (by omega); replace U2 := U2.below hb (by omega); replace U3 := U3.below hb (by omega); replace o0 := o0.below hb o0.1; replace o1 := o1.below hb o1.1; replace o2 := o2.below hb o2.1; replace o3 := o3.below hb o3.1
          replace kx := kx.trans (hb.mono kx.size)
          replace hx := hK.out _ kx
          have ksz := kx.size
          refine hK'.out _ _ hx (fun _ => ?_)
          clear hK' K hb
          have Ylt := YB.lt
          generalize hxs : x3.heap.size = Y at *
          clear hxs
          generalize x3.alloc (.cells #[.slice none 0 0, .slice none 0 0, .slice none 0 0, .slice none 0 0] 28) = x4 at *
          refine wpAnyH_ready (rs := [6]) (by kernel_rfl) (by simp) ?_
          refine AllReadyH.cons (o := { dst := none, op := Op.store 28 (Operand.tmp 8) (Operand.tmp 32), type := 0, pos := "l04_cases.go:264", after := #[{ on := 4, ground := Ground.data }, { on := 1, ground := Ground.data }, { on := 3, ground := Ground.chain }, { on := 0, ground := Ground.phase }, { on := 1, ground := Ground.phase }, { on := 2, ground := Ground.textOnly Departure.lateStores }, { on := 3, ground := Ground.textOnly Departure.lateStoresUnsure }, { on := 4, ground := Ground.phase }, { on := 5, ground := Ground.phase }], guard := none }) rfl (fun K hK' => ?_) AllReadyH.nil
          rw [if_pos (by rfl)]
          have bc0 := ZB.c0; have bf0 := ZB.f0
          have bc1 := ZB.c1; have bf1 := ZB.f1
          have bc2 := ZB.c2; have bf2 := ZB.f2
          have bc3 := ZB.c3; have bf3 := ZB.f3
          go_simp
          clear bc0 bc1 bc2 bc3 bf0 bf1 bf2 bf3
          obtain ⟨FB, FO⟩ := ZB.fill (.slice a0 l0.length f0) (.slice a1 l1.length f1) (.slice a2 l2.length f2) (.slice a3 l3.length f3)
          replace YB := YB.out FO (by omega); replace T0 := T0.out FO (by omega); replace T1 := T1.out FO (by omega); replace T2 := T2.out FO (by omega); replace T3 := T3.out FO (by omega); replace U0 := U0.out FO (by omega); replace U1 := U1.out FO (by omega); replace U2 := U2.out FO (by omega); replace U3 := U3.out FO (by omega); replace o0 := o0.out FO (by omega); replace o1 := o1.out FO (by omega); replace o2 := o2.out FO (by omega); replace o3 := o3.out FO (by omega)
          replace kx := kx.trans (FO.below (B := w4.heap.size) (by omega) kx.size)
          replace hx := hK.out _ kx
          have fsz := FO.size
          have ksz := kx.size
          refine hK'.out _ _ hx (fun _ => ?_)
          clear hK' K FO ZB
          have ZB := FB
          clear FB
          generalize ((((x4.setCell ⟨Z, 0, none⟩ (.slice a0 l0.length f0)).setCell ⟨Z, 1, none⟩ (.slice a1 l1.length f1)).setCell ⟨Z, 2, none⟩ (.slice a2 l2.length f2)).setCell ⟨Z, 3, none⟩ (.slice a3 l3.length f3)) = x5 at *
          generalize hxs : x4.heap.size = Sx5 at *
          clear hxs
          refine wpAnyH_ready (rs := [7]) (by kernel_rfl) (by simp) ?_
          refine AllReadyH.cons (o := { dst := none, op := Op.store 28 (Operand.tmp 9) (Operand.tmp 34), type := 0, pos := "l04_cases.go:264", after := #[{ on := 5, ground := Ground.data }, { on := 3, ground := Ground.data }, { on := 6, ground := Ground.chain }, { on := 0, ground := Ground.phase }, { on := 1, ground := Ground.phase }, { on := 2, ground := Ground.phase }, { on := 3, ground := Ground.phase }, { on := 4, ground := Ground.phase }, { on := 5, ground := Ground.phase }, { on := 6, ground := Ground.phase }], guard := none }) rfl (fun K hK' => ?_) AllReadyH.nil
          rw [if_pos (by rfl)]
          have bc0 := YB.c0; have bf0 := YB.f0
          have bc1 := YB.c1; have bf1 := YB.f1
          have bc2 := YB.c2; have bf2 := YB.f2
          have bc3 := YB.c3; have bf3 := YB.f3
          go_simp
          clear bc0 bc1 bc2 bc3 bf0 bf1 bf2 bf3
          obtain ⟨FB, FO⟩ := YB.fill (.slice d0 l0.length e0) (.slice d1 l1.length e1) (.slice d2 l2.length e2) (.slice d3 l3.length e3)
          replace ZB := ZB.out FO (by omega); replace T0 := T0.out FO (by omega); replace T1 := T1.out FO (by omega); replace T2 := T2.out FO (by omega); replace T3 := T3.out FO (by omega); replace U0 := U0.out FO (by omega); replace U1 := U1.out FO (by omega); replace U2 := U2.out FO (by omega); replace U3 := U3.out FO (by omega); replace o0 := o0.out FO (by omega); replace o1 := o1.out FO (by omega); replace o2 := o2.out FO (by omega); replace o3 := o3.out FO (by omega)
          replace kx := kx.trans (FO.below (B := w4.heap.size) (by omega) kx.size)
          replace hx := hK.out _ kx
          have fsz := FO.size
          have ksz := kx.size
          refine hK'.out _ _ hx (fun _ => ?_)
          clear hK' K FO YB
          have YB := FB
          clear FB
          generalize ((((x5.setCell ⟨Y, 0, none⟩ (.slice d0 l0.length e0)).setCell ⟨Y, 1, none⟩ (.slice d1 l1.length e1)).setCell ⟨Y, 2, none⟩ (.slice d2 l2.length e2)).setCell ⟨Y, 3, none⟩ (.slice d3 l3.length e3)) = x6 at *
          generalize hxs : x5.heap.size = Sx6 at *
          clear hxs
          refine wpAnyH_done (by kernel_rfl) ?_ _
          try simp only [List.getElem_toArray, List.getElem_cons_succ, List.getElem_cons_zero, Act.put, List.setIfInBounds_toArray, List.set_cons_zero, List.set_cons_succ]
          go_wp2_with fail
          go_meet
          exact ⟨Z, Y, a0, a1, a2, a3, f0, f1, f2, f3, _, m1, m2, m3, m4, d0, d1, d2, d3, e0, e1, e2, e3, _, j1, j2, j3, j4, rfl, rfl, ZB, YB, ⟨T0, T1, T2, T3⟩, ⟨U0, U1, U2, U3⟩, by omega, by omega, by omega, kx⟩
        · rw [if_pos (by rfl)]
          go_simp
          have YB := Box.new x2 (.slice none 0 0) (.slice none 0 0) (.slice none 0 0) (.slice none 0 0) 28
          have hb : Below x2.heap.size x2 (x2.alloc (.cells #[.slice none 0 0, .slice none 0 0, .slice none 0 0, .slice none 0 0] 28)) := (Below.refl _ _).alloc (Nat.le_refl _) _
          have hbs := hb.size
          replace ZB := ZB.below hb ZB.lt; replace T0 := T0.below hb (by omega); replace T1 := T1.below hb (by omega); replace T2 := T2.below hb (by omega); replace T3 := T3.below hb (by omega); replace o0 := o0.below hb o0.1; replace o1 := o1.below hb o1.1; replace o2 := o2.below hb o2.1; replace o3 := o3.below hb o3.1
          replace kx := kx.trans (hb.mono kx.size)
          replace hx := hK.out _ kx
          have ksz := kx.size
          refine hK'.out _ _ hx (fun _ => ?_)
          clear hK' K hb
          have Ylt := YB.lt
          generalize hxs : x2.heap.size = Y at *
          clear hxs
          generalize x2.alloc (.cells #[.slice none 0 0, .slice none 0 0, .slice none 0 0, .slice none 0 0] 28) = x3 at *
          refine wpAnyH_ready (rs := [3]) (by kernel_rfl) (by simp) ?_
          refine AllReadyH.cons (o := { dst := some 34, op := Op.call { callee := Callee.value (Operand.func 150), args := #[Operand.tmp 33], argTypes := #[28] }, type := 28, pos := "l04_cases.go:264", after := #[{ on := 2, ground := Ground.data }, { on := 1, ground := Ground.chain }], guard := none }) rfl (fun K hK' => ?_) AllReadyH.nil
          rw [if_pos (by rfl)]
          go_simp
          go_at_call 150
          refine (l1own_any b0 b1 b2 b3 c0 c1 c2 c3 l0 l1 l2 l3 _ n0 n1 n2 n3 o0 o1 o2 o3).mono ?_
          rintro e x4 ⟨d0, d1, d2, d3, e0, e1, e2, e3, j1, j2, j3, j4, rfl, U0, U1, U2, U3, jg1, jg2, jg3, jg4, jg5, hb⟩
          have hbs := hb.size
          replace ZB := ZB.below hb ZB.lt; replace YB := YB.below hb YB.lt; replace T0 := T0.below hb (by omega); replace T1 := T1.below hb (by omega); replace T2 := T2.below hb (by omega); replace T3 := T3.below hb (by omega); replace o0 := o0.below hb o0.1; replace o1 := o1.below hb o1.1; replace o2 := o2.below hb o2.1; replace o3 := o3.below hb o3.1
          replace kx := kx.trans (hb.mono kx.size)
          replace hx := hK.out _ kx
          have ksz := kx.size
          refine hK'.out _ _ hx (fun _ => ?_)
          clear hK' K hb
          generalize hxs : x3.heap.size = j0 at *
          clear hxs
          refine wpAnyH_ready (rs := [6]) (by kernel_rfl) (by simp) ?_
          refine AllReadyH.cons (o := { dst := none, op := Op.store 28 (Operand.tmp 8) (Operand.tmp 32), type := 0, pos := "l04_cases.go:264", after := #[{ on := 4, ground := Ground.data }, { on := 1, ground := Ground.data }, { on := 3, ground := Ground.chain }, { on := 0, ground := Ground.phase }, { on := 1, ground := Ground.phase }, { on := 2, ground := Ground.textOnly Departure.lateStores }, { on := 3, ground := Ground.textOnly Departure.lateStoresUnsure }, { on := 4, ground := Ground.phase }, { on := 5, ground := Ground.phase }], guard := none }) rfl (fun K hK' => ?_) AllReadyH.nil
          rw [if_pos (by rfl)]
          have bc0 := ZB.c0; have bf0 := ZB.f0
          have bc1 := ZB.c1; have bf1 := ZB.f1
          have bc2 := ZB.c2; have bf2 := ZB.f2
          have bc3 := ZB.c3; have bf3 := ZB.f3
          go_simp
          clear bc0 bc1 bc2 bc3 bf0 bf1 bf2 bf3
          obtain ⟨FB, FO⟩ := ZB.fill (.slice a0 l0.length f0) (.slice a1 l1.length f1) (.slice a2 l2.length f2) (.slice a3 l3.length f3)
          replace YB := YB.out FO (by omega); replace T0 := T0.out FO (by omega); replace T1 := T1.out FO (by omega); replace T2 := T2.out FO (by omega); replace T3 := T3.out FO (by omega); replace U0 := U0.out FO (by omega); replace U1 := U1.out FO (by omega); replace U2 := U2.out FO (by omega); replace U3 := U3.out FO (by omega); replace o0 := o0.out FO (by omega); replace o1 := o1.out FO (by omega); replace o2 := o2.out FO (by omega); replace o3 := o3.out FO (by omega)
          replace kx := kx.trans (FO.below (B := w4.heap.size) (by omega) kx.size)
          replace hx := hK.out _ kx
          have fsz := FO.size
          have ksz := kx.size
          refine hK'.out _ _ hx (fun _ => ?_)
          clear hK' K FO ZB
          have ZB := FB
          clear FB
          generalize ((((x4.setCell ⟨Z, 0, none⟩ (.slice a0 l0.length f0)).setCell ⟨Z, 1, none⟩ (.slice a1 l1.length f1)).setCell ⟨Z, 2, none⟩ (.slice a2 l2.length f2)).setCell ⟨Z, 3, none⟩ (.slice a3 l3.length f3)) = x5 at *
          generalize hxs : x4.heap.size = Sx5 at *
          clear hxs
          refine wpAnyH_ready (rs := [7]) (by kernel_rfl) (by simp) ?_
          refine AllReadyH.cons (o := { dst := none, op := Op.store 28 (Operand.tmp 9) (Operand.tmp 34), type := 0, pos := "l04_cases.go:264", after := #[{ on := 5, ground := Ground.data }, { on := 3, ground := Ground.data }, { on := 6, ground := Ground.chain }, { on := 0, ground := Ground.phase }, { on := 1, ground := Ground.phase }, { on := 2, ground := Ground.phase }, { on := 3, ground := Ground.phase }, { on := 4, ground := Ground.phase }, { on := 5, ground := Ground.phase }, { on := 6, ground := Ground.phase }], guard := none }) rfl (fun K hK' => ?_) AllReadyH.nil
          rw [if_pos (by rfl)]
          have bc0 := YB.c0; have bf0 := YB.f0
          have bc1 := YB.c1; have bf1 := YB.f1
          have bc2 := YB.c2; have bf2 := YB.f2
          have bc3 := YB.c3; have bf3 := YB.f3
          go_simp
          clear bc0 bc1 bc2 bc3 bf0 bf1 bf2 bf3
          obtain ⟨FB, FO⟩ := YB.fill (.slice d0 l0.length e0) (.slice d1 l1.length e1) (.slice d2 l2.length e2) (.slice d3 l3.length e3)
          replace ZB := ZB.out FO (by omega); replace T0 := T0.out FO (by omega); replace T1 := T1.out FO (by omega); replace T2 := T2.out FO (by omega); replace T3 := T3.out FO (by omega); replace U0 := U0.out FO (by omega); replace U1 := U1.out FO (by omega); replace U2 := U2.out FO (by omega); replace U3 := U3.out FO (by omega); replace o0 := o0.out FO (by omega); replace o1 := o1.out FO (by omega); replace o2 := o2.out FO (by omega); replace o3 := o3.out FO (by omega)
          replace kx := kx.trans (FO.below (B := w4.heap.size) (by omega) kx.size)
          replace hx := hK.out _ kx
          have fsz := FO.size
          have ksz := kx.size
          refine hK'.out _ _ hx (fun _ => ?_)
          clear hK' K FO YB
          have YB := FB
          clear FB
          generalize ((((x5.setCell ⟨Y, 0, none⟩ (.slice d0 l0.length e0)).setCell ⟨Y, 1, none⟩ (.slice d1 l1.length e1)).setCell ⟨Y, 2, none⟩ (.slice d2 l2.length e2)).setCell ⟨Y, 3, none⟩ (.slice d3 l3.length e3)) = x6 at *
          generalize hxs : x5.heap.size = Sx6 at *
          clear hxs
          refine wpAnyH_done (by kernel_rfl) ?_ _
          try simp only [List.getElem_toArray, List.getElem_cons_succ, List.getElem_cons_zero, Act.put, List.setIfInBounds_toArray, List.set_cons_zero, List.set_cons_succ]
          go_wp2_with fail
          go_meet
          exact ⟨Z, Y, a0, a1, a2, a3, f0, f1, f2, f3, _, m1, m2, m3, m4, d0, d1, d2, d3, e0, e1, e2, e3, _, j1, j2, j3, j4, rfl, rfl, ZB, YB, ⟨T0, T1, T2, T3⟩, ⟨U0, U1, U2, U3⟩, by omega, by omega, by omega, kx⟩
      · rw [if_pos (by rfl)]
        go_simp
        have YB := Box.new x1 (.slice none 0 0) (.slice none 0 0) (.slice none 0 0) (.slice none 0 0) 28
        have hb : Below x1.heap.size x1 (x1.alloc (.cells #[.slice none 0 0, .slice none 0 0, .slice none 0 0, .slice none 0 0] 28)) := (Below.refl _ _).alloc (Nat.le_refl _) _
        have hbs := hb.size
        replace ZB := ZB.below hb ZB.lt; replace o0 := o0.below hb o0.1; replace o1 := o1.below hb o1.1; replace o2 := o2.below hb o2.1; replace o3 := o3.below hb o3.1
        replace kx := kx.trans (hb.mono kx.size)
        replace hx := hK.out _ kx
        have ksz := kx.size
        refine hK'.out _ _ hx (fun _ => ?_)
        clear hK' K hb
        have Ylt := YB.lt
        generalize hxs : x1.heap.size = Y at *
        clear hxs
        generalize x1.alloc (.cells #[.slice none 0 0, .slice none 0 0, .slice none 0 0, .slice none 0 0] 28) = x2 at *
        refine wpAnyH_ready (rs := [1]) (by kernel_rfl) (by simp) ?_
        refine AllReadyH.cons (o := { dst := some 32, op := Op.call { callee := Callee.value (Operand.func 150), args := #[Operand.tmp 31], argTypes := #[28] }, type := 28, pos := "l04_cases.go:264", after := #[{ on := 0, ground := Ground.data }], guard := none }) rfl (fun K hK' => ?_) AllReadyH.nil
        rw [if_pos (by rfl)]
        go_simp
        go_at_call 150
        refine (l1own_any b0 b1 b2 b3 c0 c1 c2 c3 l0 l1 l2 l3 _ n0 n1 n2 n3 o0 o1 o2 o3).mono ?_
        rintro e x3 ⟨a0, a1, a2, a3, f0, f1, f2, f3, m1, m2, m3, m4, rfl, T0, T1, T2, T3, mg1, mg2, mg3, mg4, mg5, hb⟩
        have hbs := hb.size
        replace ZB := ZB.below hb ZB.lt; replace YB := YB.below hb YB.lt; replace o0 := o0.below hb o0.1; replace o1 := o1.below hb o1.1; replace o2 := o2.below hb o2.1; replace o3 := o3.below hb o3.1
        replace kx := kx.trans (hb.mono kx.size)
        replace hx := hK.out _ kx
        have ksz := kx.size
        refine hK'.out _ _ hx (fun _ => ?_)
        clear hK' K hb
        generalize hxs : x2.heap.size = m0 at *
        clear hxs
        refine wpAnyH_ready (rs := [3]) (by kernel_rfl) (by simp) ?_
        refine AllReadyH.cons (o := { dst := some 34, op := Op.call { callee := Callee.value (Operand.func 150), args := #[Operand.tmp 33], argTypes := #[28] }, type := 28, pos := "l04_cases.go:264", after := #[{ on := 2, ground := Ground.data }, { on := 1, ground := Ground.chain }], guard := none }) rfl (fun K hK' => ?_) AllReadyH.nil
        rw [if_pos (by rfl)]
        go_simp
        go_at_call 150
        refine (l1own_any b0 b1 b2 b3 c0 c1 c2 c3 l0 l1 l2 l3 _ n0 n1 n2 n3 o0 o1 o2 o3).mono ?_
        rintro e x4 ⟨d0, d1, d2, d3, e0, e1, e2, e3, j1, j2, j3, j4, rfl, U0, U1, U2, U3, jg1, jg2, jg3, jg4, jg5, hb⟩
        have hbs := hb.size
        replace ZB := ZB.below hb ZB.lt; replace YB := YB.below hb YB.lt; replace T0 := T0.below hb (by omega); replace T1 := T1.below hb (by omega); replace T2 := T2.below hb (by omega); replace T3 := T3.below hb (by omega); replace o0 := o0.below hb o0.1; replace o1 := o1.below hb o1.1; replace o2 := o2.below hb o2.1; replace o3 := o3.below hb o3.1
        replace kx := kx.trans (hb.mono kx.size)
        replace hx := hK.out _ kx
        have ksz := kx.size
        refine hK'.out _ _ hx (fun _ => ?_)
        clear hK' K hb
        generalize hxs : x3.heap.size = j0 at *
        clear hxs
        refine wpAnyH_ready (rs := [6]) (by kernel_rfl) (by simp) ?_
        refine AllReadyH.cons (o := { dst := none, op := Op.store 28 (Operand.tmp 8) (Operand.tmp 32), type := 0, pos := "l04_cases.go:264", after := #[{ on := 4, ground := Ground.data }, { on := 1, ground := Ground.data }, { on := 3, ground := Ground.chain }, { on := 0, ground := Ground.phase }, { on := 1, ground := Ground.phase }, { on := 2, ground := Ground.textOnly Departure.lateStores }, { on := 3, ground := Ground.textOnly Departure.lateStoresUnsure }, { on := 4, ground := Ground.phase }, { on := 5, ground := Ground.phase }], guard := none }) rfl (fun K hK' => ?_) AllReadyH.nil
        rw [if_pos (by rfl)]
        have bc0 := ZB.c0; have bf0 := ZB.f0
        have bc1 := ZB.c1; have bf1 := ZB.f1
        have bc2 := ZB.c2; have bf2 := ZB.f2
        have bc3 := ZB.c3; have bf3 := ZB.f3
        go_simp
        clear bc0 bc1 bc2 bc3 bf0 bf1 bf2 bf3
        obtain ⟨FB, FO⟩ := ZB.fill (.slice a0 l0.length f0) (.slice a1 l1.length f1) (.slice a2 l2.length f2) (.slice a3 l3.length f3)
        replace YB := YB.out FO (by omega); replace T0 := T0.out FO (by omega); replace T1 := T1.out FO (by omega); replace T2 := T2.out FO (by omega); replace T3 := T3.out FO (by omega); replace U0 := U0.out FO (by omega); replace U1 := U1.out FO (by omega); replace U2 := U2.out FO (by omega); replace U3 := U3.out FO (by omega); replace o0 := o0.out FO (by omega); replace o1 := o1.out FO (by omega); replace o2 := o2.out FO (by omega); replace o3 := o3.out FO (by omega)
        replace kx := kx.trans (FO.below (B := w4.heap.size) (by omega) kx.size)
        replace hx := hK.out _ kx
        have fsz := FO.size
        have ksz := kx.size
        refine hK'.out _ _ hx (fun _ => ?_)
        clear hK' K FO ZB
        have ZB := FB
        clear FB
        generalize ((((x4.setCell ⟨Z, 0, none⟩ (.slice a0 l0.length f0)).setCell ⟨Z, 1, none⟩ (.slice a1 l1.length f1)).setCell ⟨Z, 2, none⟩ (.slice a2 l2.length f2)).setCell ⟨Z, 3, none⟩ (.slice a3 l3.length f3)) = x5 at *
        generalize hxs : x4.heap.size = Sx5 at *
        clear hxs
        refine wpAnyH_ready (rs := [7]) (by kernel_rfl) (by simp) ?_
        refine AllReadyH.cons (o := { dst := none, op := Op.store 28 (Operand.tmp 9) (Operand.tmp 34), type := 0, pos := "l04_cases.go:264", after := #[{ on := 5, ground := Ground.data }, { on := 3, ground := Ground.data }, { on := 6, ground := Ground.chain }, { on := 0, ground := Ground.phase }, { on := 1, ground := Ground.phase }, { on := 2, ground := Ground.phase }, { on := 3, ground := Ground.phase }, { on := 4, ground := Ground.phase }, { on := 5, ground := Ground.phase }, { on := 6, ground := Ground.phase }], guard := none }) rfl (fun K hK' => ?_) AllReadyH.nil
        rw [if_pos (by rfl)]
        have bc0 := YB.c0; have bf0 := YB.f0
        have bc1 := YB.c1; have bf1 := YB.f1
        have bc2 := YB.c2; have bf2 := YB.f2
        have bc3 := YB.c3; have bf3 := YB.f3
        go_simp
        clear bc0 bc1 bc2 bc3 bf0 bf1 bf2 bf3
        obtain ⟨FB, FO⟩ := YB.fill (.slice d0 l0.length e0) (.slice d1 l1.length e1) (.slice d2 l2.length e2) (.slice d3 l3.length e3)
        replace ZB := ZB.out FO (by omega); replace T0 := T0.out FO (by omega); replace T1 := T1.out FO (by omega); replace T2 := T2.out FO (by omega); replace T3 := T3.out FO (by omega); replace U0 := U0.out FO (by omega); replace U1 := U1.out FO (by omega); replace U2 := U2.out FO (by omega); replace U3 := U3.out FO (by omega); replace o0 := o0.out FO (by omega); replace o1 := o1.out FO (by omega); replace o2 := o2.out FO (by omega); replace o3 := o3.out FO (by omega)
        replace kx := kx.trans (FO.below (B := w4.heap.size) (by omega) kx.size)
        replace hx := hK.out _ kx
        have fsz := FO.size
        have ksz := kx.size
        refine hK'.out _ _ hx (fun _ => ?_)
        clear hK' K FO YB
        have YB := FB
        clear FB
        generalize ((((x5.setCell ⟨Y, 0, none⟩ (.slice d0 l0.length e0)).setCell ⟨Y, 1, none⟩ (.slice d1 l1.length e1)).setCell ⟨Y, 2, none⟩ (.slice d2 l2.length e2)).setCell ⟨Y, 3, none⟩ (.slice d3 l3.length e3)) = x6 at *
        generalize hxs : x5.heap.size = Sx6 at *
        clear hxs
        refine wpAnyH_done (by kernel_rfl) ?_ _
        try simp only [List.getElem_toArray, List.getElem_cons_succ, List.getElem_cons_zero, Act.put, List.setIfInBounds_toArray, List.set_cons_zero, List.set_cons_succ]
        go_wp2_with fail
        go_meet
        exact ⟨Z, Y, a0, a1, a2, a3, f0, f1, f2, f3, _, m1, m2, m3, m4, d0, d1, d2, d3, e0, e1, e2, e3, _, j1, j2, j3, j4, rfl, rfl, ZB, YB, ⟨T0, T1, T2, T3⟩, ⟨U0, U1, U2, U3⟩, by omega, by omega, by omega, kx⟩
    · rw [if_pos (by rfl)]
      go_simp
      have YB := Box.new x0 (.slice none 0 0) (.slice none 0 0) (.slice none 0 0) (.slice none 0 0) 28
      have hb : Below x0.heap.size x0 (x0.alloc (.cells #[.slice none 0 0, .slice none 0 0, .slice none 0 0, .slice none 0 0] 28)) := (Below.refl _ _).alloc (Nat.le_refl _) _
      have hbs := hb.size
      replace o0 := o0.below hb o0.1; replace o1 := o1.below hb o1.1; replace o2 := o2.below hb o2.1; replace o3 := o3.below hb o3.1
      replace kx := kx.trans (hb.mono kx.size)
      replace hx := hK.out _ kx
      have ksz := kx.size
      refine hK'.out _ _ hx (fun _ => ?_)
      clear hK' K hb
      have Ylt := YB.lt
      generalize hxs : x0.heap.size = Y at *
      clear hxs
      generalize x0.alloc (.cells #[.slice none 0 0, .slice none 0 0, .slice none 0 0, .slice none 0 0] 28) = x1 at *
      refine wpAnyH_ready (rs := [1, 4]) (by kernel_rfl) (by simp) ?_
      refine AllReadyH.cons (o := { dst := some 32, op := Op.call { callee := Callee.value (Operand.func 150), args := #[Operand.tmp 31], argTypes := #[28] }, type := 28, pos := "l04_cases.go:264", after := #[{ on := 0, ground := Ground.data }], guard := none }) rfl (fun K hK' => ?_) (AllReadyH.cons (o := { dst := some 8, op := Op.alloc 28, type := 0, pos := "l04_cases.go:264", after := #[], guard := none }) rfl (fun K hK' => ?_) AllReadyH.nil)
      · rw [if_pos (by rfl)]
        go_simp
        go_at_call 150
        refine (l1own_any b0 b1 b2 b3 c0 c1 c2 c3 l0 l1 l2 l3 _ n0 n1 n2 n3 o0 o1 o2 o3).mono ?_
        rintro e x2 ⟨a0, a1, a2, a3, f0, f1, f2, f3, m1, m2, m3, m4, rfl, T0, T1, T2, T3, mg1, mg2, mg3, mg4, mg5, hb⟩
        have hbs := hb.size
        replace YB := YB.below hb YB.lt; replace o0 := o0.below hb o0.1; replace o1 := o1.below hb o1.1; replace o2 := o2.below hb o2.1; replace o3 := o3.below hb o3.1
        replace kx := kx.trans (hb.mono kx.size)
        replace hx := hK.out _ kx
        have ksz := kx.size
        refine hK'.out _ _ hx (fun _ => ?_)
        clear hK' K hb
        generalize hxs : x1.heap.size = m0 at *
        clear hxs
        refine wpAnyH_ready (rs := [3, 4]) (by kernel_rfl) (by simp) ?_
        refine AllReadyH.cons (o := { dst := some 34, op := Op.call { callee := Callee.value (Operand.func 150), args := #[Operand.tmp 33], argTypes := #[28] }, type := 28, pos := "l04_cases.go:264", after := #[{ on := 2, ground := Ground.data }, { on := 1, ground := Ground.chain }], guard := none }) rfl (fun K hK' => ?_) (AllReadyH.cons (o := { dst := some 8, op := Op.alloc 28, type := 0, pos := "l04_cases.go:264", after := #[], guard := none }) rfl (fun K hK' => ?_) AllReadyH.nil)
        · rw [if_pos (by rfl)]
          go_simp
          go_at_call 150
          refine (l1own_any b0 b1 b2 b3 c0 c1 c2 c3 l0 l1 l2 l3 _ n0 n1 n2 n3 o0 o1 o2 o3).mono ?_
          rintro e x3 ⟨d0, d1, d2, d3, e0, e1, e2, e3, j1, j2, j3, j4, rfl, U0, U1, U2, U3, jg1, jg2, jg3, jg4, jg5, hb⟩
          have hbs := hb.size
          replace YB := YB.below hb YB.lt; replace T0 := T0.below hb (by omega); replace T1 := T1.below hb (by omega); replace T2 := T2.below hb (by omega); replace T3 := T3.below hb (by omega); replace o0 := o0.below hb o0.1; replace o1 := o1.below hb o1.1; replace o2 := o2.below hb o2.1; replace o3 := o3.below hb o3.1
          replace kx := kx.trans (hb.mono kx.size)
          replace hx := hK.out _ kx
          have ksz := kx.size
          refine hK'.out _ _ hx (fun _ => ?_)
          clear hK' K hb
          generalize hxs : x2.heap.size = j0 at *
          clear hxs
          refine wpAnyH_ready (rs := [4]) (by kernel_rfl) (by simp) ?_
          refine AllReadyH.cons (o := { dst := some 8, op := Op.alloc 28, type := 0, pos := "l04_cases.go:264", after := #[], guard := none }) rfl (fun K hK' => ?_) AllReadyH.nil
          rw [if_pos (by rfl)]
          go_simp
          have ZB := Box.new x3 (.slice none 0 0) (.slice none 0 0) (.slice none 0 0) (.slice none 0 0) 28
          have hb : Below x3.heap.size x3 (x3.alloc (.cells #[.slice none 0 0, .slice none 0 0, .slice none 0 0, .slice none 0 0] 28)) := (Below.refl _ _).alloc (Nat.le_refl _) _
          have hbs := hb.size
          replace YB := YB.below hb YB.lt; replace T0 := T0.below hb (by omega); replace T1 := T1.below hb (by omega); replace T2 := T2.below hb (by omega); replace T3 := T3.below hb (by omega); replace U0 := U0.below hb (by omega); replace U1 := U1.below hb (by omega); replace U2 := U2.below hb (by omega); replace U3 := U3.below hb (by omega); replace o0 := o0.below hb o0.1; replace o1 := o1.below hb o1.1; replace o2 := o2.below hb o2.1; replace o3 := o3.below hb o3.1
          replace kx := kx.trans (hb.mono kx.size)
          replace hx := hK.out _ kx
          have ksz := kx.size
          refine hK'.out _ _ hx (fun _ => ?_)
          clear hK' K hb
          have Zlt := ZB.lt
          generalize hxs : x3.heap.size = Z at *
          clear hxs
          generalize x3.alloc (.cells #[.slice none 0 0, .slice none 0 0, .slice none 0 0, .slice none 0 0] 28) = x4 at *
          refine wpAnyH_ready (rs := [6]) (by kernel_rfl) (by simp) ?_
          refine AllReadyH.cons (o := { dst := none, op := Op.store 28 (Operand.tmp 8) (Operand.tmp 32), type := 0, pos := "l04_cases.go:264", after := #[{ on := 4, ground := Ground.data }, { on := 1, ground := Ground.data }, { on := 3, ground := Ground.chain }, { on := 0, ground := Ground.phase }, { on := 1, ground := Ground.phase }, { on := 2, ground := Ground.textOnly Departure.lateStores }, { on := 3, ground := Ground.textOnly Departure.lateStoresUnsure }, { on := 4, ground := Ground.phase }, { on := 5, ground := Ground.phase }], guard := none }) rfl (fun K hK' => ?_) AllReadyH.nil
          rw [if_pos (by rfl)]
          have bc0 := ZB.c0; have bf0 := ZB.f0
          have bc1 := ZB.c1; have bf1 := ZB.f1
          have bc2 := ZB.c2; have bf2 := ZB.f2
          have bc3 := ZB.c3; have bf3 := ZB.f3
          go_simp
          clear bc0 bc1 bc2 bc3 bf0 bf1 bf2 bf3
          obtain ⟨FB, FO⟩ := ZB.fill (.slice a0 l0.length f0) (.slice a1 l1.length f1) (.slice a2 l2.length f2) (.slice a3 l3.length f3)
          replace YB := YB.out FO (by omega); replace T0 := T0.out FO (by omega); replace T1 := T1.out FO (by omega); replace T2 := T2.out FO (by omega); replace T3 := T3.out FO (by omega); replace U0 := U0.out FO (by omega); replace U1 := U1.out FO (by omega); replace U2 := U2.out FO (by omega); replace U3 := U3.out FO (by omega); replace o0 := o0.out FO (by omega); replace o1 := o1.out FO (by omega); replace o2 := o2.out FO (by omega); replace o3 := o3.out FO (by omega)
          replace kx := kx.trans (FO.below (B := w4.heap.size) (by omega) kx.size)
          replace hx := hK.out _ kx
          have fsz := FO.size
          have ksz := kx.size
          refine hK'.out _ _ hx (fun _ => ?_)
          clear hK' K FO ZB
          have ZB := FB
          clear FB
          generalize ((((x4.setCell ⟨Z, 0, none⟩ (.slice a0 l0.length f0)).setCell ⟨Z, 1, none⟩ (.slice a1 l1.length f1)).setCell ⟨Z, 2, none⟩ (.slice a2 l2.length f2)).setCell ⟨Z, 3, none⟩ (.slice a3 l3.length f3)) = x5 at *
          generalize hxs : x4.heap.size = Sx5 at *
          clear hxs
          refine wpAnyH_ready (rs := [7]) (by kernel_rfl) (by simp) ?_
          refine AllReadyH.cons (o := { dst := none, op := Op.store 28 (Operand.tmp 9) (Operand.tmp 34), type := 0, pos := "l04_cases.go:264", after := #[{ on := 5, ground := Ground.data }, { on := 3, ground := Ground.data }, { on := 6, ground := Ground.chain }, { on := 0, ground := Ground.phase }, { on := 1, ground := Ground.phase }, { on := 2, ground := Ground.phase }, { on := 3, ground := Ground.phase }, { on := 4, ground := Ground.phase }, { on := 5, ground := Ground.phase }, { on := 6, ground := Ground.phase }], guard := none }) rfl (fun K hK' => ?_) AllReadyH.nil
          rw [if_pos (by rfl)]
          have bc0 := YB.c0; have bf0 := YB.f0
          have bc1 := YB.c1; have bf1 := YB.f1
          have bc2 := YB.c2; have bf2 := YB.f2
          have bc3 := YB.c3; have bf3 := YB.f3
          go_simp
          clear bc0 bc1 bc2 bc3 bf0 bf1 bf2 bf3
          obtain ⟨FB, FO⟩ := YB.fill (.slice d0 l0.length e0) (.slice d1 l1.length e1) (.slice d2 l2.length e2) (.slice d3 l3.length e3)
          replace ZB := ZB.out FO (by omega); replace T0 := T0.out FO (by omega); replace T1 := T1.out FO (by omega); replace T2 := T2.out FO (by omega); replace T3 := T3.out FO (by omega); replace U0 := U0.out FO (by omega); replace U1 := U1.out FO (by omega); replace U2 := U2.out FO (by omega); replace U3 := U3.out FO (by omega); replace o0 := o0.out FO (by omega); replace o1 := o1.out FO (by omega); replace o2 := o2.out FO (by omega); replace o3 := o3.out FO (by omega)
          replace kx := kx.trans (FO.below (B := w4.heap.size) (by omega) kx.size)
          replace hx := hK.out _ kx
          have fsz := FO.size
          have ksz := kx.size
          refine hK'.out _ _ hx (fun _ => ?_)
          clear hK' K FO YB
          have YB := FB
          clear FB
          generalize ((((x5.setCell ⟨Y, 0, none⟩ (.slice d0 l0.length e0)).setCell ⟨Y, 1, none⟩ (.slice d1 l1.length e1)).setCell ⟨Y, 2, none⟩ (.slice d2 l2.length e2)).setCell ⟨Y, 3, none⟩ (.slice d3 l3.length e3)) = x6 at *
          generalize hxs : x5.heap.size = Sx6 at *
          clear hxs
          refine wpAnyH_done (by kernel_rfl) ?_ _
          try simp only [List.getElem_toArray, List.getElem_cons_succ, List.getElem_cons_zero, Act.put, List.setIfInBounds_toArray, List.set_cons_zero, List.set_cons_succ]
          go_wp2_with fail
          go_meet
          exact ⟨Z, Y, a0, a1, a2, a3, f0, f1, f2, f3, _, m1, m2, m3, m4, d0, d1, d2, d3, e0, e1, e2, e3, _, j1, j2, j3, j4, rfl, rfl, ZB, YB, ⟨T0, T1, T2, T3⟩, ⟨U0, U1, U2, U3⟩, by omega, by omega, by omega, kx⟩
        · rw [if_pos (by rfl)]
          go_simp
          have ZB := Box.new x2 (.slice none 0 0) (.slice none 0 0) (.slice none 0 0) (.slice none 0 0) 28
          have hb : Below x2.heap.size x2 (x2.alloc (.cells #[.slice none 0 0, .slice none 0 0, .slice none 0 0, .slice none 0 0] 28)) := (Below.refl _ _).alloc (Nat.le_refl _) _
          have hbs := hb.size
          replace YB := YB.below hb YB.lt; replace T0 := T0.below hb (by omega); replace T1 := T1.below hb (by omega); replace T2 := T2.below hb (by omega); replace T3 := T3.below hb (by omega); replace o0 := o0.below hb o0.1; replace o1 := o1.below hb o1.1; replace o2 := o2.below hb o2.1; replace o3 := o3.below hb o3.1
          replace kx := kx.trans (hb.mono kx.size)
          replace hx := hK.out _ kx
          have ksz := kx.size
          refine hK'.out _ _ hx (fun _ => ?_)
          clear hK' K hb
          have Zlt := ZB.lt
          generalize hxs : x2.heap.size = Z at *
          clear hxs
          generalize x2.alloc (.cells #[.slice none 0 0, .slice none 0 0, .slice none 0 0, .slice none 0 0] 28) = x3 at *
          refine wpAnyH_ready (rs := [3]) (by kernel_rfl) (by simp) ?_
          refine AllReadyH.cons (o := { dst := some 34, op := Op.call { callee := Callee.value (Operand.func 150), args := #[Operand.tmp 33], argTypes := #[28] }, type := 28, pos := "l04_cases.go:264", after := #[{ on := 2, ground := Ground.data }, { on := 1, ground := Ground.chain }], guard := none }) rfl (fun K hK' => ?_) AllReadyH.nil
          rw [if_pos (by rfl)]
          go_simp
          go_at_call 150
          refine (l1own_any b0 b1 b2 b3 c0 c1 c2 c3 l0 l1 l2 l3 _ n0 n1 n2 n3 o0 o1 o2 o3).mono ?_
          rintro e x4 ⟨d0, d1, d2, d3, e0, e1, e2, e3, j1, j2, j3, j4, rfl, U0, U1, U2, U3, jg1, jg2, jg3, jg4, jg5, hb⟩
          have hbs := hb.size
          replace ZB := ZB.below hb ZB.lt; replace YB := YB.below hb YB.lt; replace T0 := T0.below hb (by omega); replace T1 := T1.below hb (by omega); replace T2 := T2.below hb (by omega); replace T3 := T3.below hb (by omega); replace o0 := o0.below hb o0.1; replace o1 := o1.below hb o1.1; replace o2 := o2.below hb o2.1; replace o3 := o3.below hb o3.1
          replace kx := kx.trans (hb.mono kx.size)
          replace hx := hK.out _ kx
          have ksz := kx.size
          refine hK'.out _ _ hx (fun _ => ?_)
          clear hK' K hb
          generalize hxs : x3.heap.size = j0 at *
          clear hxs
          refine wpAnyH_ready (rs := [6]) (by kernel_rfl) (by simp) ?_
          refine AllReadyH.cons (o := { dst := none, op := Op.store 28 (Operand.tmp 8) (Operand.tmp 32), type := 0, pos := "l04_cases.go:264", after := #[{ on := 4, ground := Ground.data }, { on := 1, ground := Ground.data }, { on := 3, ground := Ground.chain }, { on := 0, ground := Ground.phase }, { on := 1, ground := Ground.phase }, { on := 2, ground := Ground.textOnly Departure.lateStores }, { on := 3, ground := Ground.textOnly Departure.lateStoresUnsure }, { on := 4, ground := Ground.phase }, { on := 5, ground := Ground.phase }], guard := none }) rfl (fun K hK' => ?_) AllReadyH.nil
          rw [if_pos (by rfl)]
          have bc0 := ZB.c0; have bf0 := ZB.f0
          have bc1 := ZB.c1; have bf1 := ZB.f1
          have bc2 := ZB.c2; have bf2 := ZB.f2
          have bc3 := ZB.c3; have bf3 := ZB.f3
          go_simp
          clear bc0 bc1 bc2 bc3 bf0 bf1 bf2 bf3
          obtain ⟨FB, FO⟩ := ZB.fill (.slice a0 l0.length f0) (.slice a1 l1.length f1) (.slice a2 l2.length f2) (.slice a3 l3.length f3)
          replace YB := YB.out FO (by omega); replace T0 := T0.out FO (by omega); replace T1 := T1.out FO (by omega); replace T2 := T2.out FO (by omega); replace T3 := T3.out FO (by omega); replace U0 := U0.out FO (by omega); replace U1 := U1.out FO (by omega); replace U2 := U2.out FO (by omega); replace U3 := U3.out FO (by omega); replace o0 := o0.out FO (by omega); replace o1 := o1.out FO (by omega); replace o2 := o2.out FO (by omega); replace o3 := o3.out FO (by omega)
          replace kx := kx.trans (FO.below (B := w4.heap.size) (by omega) kx.size)
          replace hx := hK.out _ kx
          have fsz := FO.size
          have ksz := kx.size
          refine hK'.out _ _ hx (fun _ => ?_)
          clear hK' K FO ZB
          have ZB := FB
          clear FB
          generalize ((((x4.setCell ⟨Z, 0, none⟩ (.slice a0 l0.length f0)).setCell ⟨Z, 1, none⟩ (.slice a1 l1.length f1)).setCell ⟨Z, 2, none⟩ (.slice a2 l2.length f2)).setCell ⟨Z, 3, none⟩ (.slice a3 l3.length f3)) = x5 at *
          generalize hxs : x4.heap.size = Sx5 at *
          clear hxs
          refine wpAnyH_ready (rs := [7]) (by kernel_rfl) (by simp) ?_
          refine AllReadyH.cons (o := { dst := none, op := Op.store 28 (Operand.tmp 9) (Operand.tmp 34), type := 0, pos := "l04_cases.go:264", after := #[{ on := 5, ground := Ground.data }, { on := 3, ground := Ground.data }, { on := 6, ground := Ground.chain }, { on := 0, ground := Ground.phase }, { on := 1, ground := Ground.phase }, { on := 2, ground := Ground.phase }, { on := 3, ground := Ground.phase }, { on := 4, ground := Ground.phase }, { on := 5, ground := Ground.phase }, { on := 6, ground := Ground.phase }], guard := none }) rfl (fun K hK' => ?_) AllReadyH.nil
          rw [if_pos (by rfl)]
          have bc0 := YB.c0; have bf0 := YB.f0
          have bc1 := YB.c1; have bf1 := YB.f1
          have bc2 := YB.c2; have bf2 := YB.f2
          have bc3 := YB.c3; have bf3 := YB.f3
          go_simp
          clear bc0 bc1 bc2 bc3 bf0 bf1 bf2 bf3
          obtain ⟨FB, FO⟩ := YB.fill (.slice d0 l0.length e0) (.slice d1 l1.length e1) (.slice d2 l2.length e2) (.slice d3 l3.length e3)
          replace ZB := ZB.out FO (by omega); replace T0 := T0.out FO (by omega); replace T1 := T1.out FO (by omega); replace T2 := T2.out FO (by omega); replace T3 := T3.out FO (by omega); replace U0 := U0.out FO (by omega); replace U1 := U1.out FO (by omega); replace U2 := U2.out FO (by omega); replace U3 := U3.out FO (by omega); replace o0 := o0.out FO (by omega); replace o1 := o1.out FO (by omega); replace o2 := o2.out FO (by omega); replace o3 := o3.out FO (by omega)
          replace kx := kx.trans (FO.below (B := w4.heap.size) (by omega) kx.size)
          replace hx := hK.out _ kx
          have fsz := FO.size
          have ksz := kx.size
          refine hK'.out _ _ hx (fun _ => ?_)
          clear hK' K FO YB
          have YB := FB
          clear FB
          generalize ((((x5.setCell ⟨Y, 0, none⟩ (.slice d0 l0.length e0)).setCell ⟨Y, 1, none⟩ (.slice d1 l1.length e1)).setCell ⟨Y, 2, none⟩ (.slice d2 l2.length e2)).setCell ⟨Y, 3, none⟩ (.slice d3 l3.length e3)) = x6 at *
          generalize hxs : x5.heap.size = Sx6 at *
          clear hxs
          refine wpAnyH_done (by kernel_rfl) ?_ _
          try simp only [List.getElem_toArray, List.getElem_cons_succ, List.getElem_cons_zero, Act.put, List.setIfInBounds_toArray, List.set_cons_zero, List.set_cons_succ]
          go_wp2_with fail
          go_meet
          exact ⟨Z, Y, a0, a1, a2, a3, f0, f1, f2, f3, _, m1, m2, m3, m4, d0, d1, d2, d3, e0, e1, e2, e3, _, j1, j2, j3, j4, rfl, rfl, ZB, YB, ⟨T0, T1, T2, T3⟩, ⟨U0, U1, U2, U3⟩, by omega, by omega, by omega, kx⟩
      · rw [if_pos (by rfl)]
        go_simp
        have ZB := Box.new x1 (.slice none 0 0) (.slice none 0 0) (.slice none 0 0) (.slice none 0 0) 28
        have hb : Below x1.heap.size x1 (x1.alloc (.cells #[.slice none 0 0, .slice none 0 0, .slice none 0 0, .slice none 0 0] 28)) := (Below.refl _ _).alloc (Nat.le_refl _) _
        have hbs := hb.size
        replace YB := YB.below hb YB.lt; replace o0 := o0.below hb o0.1; replace o1 := o1.below hb o1.1; replace o2 := o2.below hb o2.1; replace o3 := o3.below hb o3.1
        replace kx := kx.trans (hb.mono kx.size)
        replace hx := hK.out _ kx
        have ksz := kx.size
        refine hK'.out _ _ hx (fun _ => ?_)
        clear hK' K hb
        have Zlt := ZB.lt
        generalize hxs : x1.heap.size = Z at *
        clear hxs
        generalize x1.alloc (.cells #[.slice none 0 0, .slice none 0 0, .slice none 0 0, .slice none 0 0] 28) = x2 at *
        refine wpAnyH_ready (rs := [1]) (by kernel_rfl) (by simp) ?_
        refine AllReadyH.cons (o := { dst := some 32, op := Op.call { callee := Callee.value (Operand.func 150), args := #[Operand.tmp 31], argTypes := #[28] }, type := 28, pos := "l04_cases.go:264", after := #[{ on := 0, ground := Ground.data }], guard := none }) rfl (fun K hK' => ?_) AllReadyH.nil
        rw [if_pos (by rfl)]
        go_simp
        go_at_call 150
        refine (l1own_any b0 b1 b2 b3 c0 c1 c2 c3 l0 l1 l2 l3 _ n0 n1 n2 n3 o0 o1 o2 o3).mono ?_
        rintro e x3 ⟨a0, a1, a2, a3, f0, f1, f2, f3, m1, m2, m3, m4, rfl, T0, T1, T2, T3, mg1, mg2, mg3, mg4, mg5, hb⟩
        have hbs := hb.size
        replace ZB := ZB.below hb ZB.lt; replace YB := YB.below hb YB.lt; replace o0 := o0.below hb o0.1; replace o1 := o1.below hb o1.1; replace o2 := o2.below hb o2.1; replace o3 := o3.below hb o3.1
        replace kx := kx.trans (hb.mono kx.size)
        replace hx := hK.out _ kx
        have ksz := kx.size
        refine hK'.out _ _ hx (fun _ => ?_)
        clear hK' K hb
        generalize hxs : x2.heap.size = m0 at *
        clear hxs
        refine wpAnyH_ready (rs := [3]) (by kernel_rfl) (by simp) ?_
        refine AllReadyH.cons (o := { dst := some 34, op := Op.call { callee := Callee.value (Operand.func 150), args := #[Operand.tmp 33], argTypes := #[28] }, type := 28, pos := "l04_cases.go:264", after := #[{ on := 2, ground := Ground.data }, { on := 1, ground := Ground.chain }], guard := none }) rfl (fun K hK' => ?_) AllReadyH.nil
        rw [if_pos (by rfl)]
        go_simp
        go_at_call 150
        refine (l1own_any b0 b1 b2 b3 c0 c1 c2 c3 l0 l1 l2 l3 _ n0 n1 n2 n3 o0 o1 o2 o3).mono ?_
        rintro e x4 ⟨d0, d1, d2, d3, e0, e1, e2, e3, j1, j2, j3, j4, rfl, U0, U1, U2, U3, jg1, jg2, jg3, jg4, jg5, hb⟩
        have hbs := hb.size
        replace ZB := ZB.below hb ZB.lt; replace YB := YB.below hb YB.lt; replace T0 := T0.below hb (by omega); replace T1 := T1.below hb (by omega); replace T2 := T2.below hb (by omega); replace T3 := T3.below hb (by omega); replace o0 := o0.below hb o0.1; replace o1 := o1.below hb o1.1; replace o2 := o2.below hb o2.1; replace o3 := o3.below hb o3.1
        replace kx := kx.trans (hb.mono kx.size)
        replace hx := hK.out _ kx
        have ksz := kx.size
        refine hK'.out _ _ hx (fun _ => ?_)
        clear hK' K hb
        generalize hxs : x3.heap.size = j0 at *
        clear hxs
        refine wpAnyH_ready (rs := [6]) (by kernel_rfl) (by simp) ?_
        refine AllReadyH.cons (o := { dst := none, op := Op.store 28 (Operand.tmp 8) (Operand.tmp 32), type := 0, pos := "l04_cases.go:264", after := #[{ on := 4, ground := Ground.data }, { on := 1, ground := Ground.data }, { on := 3, ground := Ground.chain }, { on := 0, ground := Ground.phase }, { on := 1, ground := Ground.phase }, { on := 2, ground := Ground.textOnly Departure.lateStores }, { on := 3, ground := Ground.textOnly Departure.lateStoresUnsure }, { on := 4, ground := Ground.phase }, { on := 5, ground := Ground.phase }], guard := none }) rfl (fun K hK' => ?_) AllReadyH.nil
        rw [if_pos (by rfl)]
        have bc0 := ZB.c0; have bf0 := ZB.f0
        have bc1 := ZB.c1; have bf1 := ZB.f1
        have bc2 := ZB.c2; have bf2 := ZB.f2
        have bc3 := ZB.c3; have bf3 := ZB.f3
        go_simp
        clear bc0 bc1 bc2 bc3 bf0 bf1 bf2 bf3
        obtain ⟨FB, FO⟩ := ZB.fill (.slice a0 l0.length f0) (.slice a1 l1.length f1) (.slice a2 l2.length f2) (.slice a3 l3.length f3)
        replace YB := YB.out FO (by omega); replace T0 := T0.out FO (by omega); replace T1 := T1.out FO (by omega); replace T2 := T2.out FO (by omega); replace T3 := T3.out FO (by omega); replace U0 := U0.out FO (by omega); replace U1 := U1.out FO (by omega); replace U2 := U2.out FO (by omega); replace U3 := U3.out FO (by omega); replace o0 := o0.out FO (by omega); replace o1 := o1.out FO (by omega); replace o2 := o2.out FO (by omega); replace o3 := o3.out FO (by omega)
        replace kx := kx.trans (FO.below (B := w4.heap.size) (by omega) kx.size)
        replace hx := hK.out _ kx
        have fsz := FO.size
        have ksz := kx.size
        refine hK'.out _ _ hx (fun _ => ?_)
        clear hK' K FO ZB
        have ZB := FB
        clear FB
        generalize ((((x4.setCell ⟨Z, 0, none⟩ (.slice a0 l0.length f0)).setCell ⟨Z, 1, none⟩ (.slice a1 l1.length f1)).setCell ⟨Z, 2, none⟩ (.slice a2 l2.length f2)).setCell ⟨Z, 3, none⟩ (.slice a3 l3.length f3)) = x5 at *
        generalize hxs : x4.heap.size = Sx5 at *
        clear hxs
        refine wpAnyH_ready (rs := [7]) (by kernel_rfl) (by simp) ?_
        refine AllReadyH.cons (o := { dst := none, op := Op.store 28 (Operand.tmp 9) (Operand.tmp 34), type := 0, pos := "l04_cases.go:264", after := #[{ on := 5, ground := Ground.data }, { on := 3, ground := Ground.data }, { on := 6, ground := Ground.chain }, { on := 0, ground := Ground.phase }, { on := 1, ground := Ground.phase }, { on := 2, ground := Ground.phase }, { on := 3, ground := Ground.phase }, { on := 4, ground := Ground.phase }, { on := 5, ground := Ground.phase }, { on := 6, ground := Ground.phase }], guard := none }) rfl (fun K hK' => ?_) AllReadyH.nil
        rw [if_pos (by rfl)]
        have bc0 := YB.c0; have bf0 := YB.f0
        have bc1 := YB.c1; have bf1 := YB.f1
        have bc2 := YB.c2; have bf2 := YB.f2
        have bc3 := YB.c3; have bf3 := YB.f3
        go_simp
        clear bc0 bc1 bc2 bc3 bf0 bf1 bf2 bf3
        obtain ⟨FB, FO⟩ := YB.fill (.slice d0 l0.length e0) (.slice d1 l1.length e1) (.slice d2 l2.length e2) (.slice d3 l3.length e3)
        replace ZB := ZB.out FO (by omega); replace T0 := T0.out FO (by omega); replace T1 := T1.out FO (by omega); replace T2 := T2.out FO (by omega); replace T3 := T3.out FO (by omega); replace U0 := U0.out FO (by omega); replace U1 := U1.out FO (by omega); replace U2 := U2.out FO (by omega); replace U3 := U3.out FO (by omega); replace o0 := o0.out FO (by omega); replace o1 := o1.out FO (by omega); replace o2 := o2.out FO (by omega); replace o3 := o3.out FO (by omega)
        replace kx := kx.trans (FO.below (B := w4.heap.size) (by omega) kx.size)
        replace hx := hK.out _ kx
        have fsz := FO.size
        have ksz := kx.size
        refine hK'.out _ _ hx (fun _ => ?_)
        clear hK' K FO YB
        have YB := FB
        clear FB
        generalize ((((x5.setCell ⟨Y, 0, none⟩ (.slice d0 l0.length e0)).setCell ⟨Y, 1, none⟩ (.slice d1 l1.length e1)).setCell ⟨Y, 2, none⟩ (.slice d2 l2.length e2)).setCell ⟨Y, 3, none⟩ (.slice d3 l3.length e3)) = x6 at *
        generalize hxs : x5.heap.size = Sx6 at *
        clear hxs
        refine wpAnyH_done (by kernel_rfl) ?_ _
        try simp only [List.getElem_toArray, List.getElem_cons_succ, List.getElem_cons_zero, Act.put, List.setIfInBounds_toArray, List.set_cons_zero, List.set_cons_succ]
        go_wp2_with fail
        go_meet
        exact ⟨Z, Y, a0, a1, a2, a3, f0, f1, f2, f3, _, m1, m2, m3, m4, d0, d1, d2, d3, e0, e1, e2, e3, _, j1, j2, j3, j4, rfl, rfl, ZB, YB, ⟨T0, T1, T2, T3⟩, ⟨U0, U1, U2, U3⟩, by omega, by omega, by omega, kx⟩
  case rest =>
    obtain ⟨Z, Y, s0, s1, s2, s3, f0, f1, f2, f3, m0, m1, m2, m3, m4, y0, y1, y2, y3, j0, j1, j2, j3, i0, i1, i2, i3, i4, rfl, rfl, XZ, XY, ⟨T0, T1, T2, T3⟩, ⟨U0, U1, U2, U3⟩, gm, gn, gz, hb⟩ := hcut
    rename World => w5
    have zR4 := R0.lt; have zY4 := Y0.lt; have zL4 := L0.size
    have ob3 : b3 < w4.heap.size := o3.1
    have hS4 := hb.size
    have zY5 := XY.lt; have zZ5 := XZ.lt
    clear hS0 k0 hK
    clear o0 o1 o2
    replace A0 := A0.below hb A0.lt; replace R0 := R0.below hb R0.lt; replace Y0 := Y0.below hb Y0.lt; replace L0 := L0.trans (hb.mono L0.size)
    replace o3 := o3.below hb o3.1; replace BP := BP.below hb BP.lt
    clear hb
    generalize w4.heap.size = S4 at *
    have zzE := XZ.lt
    go_upto_region 5 with fail
    have PW := own_pair w5 sx sy
    have al : Below w5.heap.size w5 (w5.alloc (.cells #[.int .i64 sx, .int .i64 sy] 69)) := (Below.refl _ _).alloc (Nat.le_refl _) _
    have bc0 := XZ.c0; have bf0 := XZ.f0; have pc0 := BP.c0; have pc1 := BP.c1
    have zal : (w5.alloc (.cells #[.int .i64 sx, .int .i64 sy] 69)).heap.size = w5.heap.size + 1 := by simp
    have RW := T0.below al (by omega)
    go_wp2_with (first | (at_builtin; refine wpList_room rfl _ _ rfl m0 m1 s0 l0.length f0 l0 rfl RW w5.heap.size 1 1 [(sx, sy)] rfl rfl PW (by omega) (by omega) ?_))
    clear bc0 bf0 pc0 pc1 RW PW
    intro pE qE w6 rE ho
    clear T0
    replace A0 := A0.below al A0.lt; replace R0 := R0.below al R0.lt; replace Y0 := Y0.below al Y0.lt; replace L0 := L0.trans (al.mono L0.size)
    replace o3 := o3.below al o3.1; replace BP := BP.below al BP.lt; replace XZ := XZ.below al XZ.lt; replace XY := XY.below al XY.lt
    replace T1 := T1.below al (by omega); replace T2 := T2.below al (by omega); replace T3 := T3.below al (by omega); replace U0 := U0.below al (by omega)
    replace U1 := U1.below al (by omega); replace U2 := U2.below al (by omega); replace U3 := U3.below al (by omega)
    clear al
    replace A0 := A0.out ho (by omega); replace R0 := R0.out ho (by omega); replace Y0 := Y0.out ho (by omega); replace L0 := L0.trans (ho.below (by omega) L0.size)
    replace o3 := o3.out ho (by omega); replace BP := BP.out ho (by omega); replace XZ := XZ.out ho (by omega); replace XY := XY.out ho (by omega)
    replace T1 := T1.out ho (by omega); replace T2 := T2.out ho (by omega); replace T3 := T3.out ho (by omega); replace U0 := U0.out ho (by omega)
    replace U1 := U1.out ho (by omega); replace U2 := U2.out ho (by omega); replace U3 := U3.out ho (by omega)
    have hsz := ho.size
    clear ho
    have hs := Out.set Z 0 w6 (.slice pE (l0.length + 1) qE)
    have xc := XZ.c0; have xf := XZ.f0
    replace rE := rE.out hs (by omega) (by omega)
    replace A0 := A0.out hs (by omega); replace R0 := R0.out hs (by omega); replace Y0 := Y0.out hs (by omega); replace L0 := L0.trans (hs.below (by omega) L0.size)
    replace o3 := o3.out hs (by omega); replace BP := BP.out hs (by omega); replace XY := XY.out hs (by omega); replace T1 := T1.out hs (by omega)
    replace T2 := T2.out hs (by omega); replace T3 := T3.out hs (by omega); replace U0 := U0.out hs (by omega); replace U1 := U1.out hs (by omega)
    replace U2 := U2.out hs (by omega); replace U3 := U3.out hs (by omega)
    have XZ' := XZ.set0 (.slice pE (l0.length + 1) qE)
    clear XZ
    have XZ := XZ'
    clear XZ'
    have hs1 := hs.size
    clear hs
    go_upto_region 6 with fail
    clear xc xf
    generalize w6.setCell ⟨Z, 0, none⟩ (.slice pE (l0.length + 1) qE) = w7 at *
    have A0c3 := A0.c3
    go_wp2_with fail
    clear A0c3
    refine (l4without_any b3 c3 l3 k _ hk n3 z3' (by exact o3)).mono ?_
    rintro e u8 ⟨p3, q3, rfl, r3, hb⟩
    have hS7 := hb.size
    clear T3
    replace A0 := A0.below hb A0.lt; replace R0 := R0.below hb R0.lt; replace Y0 := Y0.below hb Y0.lt; replace L0 := L0.trans (hb.mono L0.size)
    replace o3 := o3.below hb o3.1; replace BP := BP.below hb BP.lt; replace XY := XY.below hb XY.lt; replace T1 := T1.below hb (by omega)
    replace T2 := T2.below hb (by omega); replace U0 := U0.below hb (by omega); replace U1 := U1.below hb (by omega); replace U2 := U2.below hb (by omega)
    replace U3 := U3.below hb (by omega); replace XZ := XZ.below hb XZ.lt; replace rE := rE.out (lo' := 0) (hi' := 0) (Out.ofBelow hb) (.inr (Nat.zero_le _)) (Nat.zero_le _)
    clear hb
    generalize w7.heap.size = S7 at *
    have hs := Out.set Z 3 u8 (.slice p3 (k + (l3.length - (k + 1))) q3)
    have xc := XZ.c3; have xf := XZ.f3
    have zZ8 := XZ.lt
    replace A0 := A0.out hs (by omega); replace R0 := R0.out hs (by omega); replace Y0 := Y0.out hs (by omega); replace L0 := L0.trans (hs.below (by omega) L0.size)
    replace o3 := o3.out hs (by omega); replace BP := BP.out hs (by omega); replace XY := XY.out hs (by omega); replace T1 := T1.out hs (by omega)
    replace T2 := T2.out hs (by omega); replace U0 := U0.out hs (by omega); replace U1 := U1.out hs (by omega); replace U2 := U2.out hs (by omega)
    replace U3 := U3.out hs (by omega); replace rE := rE.out hs (by omega) (by omega); replace r3 := r3.out hs (by omega)
    have XZ' := XZ.set3 (.slice p3 (k + (l3.length - (k + 1))) q3)
    clear XZ
    have XZ := XZ'
    clear XZ'
    have hs1 := hs.size
    clear hs
    go_upto_region 7 with fail
    clear xc xf
    generalize u8.setCell ⟨Z, 3, none⟩ (.slice p3 (k + (l3.length - (k + 1))) q3) = w8 at *
    have zzN := XY.lt
    go_upto_region 7 with fail
    have PW := own_pair w8 sx sy
    have al : Below w8.heap.size w8 (w8.alloc (.cells #[.int .i64 sx, .int .i64 sy] 69)) := (Below.refl _ _).alloc (Nat.le_refl _) _
    have bc0 := XY.c1; have bf0 := XY.f1; have pc0 := BP.c0; have pc1 := BP.c1
    have zal : (w8.alloc (.cells #[.int .i64 sx, .int .i64 sy] 69)).heap.size = w8.heap.size + 1 := by simp
    have RW := U1.below al (by omega)
    go_wp2_with (first | (at_builtin; refine wpList_room rfl _ _ rfl i1 i2 y1 l1.length j1 l1 rfl RW w8.heap.size 1 1 [(sx, sy)] rfl rfl PW (by omega) (by omega) ?_))
    clear bc0 bf0 pc0 pc1 RW PW
    intro pN qN w9 rN ho
    clear U1
    replace A0 := A0.below al A0.lt; replace R0 := R0.below al R0.lt; replace Y0 := Y0.below al Y0.lt; replace L0 := L0.trans (al.mono L0.size)
    replace o3 := o3.below al o3.1; replace BP := BP.below al BP.lt; replace XY := XY.below al XY.lt; replace T1 := T1.below al (by omega)
    replace T2 := T2.below al (by omega); replace U0 := U0.below al (by omega); replace U2 := U2.below al (by omega); replace U3 := U3.below al (by omega)
    replace rE := rE.out (lo' := 0) (hi' := 0) (Out.ofBelow al) (.inr (Nat.zero_le _)) (Nat.zero_le _); replace r3 := r3.below al (by omega); replace XZ := XZ.below al XZ.lt
    clear al
    replace A0 := A0.out ho (by omega); replace R0 := R0.out ho (by omega); replace Y0 := Y0.out ho (by omega); replace L0 := L0.trans (ho.below (by omega) L0.size)
    replace o3 := o3.out ho (by omega); replace BP := BP.out ho (by omega); replace XY := XY.out ho (by omega); replace T1 := T1.out ho (by omega)
    replace T2 := T2.out ho (by omega); replace U0 := U0.out ho (by omega); replace U2 := U2.out ho (by omega); replace U3 := U3.out ho (by omega)
    replace rE := rE.out ho (by omega) (by omega); replace r3 := r3.out ho (by omega); replace XZ := XZ.out ho (by omega)
    have hsz := ho.size
    clear ho
    have hs := Out.set Y 1 w9 (.slice pN (l1.length + 1) qN)
    have xc := XY.c1; have xf := XY.f1
    replace rN := rN.out hs (by omega) (by omega)
    replace A0 := A0.out hs (by omega); replace R0 := R0.out hs (by omega); replace Y0 := Y0.out hs (by omega); replace L0 := L0.trans (hs.below (by omega) L0.size)
    replace o3 := o3.out hs (by omega); replace BP := BP.out hs (by omega); replace T1 := T1.out hs (by omega); replace T2 := T2.out hs (by omega)
    replace U0 := U0.out hs (by omega); replace U2 := U2.out hs (by omega); replace U3 := U3.out hs (by omega); replace rE := rE.out hs (by omega) (by omega)
    replace r3 := r3.out hs (by omega); replace XZ := XZ.out hs (by omega)
    have XY' := XY.set1 (.slice pN (l1.length + 1) qN)
    clear XY
    have XY := XY'
    clear XY'
    have hs1 := hs.size
    clear hs
    go_upto_region 8 with fail
    clear xc xf
    generalize w9.setCell ⟨Y, 1, none⟩ (.slice pN (l1.length + 1) qN) = w10 at *
    clear o3
    have dr : Below w10.heap.size w10 w10.drew := (Below.refl _ _).drew
    have zZ10 := XZ.lt; have zY10 := XY.lt
    have dsz := dr.size
    replace A0 := A0.below dr A0.lt; replace R0 := R0.below dr R0.lt; replace Y0 := Y0.below dr Y0.lt; replace L0 := L0.trans (dr.mono L0.size)
    replace BP := BP.below dr BP.lt; replace T1 := T1.below dr (by omega); replace T2 := T2.below dr (by omega); replace U0 := U0.below dr (by omega)
    replace U2 := U2.below dr (by omega); replace U3 := U3.below dr (by omega); replace rE := rE.out (lo' := 0) (hi' := 0) (Out.ofBelow dr) (.inr (Nat.zero_le _)) (Nat.zero_le _); replace r3 := r3.below dr (by omega)
    replace XZ := XZ.below dr XZ.lt; replace XY := XY.below dr XY.lt; replace rN := rN.out (lo' := 0) (hi' := 0) (Out.ofBelow dr) (.inr (Nat.zero_le _)) (Nat.zero_le _)
    have hs0 : w10.drew.cell? ⟨Z, 0, none⟩ = some (.slice pE (l0.length + 1) qE) ∧ w10.drew.cell? ⟨Z, 1, none⟩ = some (.slice s1 l1.length f1) ∧ w10.drew.cell? ⟨Z, 2, none⟩ = some (.slice s2 l2.length f2) ∧ w10.drew.cell? ⟨Z, 3, none⟩ = some (.slice p3 (k + (l3.length - (k + 1))) q3) ∧ w10.drew.cell? ⟨Y, 0, none⟩ = some (.slice y0 l0.length j0) ∧ w10.drew.cell? ⟨Y, 1, none⟩ = some (.slice pN (l1.length + 1) qN) ∧ w10.drew.cell? ⟨Y, 2, none⟩ = some (.slice y2 l2.length j2) ∧ w10.drew.cell? ⟨Y, 3, none⟩ = some (.slice y3 l3.length j3) := ⟨XZ.c0, XZ.c1, XZ.c2, XZ.c3, XY.c0, XY.c1, XY.c2, XY.c3⟩
    refine wp_region_held_drew (S := fun W => W.cell? ⟨Z, 0, none⟩ = some (.slice pE (l0.length + 1) qE) ∧ W.cell? ⟨Z, 1, none⟩ = some (.slice s1 l1.length f1) ∧ W.cell? ⟨Z, 2, none⟩ = some (.slice s2 l2.length f2) ∧ W.cell? ⟨Z, 3, none⟩ = some (.slice p3 (k + (l3.length - (k + 1))) q3) ∧ W.cell? ⟨Y, 0, none⟩ = some (.slice y0 l0.length j0) ∧ W.cell? ⟨Y, 1, none⟩ = some (.slice pN (l1.length + 1) qN) ∧ W.cell? ⟨Y, 2, none⟩ = some (.slice y2 l2.length j2) ∧ W.cell? ⟨Y, 3, none⟩ = some (.slice y3 l3.length j3)) (by kernel_rfl) hs0 (fun _ => ?_)
    clear dr
    generalize w10.drew = v0 at *
    have hK : Hid (∀ W : World, Out (w.heap.size + 1) (w.heap.size + 3) v0 W → W.cell? ⟨Z, 0, none⟩ = some (.slice pE (l0.length + 1) qE) ∧ W.cell? ⟨Z, 1, none⟩ = some (.slice s1 l1.length f1) ∧ W.cell? ⟨Z, 2, none⟩ = some (.slice s2 l2.length f2) ∧ W.cell? ⟨Z, 3, none⟩ = some (.slice p3 (k + (l3.length - (k + 1))) q3) ∧ W.cell? ⟨Y, 0, none⟩ = some (.slice y0 l0.length j0) ∧ W.cell? ⟨Y, 1, none⟩ = some (.slice pN (l1.length + 1) qN) ∧ W.cell? ⟨Y, 2, none⟩ = some (.slice y2 l2.length j2) ∧ W.cell? ⟨Y, 3, none⟩ = some (.slice y3 l3.length j3)) := fun W ho => ⟨(XZ.out ho (by omega)).c0, (XZ.out ho (by omega)).c1, (XZ.out ho (by omega)).c2, (XZ.out ho (by omega)).c3, (XY.out ho (by omega)).c0, (XY.out ho (by omega)).c1, (XY.out ho (by omega)).c2, (XY.out ho (by omega)).c3⟩
    clear A0
    refine wpAnyH_take (i := 0) (v := .agg #[.slice pE (l0.length + 1) qE, .slice s1 l1.length f1, .slice s2 l2.length f2, .slice p3 (k + (l3.length - (k + 1))) q3]) rfl (by kernel_rfl) (by kernel_rfl) (by kernel_rfl) (fun _ _ _ h => h) (Or.inl ⟨by rfl, ?_⟩) hs0 ?_
    · intro w2 hSw; go_simp
    try simp only [Act.put, List.setIfInBounds_toArray, List.set_cons_zero, List.set_cons_succ]
    refine wpAnyH_take (i := 1) (v := .agg #[.slice y0 l0.length j0, .slice pN (l1.length + 1) qN, .slice y2 l2.length j2, .slice y3 l3.length j3]) rfl (by kernel_rfl) (by kernel_rfl) (by kernel_rfl) (fun _ _ _ h => h) (Or.inl ⟨by rfl, ?_⟩) hs0 ?_
    · intro w2 hSw; go_simp
    try simp only [Act.put, List.setIfInBounds_toArray, List.set_cons_zero, List.set_cons_succ]
    refine wpAnyH_ready (rs := [2]) (by kernel_rfl) (by simp) ?_
    refine AllReadyH.cons (o := { dst := none, op := Op.store 28 (Operand.tmp 4) (Operand.tmp 52), type := 0, pos := "l04_cases.go:268", after := #[{ on := 0, ground := Ground.data }, { on := 0, ground := Ground.phase }, { on := 1, ground := Ground.textOnly Departure.lateStores }], guard := none }) rfl (fun K hK' => ?_) AllReadyH.nil
    rw [if_pos (by rfl)]
    have g0 := R0.c0; have g1 := R0.c1; have g2 := R0.c2; have g3 := R0.c3; have g4 := R0.f0; have g5 := R0.f1; have g6 := R0.f2; have g7 := R0.f3
    try go_simp
    clear g0 g1 g2 g3 g4 g5 g6 g7
    obtain ⟨FB2, FO⟩ := R0.fill (.slice pE (l0.length + 1) qE) (.slice s1 l1.length f1) (.slice s2 l2.length f2) (.slice p3 (k + (l3.length - (k + 1))) q3)
    replace Y0 := Y0.out FO (by omega); replace L0 := L0.trans (FO.below (by omega) L0.size); replace BP := BP.out FO (by omega); replace T1 := T1.out FO (by omega)
    replace T2 := T2.out FO (by omega); replace U0 := U0.out FO (by omega); replace U2 := U2.out FO (by omega); replace U3 := U3.out FO (by omega)
    replace rE := rE.out FO (by omega) (by omega); replace r3 := r3.out FO (by omega); replace rN := rN.out FO (by omega) (by omega)
    have k1 := FO.mono (lo' := w.heap.size + 1) (hi' := w.heap.size + 3) (by omega) (by omega)
    have hs1 := hK.out _ k1
    have fs2 := FO.size
    refine hK'.out _ _ hs1 (fun _ => ?_)
    clear hK' K R0 FO
    generalize ((((v0.setCell ⟨w.heap.size + 1, 0, none⟩ (.slice pE (l0.length + 1) qE)).setCell ⟨w.heap.size + 1, 1, none⟩ (.slice s1 l1.length f1)).setCell ⟨w.heap.size + 1, 2, none⟩ (.slice s2 l2.length f2)).setCell ⟨w.heap.size + 1, 3, none⟩ (.slice p3 (k + (l3.length - (k + 1))) q3)) = v1 at *
    refine wpAnyH_ready (rs := [3]) (by kernel_rfl) (by simp) ?_
    refine AllReadyH.cons (o := { dst := none, op := Op.store 28 (Operand.tmp 5) (Operand.tmp 53), type := 0, pos := "l04_cases.go:268", after := #[{ on := 1, ground := Ground.data }, { on := 2, ground := Ground.chain }, { on := 0, ground := Ground.phase }, { on := 1, ground := Ground.phase }, { on := 2, ground := Ground.phase }], guard := none }) rfl (fun K hK' => ?_) AllReadyH.nil
    rw [if_pos (by rfl)]
    have g0 := Y0.c0; have g1 := Y0.c1; have g2 := Y0.c2; have g3 := Y0.c3; have g4 := Y0.f0; have g5 := Y0.f1; have g6 := Y0.f2; have g7 := Y0.f3
    try go_simp
    clear g0 g1 g2 g3 g4 g5 g6 g7
    obtain ⟨FB3, FO⟩ := Y0.fill (.slice y0 l0.length j0) (.slice pN (l1.length + 1) qN) (.slice y2 l2.length j2) (.slice y3 l3.length j3)
    replace L0 := L0.trans (FO.below (by omega) L0.size); replace BP := BP.out FO (by omega); replace T1 := T1.out FO (by omega); replace T2 := T2.out FO (by omega)
    replace U0 := U0.out FO (by omega); replace U2 := U2.out FO (by omega); replace U3 := U3.out FO (by omega); replace rE := rE.out FO (by omega) (by omega)
    replace r3 := r3.out FO (by omega); replace rN := rN.out FO (by omega) (by omega); replace FB2 := FB2.out FO (by omega)
    have k2 := k1.trans (FO.mono (lo' := w.heap.size + 1) (hi' := w.heap.size + 3) (by omega) (by omega))
    have hs2 := hK.out _ k2
    have fs3 := FO.size
    refine hK'.out _ _ hs2 (fun _ => ?_)
    clear hK' K Y0 FO
    generalize ((((v1.setCell ⟨w.heap.size + 1 + 1, 0, none⟩ (.slice y0 l0.length j0)).setCell ⟨w.heap.size + 1 + 1, 1, none⟩ (.slice pN (l1.length + 1) qN)).setCell ⟨w.heap.size + 1 + 1, 2, none⟩ (.slice y2 l2.length j2)).setCell ⟨w.heap.size + 1 + 1, 3, none⟩ (.slice y3 l3.length j3)) = v2 at *
    refine wpAnyH_ready (rs := [4]) (by kernel_rfl) (by simp) ?_
    refine AllReadyH.cons (o := { dst := some 6, op := Op.assign (Operand.const (Value.bool true)), type := 4, pos := "l04_cases.go:268", after := #[{ on := 3, ground := Ground.chain }, { on := 0, ground := Ground.phase }, { on := 1, ground := Ground.phase }, { on := 2, ground := Ground.phase }, { on := 3, ground := Ground.phase }], guard := none }) rfl (fun K hK' => ?_) AllReadyH.nil
    rw [if_pos (by rfl)]
    try go_simp
    refine hK'.out _ _ hs2 (fun _ => ?_)
    clear hK' K
    refine wpAnyH_done (by kernel_rfl) ?_ _
    try simp only [List.getElem_toArray, List.getElem_cons_succ, List.getElem_cons_zero, Act.put, List.setIfInBounds_toArray, List.set_cons_zero, List.set_cons_succ]
    have i0' := FB2.c0; have i1' := FB2.c1; have i2' := FB2.c2; have i3' := FB2.c3
    have k0' := FB3.c0; have k1' := FB3.c1; have k2' := FB3.c2; have k3' := FB3.c3
    go_wp2
    refine bodyPost_ret (v := .tuple #[.agg #[.slice pE (l0.length + 1) qE, .slice s1 l1.length f1, .slice s2 l2.length f2, .slice p3 (k + (l3.length - (k + 1))) q3], .agg #[.slice y0 l0.length j0, .slice pN (l1.length + 1) qN, .slice y2 l2.length j2, .slice y3 l3.length j3], .bool true]) ?_ rfl ⟨pE, s1, s2, p3, qE, f1, f2, q3, y0, pN, y2, y3, j0, qN, j2, j3, rfl, ?_, ?_, L0⟩
    · simp [results, Try.results95, go_sem, i0', i1', i2', i3', k0', k1', k2', k3']
    · rw [HSG.out]; exact ⟨rE.row (by omega) (by omega), T1.row.mono (by omega) (by omega), T2.row.mono (by omega) (by omega), r3.row.mono (by omega) (by omega)⟩
    · rw [HSG.out]; exact ⟨U0.row.mono (by omega) (by omega), rN.row (by omega) (by omega), U2.row.mono (by omega) (by omega), U3.row.mono (by omega) (by omega)⟩

end Go.Proofs.Ytphchdjbhbmnbaa
