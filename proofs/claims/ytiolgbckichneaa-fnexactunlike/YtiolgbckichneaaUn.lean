/-
  Two classes that pieces hold apart: the contracts of impl.partsBySpace and of spec.l3unlike.
-/
import Derived.Test.YtiolgbckichneaaOs
import Derived.Test.YtiolgbckichneaaIx
import Derived.Deep.QuietTactic
import Derived.BigQuiet
namespace Go.Proofs.Ytiolgbckichneaa
open Go.RowKit
def partsV (h : List Int) (x y : Int) : Bool := !(decide (min x y = max x y)) && (hasV h (max x y) && (decide (min x y = 0) || hasV h (min x y)))
theorem parts_spec {h : List Int} {x y : Int} (hx : 0 ≤ x) (hy : 0 ≤ y) : (!(decide (x = y)) && (hasV h x || decide (x = 0)) && (hasV h y || decide (y = 0)) && (hasV h x || hasV h y)) = partsV h x y := by
  unfold partsV
  rcases Int.lt_trichotomy x y with h1 | h1 | h1
  · rw [show min x y = x by omega, show max x y = y by omega, decide_eq_false (show ¬ x = y by omega), decide_eq_false (show ¬ y = 0 by omega)]
    cases hasV h x <;> cases hasV h y <;> cases decide (x = 0) <;> rfl
  · subst h1
    rw [show min x x = x by omega, show max x x = x by omega, decide_eq_true (rfl : x = x)]
    rfl
  · rw [show min x y = y by omega, show max x y = x by omega, decide_eq_false (show ¬ x = y by omega), decide_eq_false (show ¬ x = 0 by omega), decide_eq_false (show ¬ y = x by omega)]
    cases hasV h x <;> cases hasV h y <;> cases decide (y = 0) <;> rfl

set_option maxRecDepth 3000 in
set_option maxHeartbeats 1000000 in
theorem parts_any (lo hi n cp : Nat) (a : Option Addr) (h : List Int) (x y : Int) (w : World) (hn : n ≤ 1048576) (hr : IntIn w lo hi a n h) (hx : 0 ≤ x ∧ x < 16) (hy : 0 ≤ y ∧ y < 16) :
    Calls Try.prog 78 #[.slice a n cp, cplV x y] w fun e w' => e = .returned (.bool (partsV h x y)) ∧ w' = w := by
  have HP : Hid (partsV h x y = (!(decide (min x y = max x y)) && (hasV h (max x y) && (decide (min x y = 0) || hasV h (min x y))))) := rfl
  unfold cplV
  have hg0 : 0 ≤ max x y := by omega
  have hg1 : max x y < 16 := by omega
  have hk0 : 0 ≤ min x y := by omega
  have hk1 : min x y < 16 := by omega
  generalize max x y = g at *
  generalize min x y = l at *
  generalize partsV h x y = V at *
  clear hx hy
  go_enter Try.func78, Try.ntmps78
  go_wp2_with fail
  refine (lesser_any l _ _ hk0 hk1).mono ?_
  rintro e wz ⟨rfl, rfl⟩
  go_wp2_with fail
  refine (greater_any g _ _ hg0 hg1).mono ?_
  rintro e wz ⟨rfl, rfl⟩
  by_cases e1 : l = g
  · have HV : Hid (V = false) := by unfold Hid; rw [HP.out, decide_eq_true e1]; rfl
    go_wp2
    go_ret
    exact ⟨by rw [HV.out]; rfl, rfl⟩
  go_wp2_with fail
  refine (greater_any g _ _ hg0 hg1).mono ?_
  rintro e wz ⟨rfl, rfl⟩
  go_wp2_with fail
  refine (contains_any lo hi n cp a h g _ hn hr).mono ?_
  rintro e wz ⟨rfl, rfl⟩
  cases e2 : hasV h g
  · have HV : Hid (V = false) := by unfold Hid; rw [HP.out, e2]; simp
    go_wp2
    go_ret
    exact ⟨by rw [HV.out]; rfl, rfl⟩
  go_wp2_with fail
  refine (lesser_any l _ _ hk0 hk1).mono ?_
  rintro e wz ⟨rfl, rfl⟩
  by_cases e3 : l = 0
  · have HV : Hid (V = true) := by unfold Hid; rw [HP.out, decide_eq_false e1, e2, decide_eq_true e3]; rfl
    go_wp2
    go_ret
    exact ⟨by rw [HV.out]; rfl, rfl⟩
  go_wp2_with fail
  refine (lesser_any l _ _ hk0 hk1).mono ?_
  rintro e wz ⟨rfl, rfl⟩
  go_wp2_with fail
  refine (contains_any lo hi n cp a h l _ hn hr).mono ?_
  rintro e wz ⟨rfl, rfl⟩
  have HV : Hid (V = hasV h l) := by unfold Hid; rw [HP.out, decide_eq_false e1, e2, decide_eq_false e3]; rfl
  have e4 : (l == 0) = false := by simpa using e3
  clear e3
  go_wp2
  go_ret
  exact ⟨by rw [HV.out]; rfl, rfl⟩

def unlikeV (c : List Int) (l1 l2 l3 : List (Int × Int)) (x y : Int) : Bool := amongV c l1 x y || partsV (headsV c l2 l3) x y
set_option linter.unusedSimpArgs false in
set_option maxRecDepth 3000 in
set_option maxHeartbeats 2000000 in
theorem l3unlike_any (a0 a1 a2 a3 : Option Addr) (c0 c1 c2 c3 : Nat) (l0 l1 l2 l3 : List (Int × Int)) (b cp : Nat) (c : List Int) (x0 y0 : Nat) (hx0 : x0 < 16) (hy0 : y0 < 16) (hc : Cls c) (w : World) (n1 : l1.length ≤ 1048576) (n2 : l2.length ≤ 1048576) (n3 : l3.length ≤ 1048576) (hh : (headsV c l2 l3).length ≤ 1048576) (t1 : toks l1 = true) (t2 : toks l2 = true) (t3 : toks l3 = true) (r1 : PRow w a1 l1) (r2 : PRow w a2 l2) (r3 : PRow w a3 l3) (CO : OwnI w b 16 c 16) :
    Calls Try.prog 75 #[.agg #[.slice a0 l0.length c0, .slice a1 l1.length c1, .slice a2 l2.length c2, .slice a3 l3.length c3], .slice (some ⟨b, 0, none⟩) 16 cp, .int .i64 x0, .int .i64 y0] w fun e w' => e = .returned (.bool (unlikeV c l1 l2 l3 (c.getD x0 0) (c.getD y0 0))) ∧ Below w.heap.size w w' := by
  have CW := CO.alloc (.cells #[.slice a0 l0.length c0, .slice a1 l1.length c1, .slice a2 l2.length c2, .slice a3 l3.length c3] 28)
  have BW := Box.new w (.slice a0 l0.length c0) (.slice a1 l1.length c1) (.slice a2 l2.length c2) (.slice a3 l3.length c3) 28
  have LW : Below w.heap.size w (w.alloc (.cells #[.slice a0 l0.length c0, .slice a1 l1.length c1, .slice a2 l2.length c2, .slice a3 l3.length c3] 28)) := (Below.refl _ _).alloc (Nat.le_refl _) _
  have HC : Hid (Cls c) := hc
  have HH : Hid ((headsV c l2 l3).length ≤ 1048576) := hh
  have hxr := hc.2 x0 hx0
  have hyr := hc.2 y0 hy0
  clear hc CO hh
  have hxa : (x0 : Int) < 16 := by omega
  have hya : (y0 : Int) < 16 := by omega
  have hxb : (0 : Int) ≤ (x0 : Int) := by omega
  have hyb : (0 : Int) ≤ (y0 : Int) := by omega
  have ex := CW.2.2 x0 hx0
  have ey := CW.2.2 y0 hy0
  generalize c.getD x0 0 = x at *
  generalize c.getD y0 0 = y at *
  have HP := parts_spec (h := headsV c l2 l3) hxr.1 hyr.1
  replace HP : Hid _ := HP
  go_enter Try.func75, Try.ntmps75
  go_wp2_with fail
  generalize (w.alloc (.cells #[.slice a0 l0.length c0, .slice a1 l1.length c1, .slice a2 l2.length c2, .slice a3 l3.length c3] 28)) = W at *
  clear ex ey
  go_loopw [9] (fun i wr => ∃ m : Nat, m ≤ l1.length ∧ i = .int .i64 m ∧ Hid (∀ j, j < m → pairIs (c.getD (l1.getD j (0, 0)).1.toNat 0) (c.getD (l1.getD j (0, 0)).2.toNat 0) x y = false) ∧ OwnI wr b 16 c 16 ∧ Box wr w.heap.size (.slice a0 l0.length c0) (.slice a1 l1.length c1) (.slice a2 l2.length c2) (.slice a3 l3.length c3) ∧ Below w.heap.size w wr) (fun i _ => l1.length - (intOf i).toNat)
  case atStart => exact ⟨0, Nat.zero_le _, rfl, fun j hj => absurd hj (Nat.not_lt_zero _), CW, BW, LW⟩
  case round =>
    clear CW BW LW
    obtain ⟨m, hm, rfl, HM, C, B, L⟩ := hrel
    have e1 := B.c1
    by_cases hlty : m < l1.length
    · rcases r1 with hnil | ⟨b1, off1, rfl, hb1, hcl1⟩
      · rw [hnil] at hlty; simp at hlty
      have hyq0 : wr.cell? ⟨b1, off1 + m * 2, none⟩ = some (.int .i64 (l1.getD m (0, 0)).1) := by rw [L.cell (p := ⟨b1, _, none⟩) hb1]; exact (hcl1 m hlty).1
      have hyq1 : wr.cell? ⟨b1, off1 + m * 2 + 1, none⟩ = some (.int .i64 (l1.getD m (0, 0)).2) := by rw [L.cell (p := ⟨b1, _, none⟩) hb1]; exact (hcl1 m hlty).2
      have hmn : (m : Int) < (l1.length : Int) := by omega
      have hm0 : (0 : Int) ≤ (m : Int) := by omega
      have htm := toks_get t1 hlty
      have HHIT : Hid (pairIs (c.getD (l1.getD m (0, 0)).1.toNat 0) (c.getD (l1.getD m (0, 0)).2.toNat 0) x y = true → amongV c l1 x y = true) := fun h => among_hit hlty h
      have HM2 : Hid (pairIs (c.getD (l1.getD m (0, 0)).1.toNat 0) (c.getD (l1.getD m (0, 0)).2.toNat 0) x y = false → ∀ j, j < m + 1 → pairIs (c.getD (l1.getD j (0, 0)).1.toNat 0) (c.getD (l1.getD j (0, 0)).2.toNat 0) x y = false) := by
        intro hf j hj
        by_cases e : j = m
        · subst e; exact hf
        · exact HM.out j (by omega)
      generalize l1.getD m (0, 0) = pp at *
      clear hcl1
      obtain ⟨⟨q1, q2⟩, q3, q4⟩ := htm
      obtain ⟨s, t, rfl, hs, hts⟩ : ∃ s t : Nat, pp = ((s : Int), (t : Int)) ∧ s < 16 ∧ t < 16 := ⟨pp.1.toNat, pp.2.toNat, by rw [Int.toNat_of_nonneg q1, Int.toNat_of_nonneg q3], by omega, by omega⟩
      clear q1 q2 q3 q4
      dsimp only at hyq0 hyq1
      simp only [Int.toNat_natCast] at HHIT HM2
      have hsa : (s : Int) < 16 := by omega
      have hta : (t : Int) < 16 := by omega
      have hsb : (0 : Int) ≤ (s : Int) := by omega
      have htb : (0 : Int) ≤ (t : Int) := by omega
      have ep := C.2.2 s hs
      have eq := C.2.2 t hts
      generalize c.getD s 0 = p at *
      generalize c.getD t 0 = q at *
      go_wp2_with fail
      have hS0 : Below w.heap.size w wr.drew ∧ wr.drew.cell? ⟨w.heap.size, 1, none⟩ = some (.slice (some ⟨b1, off1, none⟩) l1.length c1) ∧ wr.drew.cell? ⟨b1, off1 + m * 2, none⟩ = some (.int .i64 s) ∧ wr.drew.cell? ⟨b1, off1 + m * 2 + 1, none⟩ = some (.int .i64 t) ∧ wr.drew.cell? ⟨b, s, none⟩ = some (.int .i64 p) ∧ wr.drew.cell? ⟨b, t, none⟩ = some (.int .i64 q) := ⟨L.drew, e1, hyq0, hyq1, ep, eq⟩
      have C2 := C.drew; have B2 := B.drew
      go_region_held3 (fun w' => Below w.heap.size w w' ∧ w'.cell? ⟨w.heap.size, 1, none⟩ = some (.slice (some ⟨b1, off1, none⟩) l1.length c1) ∧ w'.cell? ⟨b1, off1 + m * 2, none⟩ = some (.int .i64 s) ∧ w'.cell? ⟨b1, off1 + m * 2 + 1, none⟩ = some (.int .i64 t) ∧ w'.cell? ⟨b, s, none⟩ = some (.int .i64 p) ∧ w'.cell? ⟨b, t, none⟩ = some (.int .i64 q))
        (first | exact hS0 | assumption | (refine ⟨?_, ?_, ?_, ?_, ?_, ?_⟩ <;> assumption))
        (fail)
      replace L := hS0.1
      clear hS0 C B e1 ep eq hyq0 hyq1
      generalize wr.drew = wd at *
      have HT : Hid (p = x ∧ q = y ∨ p = y ∧ q = x → unlikeV c l1 l2 l3 x y = true) := fun e => by unfold unlikeV; rw [HHIT.out (decide_eq_true e)]; rfl
      have HU : Hid (¬ (p = x ∧ q = y ∨ p = y ∧ q = x) → ∀ j, j < m + 1 → pairIs (c.getD (l1.getD j (0, 0)).1.toNat 0) (c.getD (l1.getD j (0, 0)).2.toNat 0) x y = false) := fun e => HM2.out (decide_eq_false e)
      clear HHIT HM2
      cases hb1 : (p == x) <;> cases hb2 : (q == y) <;> cases hb3 : (p == y) <;> cases hb4 : (q == x)
      all_goals
        first
          | (exfalso; simp only [beq_iff_eq, beq_eq_false_iff_ne, ne_eq] at hb1 hb2 hb3 hb4; omega)
          | (have HV : Hid (unlikeV c l1 l2 l3 x y = true) := HT.out (by simp only [beq_iff_eq, beq_eq_false_iff_ne, ne_eq] at hb1 hb2 hb3 hb4; omega)
             go_wp2
             go_ret
             exact ⟨by rw [HV.out]; rfl, L⟩)
          | (have HU2 : Hid (∀ j, j < m + 1 → pairIs (c.getD (l1.getD j (0, 0)).1.toNat 0) (c.getD (l1.getD j (0, 0)).2.toNat 0) x y = false) := HU.out (by simp only [beq_iff_eq, beq_eq_false_iff_ne, ne_eq] at hb1 hb2 hb3 hb4; omega)
             go_wp2
             go_roundw
             case rel => exact ⟨m + 1, by omega, by go_num, HU2, C2, B2, L⟩
             case measure => simp [intOf]; omega)
    · have HA : Hid (unlikeV c l1 l2 l3 x y = partsV (headsV c l2 l3) x y) := by
        unfold Hid unlikeV
        rw [among_none (fun j hj => HM.out j (by omega))]
        rfl
      have hge : ¬ ((m : Int) < (l1.length : Int)) := by omega
      have e0 := B.c0; have e2 := B.c2; have e3 := B.c3
      go_wp2_with fail
      refine (l3heads_any _ _ _ _ _ _ _ _ _ _ _ _ b cp c HC.out.1 _ n2 n3 t2 t3 (by exact r2.below L (Nat.le_refl _)) (by exact r3.below L (Nat.le_refl _)) (by exact C)).mono ?_
      rintro e w3 ⟨ag, cg, rfl, G, hb⟩
      have L3 := L.trans (hb.mono L.size)
      clear hb B C e0 e1 e2 e3
      replace HP : Hid ((!(decide (x = y)) && (hasV (headsV c l2 l3) x || decide (x = 0)) && (hasV (headsV c l2 l3) y || decide (y = 0)) && (hasV (headsV c l2 l3) x || hasV (headsV c l2 l3) y)) = partsV (headsV c l2 l3) x y) := HP
      generalize partsV (headsV c l2 l3) x y = PV at *
      have hn := HH.out
      generalize headsV c l2 l3 = hs at *
      generalize hn2 : hs.length = n at *
      clear hn2
      by_cases e : x = y
      · have HV : Hid (unlikeV c l1 l2 l3 x y = false) := by unfold Hid; rw [HA.out, ← HP.out, decide_eq_true e]; rfl
        go_wp2
        go_ret
        exact ⟨by rw [HV.out]; rfl, L3⟩
      have HE0 : Hid (decide (x = y) = false) := decide_eq_false e
      have hne : (x != y) = true := by simpa using e
      replace e : Hid (¬ x = y) := e
      have Dx : Hid (decide (x = 0) = (x == 0)) := by unfold Hid; rw [Bool.eq_iff_iff, beq_iff_eq, decide_eq_true_iff]
      have Dy : Hid (decide (y = 0) = (y == 0)) := by unfold Hid; rw [Bool.eq_iff_iff, beq_iff_eq, decide_eq_true_iff]
      go_wp2_with fail
      refine (l3has_any _ _ n cg ag hs x _ hn (by exact G)).mono ?_
      rintro e wz ⟨rfl, rfl⟩
      cases hX : hasV hs x
      · cases hz : (x == 0)
        · have HV : Hid (unlikeV c l1 l2 l3 x y = false) := by unfold Hid; rw [HA.out, ← HP.out, HE0.out, hX, Dx.out, hz]; rfl
          go_wp2
          go_ret
          exact ⟨by rw [HV.out]; rfl, L3⟩
        · go_wp2_with fail
          refine (l3has_any _ _ n cg ag hs y _ hn (by exact G)).mono ?_
          rintro e wz ⟨rfl, rfl⟩
          cases hY : hasV hs y
          · cases hy : (y == 0)
            · have HV : Hid (unlikeV c l1 l2 l3 x y = false) := by unfold Hid; rw [HA.out, ← HP.out, HE0.out, hX, Dx.out, hz, hY, Dy.out, hy]; rfl
              go_wp2
              go_ret
              exact ⟨by rw [HV.out]; rfl, L3⟩
            · exfalso
              rw [beq_iff_eq] at hz hy
              exact e.out (by omega)
          · go_wp2_with fail
            refine (l3has_any _ _ n cg ag hs x _ hn (by exact G)).mono ?_
            rintro e wz ⟨rfl, rfl⟩
            rw [hX]
            go_wp2_with fail
            refine (l3has_any _ _ n cg ag hs y _ hn (by exact G)).mono ?_
            rintro e wz ⟨rfl, rfl⟩
            rw [hY]
            have HV : Hid (unlikeV c l1 l2 l3 x y = true) := by unfold Hid; rw [HA.out, ← HP.out, HE0.out, hX, Dx.out, hz, hY]; rfl
            go_wp2
            go_ret
            exact ⟨by rw [HV.out]; rfl, L3⟩
      · go_wp2_with fail
        refine (l3has_any _ _ n cg ag hs y _ hn (by exact G)).mono ?_
        rintro e wz ⟨rfl, rfl⟩
        cases hY : hasV hs y
        · cases hy : (y == 0)
          · have HV : Hid (unlikeV c l1 l2 l3 x y = false) := by unfold Hid; rw [HA.out, ← HP.out, HE0.out, hX, hY, Dy.out, hy]; rfl
            go_wp2
            go_ret
            exact ⟨by rw [HV.out]; rfl, L3⟩
          · go_wp2_with fail
            refine (l3has_any _ _ n cg ag hs x _ hn (by exact G)).mono ?_
            rintro e wz ⟨rfl, rfl⟩
            rw [hX]
            have HV : Hid (unlikeV c l1 l2 l3 x y = true) := by unfold Hid; rw [HA.out, ← HP.out, HE0.out, hX, hY, Dy.out, hy]; rfl
            go_wp2
            go_ret
            exact ⟨by rw [HV.out]; rfl, L3⟩
        · go_wp2_with fail
          refine (l3has_any _ _ n cg ag hs x _ hn (by exact G)).mono ?_
          rintro e wz ⟨rfl, rfl⟩
          rw [hX]
          have HV : Hid (unlikeV c l1 l2 l3 x y = true) := by unfold Hid; rw [HA.out, ← HP.out, HE0.out, hX, hY]; rfl
          go_wp2
          go_ret
          exact ⟨by rw [HV.out]; rfl, L3⟩

end Go.Proofs.Ytiolgbckichneaa
