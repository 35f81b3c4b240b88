/-
  The contract of spec.l7expose.
-/
import Derived.Test.YtldhbooginlcpaaXc
import Derived.Test.YtldhbooginlcpaaUu
namespace Go.Proofs.Ytldhbooginlcpaa
open Go.RowKit
set_option linter.unusedVariables false

/-- What spec.l7expose answers: the assertion itself with the place of a cell; nothing there; unfolded; no room. -/
def ExP (w w' : World) (e : Ending) (b0 b1 b2 b3 c0 c1 c2 c3 : Nat) (l0 l1 l2 l3 : List (Int × Int)) (t : Nat) : Prop :=
  (0 ≤ idxV (headsOf (clsV l0) l2) ((clsV l0).getD t 0) ∧ e = .returned (.tuple #[.agg #[.slice (some ⟨b0, 0, none⟩) l0.length c0, .slice (some ⟨b1, 0, none⟩) l1.length c1, .slice (some ⟨b2, 0, none⟩) l2.length c2, .slice (some ⟨b3, 0, none⟩) l3.length c3], .int .i64 (idxV (headsOf (clsV l0) l2) ((clsV l0).getD t 0)), .int .i64 0])) ∨
  (idxV (headsOf (clsV l0) l2) ((clsV l0).getD t 0) < 0 ∧ idxV (headsOf (clsV l0) l3) ((clsV l0).getD t 0) < 0 ∧ e = .returned (.tuple #[.agg #[.slice (some ⟨b0, 0, none⟩) l0.length c0, .slice (some ⟨b1, 0, none⟩) l1.length c1, .slice (some ⟨b2, 0, none⟩) l2.length c2, .slice (some ⟨b3, 0, none⟩) l3.length c3], .int .i64 (-1), .int .i64 1])) ∨
  (idxV (headsOf (clsV l0) l2) ((clsV l0).getD t 0) < 0 ∧ ∃ k : Nat, k < l3.length ∧ idxV (headsOf (clsV l0) l3) ((clsV l0).getD t 0) = (k : Int) ∧ (0 ≤ freshF (usedV l0 l1 l2 l3) ∧ l2.length + l3.length < 6) ∧ ∃ p0 p1 p2 p3 q0 q1 q2 q3, e = .returned (.tuple #[.agg #[.slice p0 l0.length q0, .slice p1 l1.length q1, .slice p2 (l2.length + 1) q2, .slice p3 (k + (l3.length - (k + 1)) + 1) q3], .int .i64 (l2.length : Int), .int .i64 0]) ∧ Seen w' w.heap.size w'.heap.size p0 p1 p2 p3 l0.length l1.length (l2.length + 1) (k + (l3.length - (k + 1)) + 1) l0 l1 (unfC l2 (l3.getD k (0, 0)) (freshF (usedV l0 l1 l2 l3))) (unfS l3 k (l3.getD k (0, 0)) (freshF (usedV l0 l1 l2 l3))) ∧ (p0 ≠ none ∧ p1 ≠ none ∧ p2 ≠ none ∧ p3 ≠ none)) ∨
  (idxV (headsOf (clsV l0) l2) ((clsV l0).getD t 0) < 0 ∧ ∃ k : Nat, k < l3.length ∧ idxV (headsOf (clsV l0) l3) ((clsV l0).getD t 0) = (k : Int) ∧ ¬ (0 ≤ freshF (usedV l0 l1 l2 l3) ∧ l2.length + l3.length < 6) ∧ e = .returned (.tuple #[.agg #[.slice (some ⟨b0, 0, none⟩) l0.length c0, .slice (some ⟨b1, 0, none⟩) l1.length c1, .slice (some ⟨b2, 0, none⟩) l2.length c2, .slice (some ⟨b3, 0, none⟩) l3.length c3], .int .i64 (-1), .int .i64 2]))

theorem xe_store {W : World} {Z R : Nat} {v0 v1 v2 v3 : Value} (hz : Z ≠ R) (y0 y1 y2 y3 : Value) (h : W.cell? ⟨Z, 0, none⟩ = some v0 ∧ W.cell? ⟨Z, 1, none⟩ = some v1 ∧ W.cell? ⟨Z, 2, none⟩ = some v2 ∧ W.cell? ⟨Z, 3, none⟩ = some v3) :
    ((((W.setCell ⟨R, 0, none⟩ y0).setCell ⟨R, 1, none⟩ y1).setCell ⟨R, 2, none⟩ y2).setCell ⟨R, 3, none⟩ y3).cell? ⟨Z, 0, none⟩ = some v0 ∧ ((((W.setCell ⟨R, 0, none⟩ y0).setCell ⟨R, 1, none⟩ y1).setCell ⟨R, 2, none⟩ y2).setCell ⟨R, 3, none⟩ y3).cell? ⟨Z, 1, none⟩ = some v1 ∧ ((((W.setCell ⟨R, 0, none⟩ y0).setCell ⟨R, 1, none⟩ y1).setCell ⟨R, 2, none⟩ y2).setCell ⟨R, 3, none⟩ y3).cell? ⟨Z, 2, none⟩ = some v2 ∧ ((((W.setCell ⟨R, 0, none⟩ y0).setCell ⟨R, 1, none⟩ y1).setCell ⟨R, 2, none⟩ y2).setCell ⟨R, 3, none⟩ y3).cell? ⟨Z, 3, none⟩ = some v3 := by
  have key : ∀ (V : World) (i o : Nat) (u : Value), (V.setCell ⟨R, i, none⟩ u).cell? ⟨Z, o, none⟩ = V.cell? ⟨Z, o, none⟩ := fun V i o u => World.cell?_setCell_other _ _ _ _ (by intro e; injection e with e1; omega)
  simp only [key]
  exact h

set_option maxRecDepth 20000 in
set_option maxHeartbeats 4000000 in
theorem l7expose_any (b0 b1 b2 b3 c0 c1 c2 c3 : Nat) (l0 l1 l2 l3 : List (Int × Int)) (t : Nat) (ht : t < 16) (w : World) (n0 : l0.length ≤ 1048576) (n1 : l1.length ≤ 1048576) (n2 : l2.length ≤ 1048576) (n3 : l3.length ≤ 1048576) (o0 : Own w b0 l0.length l0 l0.length) (o1 : Own w b1 l1.length l1 l1.length) (o2 : Own w b2 l2.length l2 l2.length) (o3 : Own w b3 l3.length l3 l3.length) (z3 : l3.length ≤ c3) (hok : asnB l0 l1 l2 l3 = true) :
    Calls Try.prog 174 #[.agg #[.slice (some ⟨b0, 0, none⟩) l0.length c0, .slice (some ⟨b1, 0, none⟩) l1.length c1, .slice (some ⟨b2, 0, none⟩) l2.length c2, .slice (some ⟨b3, 0, none⟩) l3.length c3], .int .i64 t] w fun e w' => ExP w w' e b0 b1 b2 b3 c0 c1 c2 c3 l0 l1 l2 l3 t ∧ Below w.heap.size w w' := by
  obtain ⟨t0, t1, t2, t3⟩ := asnB_toks hok
  have A0 := (Box.new w (.slice (some ⟨b0, 0, none⟩) l0.length c0) (.slice (some ⟨b1, 0, none⟩) l1.length c1) (.slice (some ⟨b2, 0, none⟩) l2.length c2) (.slice (some ⟨b3, 0, none⟩) l3.length c3) 28).alloc (.cells #[.slice none 0 0, .slice none 0 0, .slice none 0 0, .slice none 0 0] 28)
  have R0 := Box.new (w.alloc (.cells #[.slice (some ⟨b0, 0, none⟩) l0.length c0, .slice (some ⟨b1, 0, none⟩) l1.length c1, .slice (some ⟨b2, 0, none⟩) l2.length c2, .slice (some ⟨b3, 0, none⟩) l3.length c3] 28)) (.slice none 0 0) (.slice none 0 0) (.slice none 0 0) (.slice none 0 0) 28
  have L0 : Below w.heap.size w ((w.alloc (.cells #[.slice (some ⟨b0, 0, none⟩) l0.length c0, .slice (some ⟨b1, 0, none⟩) l1.length c1, .slice (some ⟨b2, 0, none⟩) l2.length c2, .slice (some ⟨b3, 0, none⟩) l3.length c3] 28)).alloc (.cells #[.slice none 0 0, .slice none 0 0, .slice none 0 0, .slice none 0 0] 28)) := ((Below.refl _ _).alloc (Nat.le_refl _) _).alloc (by simp) _
  rw [World.size_alloc] at R0
  replace o0 := o0.below (L0) o0.1; replace o1 := o1.below (L0) o1.1; replace o2 := o2.below (L0) o2.1; replace o3 := o3.below (L0) o3.1
  go_enter Try.func174, Try.ntmps174
  have A0c0 := A0.c0; have A0c1 := A0.c1; have A0c2 := A0.c2; have A0c3 := A0.c3
  go_wp2_with fail
  clear A0c0 A0c1 A0c2 A0c3
  refine (l7cell_any _ _ _ _ _ _ _ _ l0 l1 l2 l3 t ht _ n0 n2 t0 t2 o0.row o2.row).mono ?_
  rintro e w1 ⟨rfl, hb⟩
  replace A0 := A0.below hb A0.lt; replace R0 := R0.below hb R0.lt; replace L0 := L0.trans (hb.mono L0.size)
  replace o0 := o0.below (hb) o0.1; replace o1 := o1.below (hb) o1.1; replace o2 := o2.below (hb) o2.1; replace o3 := o3.below (hb) o3.1
  clear hb
  obtain ⟨ci, hci⟩ : ∃ ci, Hid (idxV (headsOf (clsV l0) l2) ((clsV l0).getD t 0) = ci) := ⟨_, rfl⟩
  rw [hci.out]
  by_cases hc0 : 0 ≤ ci
  · have hge : ¬ ci < 0 := by omega
    obtain ⟨F, FO⟩ := R0.fill (.slice (some ⟨b0, 0, none⟩) l0.length c0) (.slice (some ⟨b1, 0, none⟩) l1.length c1) (.slice (some ⟨b2, 0, none⟩) l2.length c2) (.slice (some ⟨b3, 0, none⟩) l3.length c3)
    have j0' := R0.c0; have j1' := R0.c1; have j2' := R0.c2; have j3' := R0.c3
    have g0 := R0.f0; have g1 := R0.f1; have g2 := R0.f2; have g3 := R0.f3
    have A0c0 := A0.c0; have A0c1 := A0.c1; have A0c2 := A0.c2; have A0c3 := A0.c3
    go_wp2
    have i0 := F.c0; have i1 := F.c1; have i2 := F.c2; have i3 := F.c3
    refine bodyPost_ret (v := .tuple #[.agg #[.slice (some ⟨b0, 0, none⟩) l0.length c0, .slice (some ⟨b1, 0, none⟩) l1.length c1, .slice (some ⟨b2, 0, none⟩) l2.length c2, .slice (some ⟨b3, 0, none⟩) l3.length c3], .int .i64 ci, .int .i64 0]) ?_ rfl ⟨.inl ⟨by rw [hci.out]; exact hc0, by rw [hci.out]⟩, L0.trans (FO.below (by omega) L0.size)⟩
    simp [results, Try.results174, go_sem, i0, i1, i2, i3]
  have hcn : ci < 0 := by omega
  have HCN : Hid (idxV (headsOf (clsV l0) l2) ((clsV l0).getD t 0) < 0) := by show idxV _ _ < 0; rw [hci.out]; exact hcn
  have A0c0 := A0.c0; have A0c1 := A0.c1; have A0c2 := A0.c2; have A0c3 := A0.c3
  go_wp2_with fail
  clear A0c0 A0c1 A0c2 A0c3 hcn hc0
  refine (l3classes_any _ _ _ _ _ _ _ _ l0 l1 l2 l3 _ n0 t0 o0.row).mono ?_
  rintro e w2 ⟨bR, cR, rfl, hzR, CO, hb⟩
  replace A0 := A0.below hb A0.lt; replace R0 := R0.below hb R0.lt; replace L0 := L0.trans (hb.mono L0.size)
  replace o0 := o0.below (hb) o0.1; replace o1 := o1.below (hb) o1.1; replace o2 := o2.below (hb) o2.1; replace o3 := o3.below (hb) o3.1
  clear hb
  have HLEN : Hid ((headsOf (clsV l0) l3).length = l3.length) := headsOf_length _ l3
  have HEX : Hid (clsV l0 = clsV l0) := rfl
  obtain ⟨c, HCE⟩ : ∃ c, Hid (clsV l0 = c) := ⟨_, rfl⟩
  rw [HCE.out] at CO HLEN
  obtain ⟨v, hv⟩ : ∃ v, Hid (c.getD t 0 = v) := ⟨_, rfl⟩
  have zW : w.heap.size + 1 < w2.heap.size := R0.lt
  go_wp2
  go_loopw [9] (fun i wr => ∃ k : Nat, k ≤ l3.length ∧ i = .int .i64 k ∧ Hid (∀ j, j < k → ¬ (headsOf c l3).getD j 0 = v) ∧ Below w2.heap.size w2 wr) (fun i _ => l3.length - (intOf i).toNat)
  case atStart => exact ⟨0, Nat.zero_le _, rfl, fun j hj => absurd hj (Nat.not_lt_zero _), Below.refl _ _⟩
  case round =>
    obtain ⟨k, hk, rfl, HM, hbw⟩ := hrel
    replace CO := CO.below hbw CO.1
    replace A0 := A0.below hbw A0.lt; replace R0 := R0.below hbw R0.lt; replace L0 := L0.trans (hbw.mono L0.size)
    replace o0 := o0.below (hbw) o0.1; replace o1 := o1.below (hbw) o1.1; replace o2 := o2.below (hbw) o2.1; replace o3 := o3.below (hbw) o3.1
    have e3 := A0.c3
    by_cases hltx : k < l3.length
    · have hq0 := (o3.2.2 k hltx).1
      have hkn : (k : Int) < (l3.length : Int) := by omega
      have hk0' : (0 : Int) ≤ (k : Int) := by omega
      have htk := (toks_get t3 hltx).1
      have HAT : Hid ((headsOf c l3).getD k 0 = c.getD (l3.getD k (0, 0)).1.toNat 0) := headsOf_at c hltx
      obtain ⟨q1, q2⟩ := htk
      obtain ⟨x, hx0, hx⟩ : ∃ x : Nat, (l3.getD k (0, 0)).1 = (x : Int) ∧ x < 16 := ⟨(l3.getD k (0, 0)).1.toNat, by omega, by omega⟩
      rw [hx0] at hq0 HAT
      rw [Int.toNat_natCast] at HAT
      clear q1 q2 hx0
      have hxi : (x : Int) < 16 := by omega
      have hxz : (0 : Int) ≤ (x : Int) := by omega
      have hti : (t : Int) < 16 := by omega
      have htz : (0 : Int) ≤ (t : Int) := by omega
      have ex := CO.2.2 x hx
      have et := CO.2.2 t ht
      rw [hv.out] at et
      generalize c.getD x 0 = u at *
      have hlw := L0
      go_upto_region 8 with fail
      have hS0 : Below wr.heap.size wr wr.drew ∧ wr.drew.cell? ⟨w.heap.size, 3, none⟩ = some (.slice (some ⟨b3, 0, none⟩) l3.length c3) ∧ wr.drew.cell? ⟨b3, k * 2, none⟩ = some (.int .i64 x) ∧ wr.drew.cell? ⟨bR, x, none⟩ = some (.int .i64 u) ∧ wr.drew.cell? ⟨bR, t, none⟩ = some (.int .i64 v) := ⟨(Below.refl _ _).drew, e3, hq0, ex, et⟩
      go_region_held3 (fun w' => Below wr.heap.size wr w' ∧ w'.cell? ⟨w.heap.size, 3, none⟩ = some (.slice (some ⟨b3, 0, none⟩) l3.length c3) ∧ w'.cell? ⟨b3, k * 2, none⟩ = some (.int .i64 x) ∧ w'.cell? ⟨bR, x, none⟩ = some (.int .i64 u) ∧ w'.cell? ⟨bR, t, none⟩ = some (.int .i64 v))
        (first | exact hS0 | assumption | (refine ⟨?_, ?_, ?_, ?_, ?_⟩ <;> assumption))
        (fail)
      have hb := hS0.1
      replace A0 := A0.below hb A0.lt; replace R0 := R0.below hb R0.lt; replace L0 := L0.trans (hb.mono L0.size)
      replace o0 := o0.below (hb) o0.1; replace o1 := o1.below (hb) o1.1; replace o2 := o2.below (hb) o2.1; replace o3 := o3.below (hb) o3.1
      have hbw2 := hbw.trans (hb.mono hbw.size)
      clear hS0 e3 hq0 ex et hb hbw hlw CO
      generalize wr.drew = wd at *
      by_cases huv : u = v
      · have HR : Hid (idxV (headsOf (clsV l0) l3) ((clsV l0).getD t 0) = (k : Int)) := by
          show idxV _ _ = _
          rw [HCE.out, hv.out]
          exact (idx_hit (by rw [HLEN.out]; exact hltx) HM.out (HAT.out.trans huv)).1
        subst huv
        clear HM HAT HLEN
        have A0c0 := A0.c0; have A0c1 := A0.c1; have A0c2 := A0.c2; have A0c3 := A0.c3
        by_cases hy : 0 ≤ freshF (usedV l0 l1 l2 l3) ∧ l2.length + l3.length < 6
        · have HY' : Hid (0 ≤ freshF (usedV l0 l1 l2 l3) ∧ l2.length + l3.length < 6) := hy
          go_wp2_with fail
          clear A0c0 A0c1 A0c2 A0c3
          refine (l4unfold_ne b0 b1 b2 b3 c0 c1 c2 c3 l0 l1 l2 l3 k _ n0 n1 n2 n3 o0 o1 o2 o3 z3 hok hltx hy.1 hy.2).mono ?_
          rintro e w6 ⟨p0, p1, p2, p3, q0, q1, q2, q3, rfl, T, ne, hb⟩
          have al : Below w6.heap.size w6 (w6.alloc (.cells #[.slice p0 l0.length q0, .slice p1 l1.length q1, .slice p2 (l2.length + 1) q2, .slice p3 (k + (l3.length - (k + 1)) + 1) q3] 28)) := (Below.refl _ _).alloc (Nat.le_refl _) _
          have BX := Box.new w6 (.slice p0 l0.length q0) (.slice p1 l1.length q1) (.slice p2 (l2.length + 1) q2) (.slice p3 (k + (l3.length - (k + 1)) + 1) q3) 28
          have zr := R0.lt
          replace R0 := (R0.below hb R0.lt).below al (Nat.lt_of_lt_of_le R0.lt hb.size); replace L0 := (L0.trans (hb.mono L0.size)).trans (al.mono (Nat.le_trans L0.size hb.size))
          replace T := T.below al (Nat.le_refl _)
          have s6 := hb.size
          have s7 := al.size
          have T2 := T.mono (show w.heap.size + 2 ≤ wd.heap.size by omega) (Nat.le_refl _)
          have zZ : w.heap.size + 1 < w6.heap.size := by omega
          clear hb al A0 T o0 o1 o2 o3
          go_upto_region 10 with fail
          generalize w6.alloc (.cells #[.slice p0 l0.length q0, .slice p1 l1.length q1, .slice p2 (l2.length + 1) q2, .slice p3 (k + (l3.length - (k + 1)) + 1) q3] 28) = w7 at *
          generalize hZ : w6.heap.size = Z at *
          clear hZ
          go_upto_region 12 with fail
          have hS0 : w7.drew.cell? ⟨Z, 0, none⟩ = some (.slice p0 l0.length q0) ∧ w7.drew.cell? ⟨Z, 1, none⟩ = some (.slice p1 l1.length q1) ∧ w7.drew.cell? ⟨Z, 2, none⟩ = some (.slice p2 (l2.length + 1) q2) ∧ w7.drew.cell? ⟨Z, 3, none⟩ = some (.slice p3 (k + (l3.length - (k + 1)) + 1) q3) := ⟨BX.c0, BX.c1, BX.c2, BX.c3⟩
          have hzn : Z ≠ w.heap.size + 1 := by omega
          have hS2 : ((((w7.setCell ⟨w.heap.size + 1, 0, none⟩ (.slice p0 l0.length q0)).setCell ⟨w.heap.size + 1, 1, none⟩ (.slice p1 l1.length q1)).setCell ⟨w.heap.size + 1, 2, none⟩ (.slice p2 (l2.length + 1) q2)).setCell ⟨w.heap.size + 1, 3, none⟩ (.slice p3 (k + (l3.length - (k + 1)) + 1) q3)).drew.cell? ⟨Z, 0, none⟩ = some (.slice p0 l0.length q0) ∧ ((((w7.setCell ⟨w.heap.size + 1, 0, none⟩ (.slice p0 l0.length q0)).setCell ⟨w.heap.size + 1, 1, none⟩ (.slice p1 l1.length q1)).setCell ⟨w.heap.size + 1, 2, none⟩ (.slice p2 (l2.length + 1) q2)).setCell ⟨w.heap.size + 1, 3, none⟩ (.slice p3 (k + (l3.length - (k + 1)) + 1) q3)).drew.cell? ⟨Z, 1, none⟩ = some (.slice p1 l1.length q1) ∧ ((((w7.setCell ⟨w.heap.size + 1, 0, none⟩ (.slice p0 l0.length q0)).setCell ⟨w.heap.size + 1, 1, none⟩ (.slice p1 l1.length q1)).setCell ⟨w.heap.size + 1, 2, none⟩ (.slice p2 (l2.length + 1) q2)).setCell ⟨w.heap.size + 1, 3, none⟩ (.slice p3 (k + (l3.length - (k + 1)) + 1) q3)).drew.cell? ⟨Z, 2, none⟩ = some (.slice p2 (l2.length + 1) q2) ∧ ((((w7.setCell ⟨w.heap.size + 1, 0, none⟩ (.slice p0 l0.length q0)).setCell ⟨w.heap.size + 1, 1, none⟩ (.slice p1 l1.length q1)).setCell ⟨w.heap.size + 1, 2, none⟩ (.slice p2 (l2.length + 1) q2)).setCell ⟨w.heap.size + 1, 3, none⟩ (.slice p3 (k + (l3.length - (k + 1)) + 1) q3)).drew.cell? ⟨Z, 3, none⟩ = some (.slice p3 (k + (l3.length - (k + 1)) + 1) q3) := xe_store hzn _ _ _ _ ⟨BX.c0, BX.c1, BX.c2, BX.c3⟩
          clear BX
          obtain ⟨F, FO⟩ := R0.fill (.slice p0 l0.length q0) (.slice p1 l1.length q1) (.slice p2 (l2.length + 1) q2) (.slice p3 (k + (l3.length - (k + 1)) + 1) q3)
          have m0 := R0.c0; have m1 := R0.c1; have m2 := R0.c2; have m3 := R0.c3
          have h0 := R0.f0; have h1 := R0.f1; have h2 := R0.f2; have h3 := R0.f3
          have hwr : IntKind.i64.wrap (((l2.length + 1 : Nat) : Int) - 1) = (l2.length : Int) := by rw [IntKind.wrap_i64]; omega
          go_region_held3 (fun W => W.cell? ⟨Z, 0, none⟩ = some (.slice p0 l0.length q0) ∧ W.cell? ⟨Z, 1, none⟩ = some (.slice p1 l1.length q1) ∧ W.cell? ⟨Z, 2, none⟩ = some (.slice p2 (l2.length + 1) q2) ∧ W.cell? ⟨Z, 3, none⟩ = some (.slice p3 (k + (l3.length - (k + 1)) + 1) q3))
            (first | with_reducible exact hS0 | with_reducible exact hS2 | with_reducible assumption)
            (fail)
          all_goals
            go_wp2
            have F2 := F.drew
            have hfs := FO.size
            have T3 := (T2.out FO (.inr (Nat.le_refl _))).below ((Below.refl _ _).drew) (Nat.le_trans s7 hfs)
            have L3 := (L0.trans (FO.below (by omega) L0.size)).drew
            have i0 := F2.c0; have i1 := F2.c1; have i2 := F2.c2; have i3 := F2.c3
            have hw2 : IntKind.i64.wrap (l2.length : Int) = (l2.length : Int) := by rw [IntKind.wrap_i64]; omega
            refine bodyPost_ret (v := .tuple #[.agg #[.slice p0 l0.length q0, .slice p1 l1.length q1, .slice p2 (l2.length + 1) q2, .slice p3 (k + (l3.length - (k + 1)) + 1) q3], .int .i64 (l2.length : Int), .int .i64 0]) ?_ rfl ⟨.inr (.inr (.inl ⟨HCN.out, k, hltx, HR.out, HY'.out, p0, p1, p2, p3, q0, q1, q2, q3, rfl, ?_, ne⟩)), ?_⟩
            · simp [results, Try.results174, go_sem, i0, i1, i2, i3, hw2]
            · exact T3.mono (by omega) (Nat.le_trans s7 hfs)
            · exact L3
        · have HY' : Hid (¬ (0 ≤ freshF (usedV l0 l1 l2 l3) ∧ l2.length + l3.length < 6)) := hy
          have hno : freshF (usedV l0 l1 l2 l3) < 0 ∨ 6 ≤ l2.length + l3.length := by omega
          go_wp2_with fail
          clear A0c0 A0c1 A0c2 A0c3
          refine (l4unfold_no b0 b1 b2 b3 c0 c1 c2 c3 l0 l1 l2 l3 k _ n0 n1 n2 n3 o0 o1 o2 o3 hok hno).mono ?_
          rintro e w6 ⟨rfl, hb⟩
          have al : Below w6.heap.size w6 (w6.alloc (.cells #[.slice (some ⟨b0, 0, none⟩) l0.length c0, .slice (some ⟨b1, 0, none⟩) l1.length c1, .slice (some ⟨b2, 0, none⟩) l2.length c2, .slice (some ⟨b3, 0, none⟩) l3.length c3] 28)) := (Below.refl _ _).alloc (Nat.le_refl _) _
          have zz : w.heap.size + 1 < w6.heap.size := Nat.lt_of_lt_of_le R0.lt hb.size
          have za : w.heap.size < w6.heap.size := Nat.lt_of_lt_of_le A0.lt hb.size
          replace R0 := (R0.below hb R0.lt).below al zz; replace A0 := (A0.below hb A0.lt).below al za; replace L0 := (L0.trans (hb.mono L0.size)).trans (al.mono (Nat.le_trans L0.size hb.size))
          clear hb al hno hy o0 o1 o2 o3
          go_upto_region 10 with fail
          generalize w6.alloc (.cells #[.slice (some ⟨b0, 0, none⟩) l0.length c0, .slice (some ⟨b1, 0, none⟩) l1.length c1, .slice (some ⟨b2, 0, none⟩) l2.length c2, .slice (some ⟨b3, 0, none⟩) l3.length c3] 28) = w7 at *
          obtain ⟨F, FO⟩ := R0.fill (.slice (some ⟨b0, 0, none⟩) l0.length c0) (.slice (some ⟨b1, 0, none⟩) l1.length c1) (.slice (some ⟨b2, 0, none⟩) l2.length c2) (.slice (some ⟨b3, 0, none⟩) l3.length c3)
          have j0' := R0.c0; have j1' := R0.c1; have j2' := R0.c2; have j3' := R0.c3
          have g0 := R0.f0; have g1 := R0.f1; have g2 := R0.f2; have g3 := R0.f3
          have A0c0 := A0.c0; have A0c1 := A0.c1; have A0c2 := A0.c2; have A0c3 := A0.c3
          go_wp2
          have i0 := F.c0; have i1 := F.c1; have i2 := F.c2; have i3 := F.c3
          refine bodyPost_ret (v := .tuple #[.agg #[.slice (some ⟨b0, 0, none⟩) l0.length c0, .slice (some ⟨b1, 0, none⟩) l1.length c1, .slice (some ⟨b2, 0, none⟩) l2.length c2, .slice (some ⟨b3, 0, none⟩) l3.length c3], .int .i64 (-1), .int .i64 2]) ?_ rfl ⟨.inr (.inr (.inr ⟨HCN.out, k, hltx, HR.out, HY'.out, rfl⟩)), L0.trans (FO.below (by omega) L0.size)⟩
          simp [results, Try.results174, go_sem, i0, i1, i2, i3]
      · have HM2 : Hid (∀ j, j < k + 1 → ¬ (headsOf c l3).getD j 0 = v) := by
          intro j hj
          by_cases e : j = k
          · subst e; rw [HAT.out]; exact huv
          · exact HM.out j (by omega)
        go_wp2
        go_roundw
        case rel => exact ⟨k + 1, by omega, by go_num, HM2, hbw2⟩
        case measure => simp [intOf]; omega
    · have HR : Hid (idxV (headsOf (clsV l0) l3) ((clsV l0).getD t 0) < 0) := by
        show idxV _ _ < 0
        rw [HCE.out, hv.out, (idx_none (fun j hj => HM.out j (by rw [HLEN.out] at hj; omega))).1]
        omega
      have hge : ¬ ((k : Int) < (l3.length : Int)) := by omega
      obtain ⟨F, FO⟩ := R0.fill (.slice (some ⟨b0, 0, none⟩) l0.length c0) (.slice (some ⟨b1, 0, none⟩) l1.length c1) (.slice (some ⟨b2, 0, none⟩) l2.length c2) (.slice (some ⟨b3, 0, none⟩) l3.length c3)
      have j0' := R0.c0; have j1' := R0.c1; have j2' := R0.c2; have j3' := R0.c3
      have g0 := R0.f0; have g1 := R0.f1; have g2 := R0.f2; have g3 := R0.f3
      have A0c0 := A0.c0; have A0c1 := A0.c1; have A0c2 := A0.c2; have A0c3 := A0.c3
      go_wp2
      have i0 := F.c0; have i1 := F.c1; have i2 := F.c2; have i3 := F.c3
      refine bodyPost_ret (v := .tuple #[.agg #[.slice (some ⟨b0, 0, none⟩) l0.length c0, .slice (some ⟨b1, 0, none⟩) l1.length c1, .slice (some ⟨b2, 0, none⟩) l2.length c2, .slice (some ⟨b3, 0, none⟩) l3.length c3], .int .i64 (-1), .int .i64 1]) ?_ rfl ⟨.inr (.inl ⟨HCN.out, HR.out, rfl⟩), L0.trans (FO.below (by omega) L0.size)⟩
      simp [results, Try.results174, go_sem, i0, i1, i2, i3]

end Go.Proofs.Ytldhbooginlcpaa
