/-
  The contract of spec.l7cell, and words for where a class is first among heads.
-/
import Derived.Test.YtldhbooginlcpaaL3
import Derived.Test.YtldhbooginlcpaaIx
import Derived.Test.YtldhbooginlcpaaHd
import Derived.Deep.RegionHeld3
import Derived.Deep.DeepCutAuto
namespace Go.Proofs.Ytldhbooginlcpaa
open Go.RowKit
set_option linter.unusedVariables false

theorem getD_l {x y : List Int} {j : Nat} (h : j < x.length) : (x ++ y).getD j 0 = x.getD j 0 := by
  rw [List.getD_eq_getElem?_getD, List.getD_eq_getElem?_getD, List.getElem?_append_left h]
theorem getD_r {x y : List Int} {j : Nat} (h : x.length ≤ j) : (x ++ y).getD j 0 = y.getD (j - x.length) 0 := by
  rw [List.getD_eq_getElem?_getD, List.getD_eq_getElem?_getD, List.getElem?_append_right h]
theorem headsOf_at (c : List Int) {l : List (Int × Int)} {k : Nat} (hk : k < l.length) : (headsOf c l).getD k 0 = c.getD (l.getD k (0, 0)).1.toNat 0 := by
  simp [headsOf, hk]
theorem headsOf_length (c : List Int) (l : List (Int × Int)) : (headsOf c l).length = l.length := by simp [headsOf]
theorem idx_lt {l : List Int} {v : Int} (h : 0 ≤ idxV l v) : ∃ k : Nat, idxV l v = (k : Int) ∧ k < l.length ∧ l.getD k 0 = v ∧ ∀ j, j < k → ¬ l.getD j 0 = v := by
  unfold idxV at h ⊢
  cases hf : l.findIdx? (fun z => decide (z = v)) with
  | none => rw [hf] at h; simp at h
  | some k =>
    rw [List.findIdx?_eq_some_iff_getElem] at hf
    obtain ⟨h1, h2, h3⟩ := hf
    refine ⟨k, rfl, h1, by simpa [h1] using h2, fun j hj => ?_⟩
    have := h3 j hj
    have hjl : j < l.length := by omega
    simpa [hjl] using this
theorem idx_ge (l : List Int) (v : Int) : -1 ≤ idxV l v := by
  unfold idxV
  split <;> omega
theorem idx_neg {l : List Int} {v : Int} (h : idxV l v < 0) : ∀ j, j < l.length → ¬ l.getD j 0 = v := by
  intro j hj e
  have hh : hasV l v = true := by unfold hasV; rw [List.any_eq_true]; exact ⟨l[j], List.getElem_mem hj, by simpa [hj] using e⟩
  have := has_idx l v
  rw [hh] at this
  simp only [decide_eq_true_eq] at this
  omega
theorem idx_app1 {x y : List Int} {v : Int} (h : 0 ≤ idxV x v) : idxV (x ++ y) v = idxV x v := by
  obtain ⟨k, e, hk, hv, hn⟩ := idx_lt h
  rw [e]
  refine (idx_hit (by simp; omega) (fun j hj => ?_) ?_).1
  · have := hn j hj
    rwa [getD_l (by omega)]
  · rwa [getD_l hk]
theorem idx_app2 {x y : List Int} {v : Int} (h : idxV x v < 0) {k : Nat} (hy : idxV y v = (k : Int)) : idxV (x ++ y) v = ((x.length + k : Nat) : Int) := by
  obtain ⟨k', e, hk, hv, hn⟩ := idx_lt (l := y) (v := v) (by omega)
  obtain rfl : k' = k := by omega
  refine (idx_hit (by simp; omega) (fun j hj => ?_) ?_).1
  · by_cases hjx : j < x.length
    · rw [getD_l hjx]; exact idx_neg h j hjx
    · rw [getD_r (by omega)]; exact hn _ (by omega)
  · rw [getD_r (by omega)]
    rwa [show x.length + k' - x.length = k' by omega]
theorem idx_app3 {x y : List Int} {v : Int} (h : idxV x v < 0) (hy : idxV y v < 0) : idxV (x ++ y) v = -1 := by
  refine (idx_none (fun j hj => ?_)).1
  by_cases hjx : j < x.length
  · rw [getD_l hjx]; exact idx_neg h j hjx
  · rw [getD_r (by omega)]; exact idx_neg hy _ (by rw [List.length_append] at hj; omega)

set_option maxRecDepth 20000 in
set_option maxHeartbeats 2000000 in
theorem l7cell_any (a0 a1 a2 a3 : Option Addr) (c0 c1 c2 c3 : Nat) (l0 l1 l2 l3 : List (Int × Int)) (t : Nat) (ht : t < 16) (w : World) (n0 : l0.length ≤ 1048576) (n2 : l2.length ≤ 1048576) (t0 : toks l0 = true) (t2 : toks l2 = true) (r0 : PRow w a0 l0) (r2 : PRow w a2 l2) :
    Calls Try.prog 210 #[.agg #[.slice a0 l0.length c0, .slice a1 l1.length c1, .slice a2 l2.length c2, .slice a3 l3.length c3], .int .i64 t] w fun e w' => e = .returned (.int .i64 (idxV (headsOf (clsV l0) l2) ((clsV l0).getD t 0))) ∧ Below w.heap.size w w' := by
  have A0 := Box.new w (.slice a0 l0.length c0) (.slice a1 l1.length c1) (.slice a2 l2.length c2) (.slice a3 l3.length c3) 28
  have L0 : Below w.heap.size w (w.alloc (.cells #[.slice a0 l0.length c0, .slice a1 l1.length c1, .slice a2 l2.length c2, .slice a3 l3.length c3] 28)) := (Below.refl _ _).alloc (Nat.le_refl _) _
  go_enter Try.func210, Try.ntmps210
  have y0 := A0.c0; have y1 := A0.c1; have y2 := A0.c2; have y3 := A0.c3
  go_wp2_with fail
  clear y0 y1 y2 y3
  refine (l3classes_any _ _ _ _ _ _ _ _ l0 l1 l2 l3 _ n0 t0 (r0.below L0 (Nat.le_refl _))).mono ?_
  rintro e w1 ⟨b, cR, rfl, hzR, CO, hb⟩
  replace A0 := A0.below hb A0.lt; replace L0 := L0.trans (hb.mono L0.size)
  clear hb r0
  have HC := Cls.all t0
  obtain ⟨c, HCE⟩ : ∃ c, Hid (clsV l0 = c) := ⟨_, rfl⟩
  rw [HCE.out] at HC CO
  have HLEN : Hid ((headsOf c l2).length = l2.length) := headsOf_length c l2
  obtain ⟨v, hv⟩ : ∃ v, Hid (c.getD t 0 = v) := ⟨_, rfl⟩
  go_wp2
  go_loopw [6] (fun i wr => ∃ k : Nat, k ≤ l2.length ∧ i = .int .i64 k ∧ Hid (∀ j, j < k → ¬ (headsOf c l2).getD j 0 = v) ∧ OwnI wr b 16 c 16 ∧ Box wr w.heap.size (.slice a0 l0.length c0) (.slice a1 l1.length c1) (.slice a2 l2.length c2) (.slice a3 l3.length c3) ∧ Below w.heap.size w wr) (fun i _ => l2.length - (intOf i).toNat)
  case atStart => exact ⟨0, Nat.zero_le _, rfl, fun j hj => absurd hj (Nat.not_lt_zero _), CO, A0, L0⟩
  case round =>
    clear CO A0 L0
    obtain ⟨k, hk, rfl, HM, C, B, L⟩ := hrel
    have e2 := B.c2
    by_cases hltx : k < l2.length
    · rcases r2 with hnil | ⟨b2, off2, rfl, hb2, hcl2⟩
      · rw [hnil] at hltx; simp at hltx
      have hxq0 : wr.cell? ⟨b2, off2 + k * 2, none⟩ = some (.int .i64 (l2.getD k (0, 0)).1) := by rw [L.cell (p := ⟨b2, _, none⟩) hb2]; exact (hcl2 k hltx).1
      have hkn : (k : Int) < (l2.length : Int) := by omega
      have hk0' : (0 : Int) ≤ (k : Int) := by omega
      have htk := (toks_get t2 hltx).1
      have HAT : Hid ((headsOf c l2).getD k 0 = c.getD (l2.getD k (0, 0)).1.toNat 0) := headsOf_at c hltx
      generalize l2.getD k (0, 0) = p at *
      clear hcl2
      obtain ⟨q1, q2⟩ := htk
      obtain ⟨x, hx0, hx⟩ : ∃ x : Nat, p.1 = (x : Int) ∧ x < 16 := ⟨p.1.toNat, by omega, by omega⟩
      rw [hx0] at hxq0 HAT
      rw [Int.toNat_natCast] at HAT
      clear q1 q2 hx0
      have hxi : (x : Int) < 16 := by omega
      have hxz : (0 : Int) ≤ (x : Int) := by omega
      have hti : (t : Int) < 16 := by omega
      have htz : (0 : Int) ≤ (t : Int) := by omega
      have ex := C.2.2 x hx
      have et := C.2.2 t ht
      rw [hv.out] at et
      generalize c.getD x 0 = u at *
      go_upto_region 5 with fail
      have C2 := C.drew; have B2 := B.drew; have L2 := L.drew
      have hS0 : Below w.heap.size w wr.drew ∧ wr.drew.cell? ⟨w.heap.size, 2, none⟩ = some (.slice (some ⟨b2, off2, none⟩) l2.length c2) ∧ wr.drew.cell? ⟨b2, off2 + k * 2, none⟩ = some (.int .i64 x) ∧ wr.drew.cell? ⟨b, x, none⟩ = some (.int .i64 u) ∧ wr.drew.cell? ⟨b, t, none⟩ = some (.int .i64 v) := ⟨L2, e2, hxq0, ex, et⟩
      go_region_held3 (fun w' => Below w.heap.size w w' ∧ w'.cell? ⟨w.heap.size, 2, none⟩ = some (.slice (some ⟨b2, off2, none⟩) l2.length c2) ∧ w'.cell? ⟨b2, off2 + k * 2, none⟩ = some (.int .i64 x) ∧ w'.cell? ⟨b, x, none⟩ = some (.int .i64 u) ∧ w'.cell? ⟨b, t, none⟩ = some (.int .i64 v))
        (first | exact hS0 | assumption | (refine ⟨?_, ?_, ?_, ?_, ?_⟩ <;> assumption))
        (fail)
      clear hS0 C B L e2 hxq0 ex et
      generalize wr.drew = wd at *
      by_cases huv : u = v
      · have HR : Hid (idxV (headsOf c l2) (c.getD t 0) = (k : Int)) := by
          show idxV _ _ = _
          rw [hv.out]
          exact (idx_hit (by rw [HLEN.out]; exact hltx) HM.out (HAT.out.trans huv)).1
        subst huv
        go_wp2
        go_ret
        exact ⟨by rw [HCE.out, HR.out]; rfl, L2⟩
      · have HM2 : Hid (∀ j, j < k + 1 → ¬ (headsOf c l2).getD j 0 = v) := by
          intro j hj
          by_cases e : j = k
          · subst e; rw [HAT.out]; exact huv
          · exact HM.out j (by omega)
        go_wp2
        go_roundw
        case rel => exact ⟨k + 1, by omega, by go_num, HM2, C2, B2, L2⟩
        case measure => simp [intOf]; omega
    · have HR : Hid (idxV (headsOf c l2) (c.getD t 0) = -1) := by
        show idxV _ _ = _
        rw [hv.out]
        exact (idx_none (fun j hj => HM.out j (by rw [HLEN.out] at hj; omega))).1
      have hge : ¬ ((k : Int) < (l2.length : Int)) := by omega
      go_wp2
      go_ret
      exact ⟨by rw [HCE.out, ← List.getD_eq_getElem?_getD, HR.out]; rfl, L⟩

end Go.Proofs.Ytldhbooginlcpaa
