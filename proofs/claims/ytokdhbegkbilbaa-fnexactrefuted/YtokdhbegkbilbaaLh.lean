/-
  The contract of spec.l2holds.
-/
import Derived.Test.YtokdhbegkbilbaaCl
import Derived.Test.YtokdhbegkbilbaaSegS
import Derived.BigQuiet
import Derived.Deep.RegionHeld3
namespace Go.Proofs.Ytokdhbegkbilbaa
open Go.RowKit Go.Maps

theorem own_lit (W : World) (x : Int) : OwnI (W.alloc (.cells #[.int .i64 x] 3)) W.heap.size 1 [x] 1 := by
  refine ⟨by simp, fun j hj => ?_, fun i hi => ?_⟩
  · obtain rfl : j = 0 := by omega
    exact ⟨⟨.int .i64 x, by simp⟩, by simp⟩
  · obtain rfl : i = 0 := by omega
    simp
theorem cell_out {lo hi : Nat} {W u : World} {b o : Nat} {v : Value} (h : W.cell? ⟨b, o, none⟩ = some v) (ho : Out lo hi W u) (hr : b < lo ∨ hi ≤ b) : u.cell? ⟨b, o, none⟩ = some v := by
  rw [World.cell?_of_block (w := W) (ho.block b (World.block_lt_of_cell? _ _ h) hr)]; exact h
theorem allIn_true {hv S : List Int} (h : ∀ q : Nat, q < 7 → okp hv (q : Int) = true → (q : Int) ∈ S) : allIn hv S = true := by
  unfold allIn
  rw [List.all_eq_true]
  intro i hi
  cases e : okp hv (i : Int)
  · rfl
  · simpa using h i (by simpa using hi) e
theorem allIn_false {hv S : List Int} {i : Nat} (hi : i < 7) (ho : okp hv (i : Int) = true) (h : (i : Int) ∉ S) : allIn hv S = false := by
  unfold allIn
  rw [List.all_eq_false]
  exact ⟨i, by simpa using hi, by rw [ho]; simp [h]⟩

def holdsB (t hv : List Int) (l0 l1 l2 l3 : List (Int × Int)) : Bool := (eqsB t l0 && nesB t l1) && spaceV t hv l2 l3

set_option maxRecDepth 100000 in
set_option maxHeartbeats 20000000 in
theorem l2holds_any (b0 b1 c0 c1 : Nat) (t hv : List Int) (e0 e1 e2 e3 f0 f1 f2 f3 : Nat) (l0 l1 l2 l3 : List (Int × Int)) (w : World) (hs : sOk t hv = true) (m0 : l0.length ≤ 12) (m1 : l1.length ≤ 12) (m2 : l2.length ≤ 12) (m3 : l3.length ≤ 12) (k0 : Q.toks l0 = true) (k1 : Q.toks l1 = true) (k2 : Q.toks l2 = true) (k3 : Q.toks l3 = true) (o0 : OwnI w b0 t.length t t.length) (o1 : OwnI w b1 hv.length hv hv.length) (p0 : Q.Own w e0 l0.length l0 l0.length) (p1 : Q.Own w e1 l1.length l1 l1.length) (p2 : Q.Own w e2 l2.length l2 l2.length) (p3 : Q.Own w e3 l3.length l3 l3.length) :
    Calls Try.prog 100 #[.agg #[.slice (some ⟨b0, 0, none⟩) t.length c0, .slice (some ⟨b1, 0, none⟩) hv.length c1], .agg #[.slice (some ⟨e0, 0, none⟩) l0.length f0, .slice (some ⟨e1, 0, none⟩) l1.length f1, .slice (some ⟨e2, 0, none⟩) l2.length f2, .slice (some ⟨e3, 0, none⟩) l3.length f3]] w fun e w' => e = .returned (.bool (holdsB t hv l0 l1 l2 l3)) ∧ Below w.heap.size w w' := by
  have B0 := (Box.new w (.slice (some ⟨b0, 0, none⟩) t.length c0) (.slice (some ⟨b1, 0, none⟩) hv.length c1) 44).alloc (.cells #[.slice (some ⟨e0, 0, none⟩) l0.length f0, .slice (some ⟨e1, 0, none⟩) l1.length f1, .slice (some ⟨e2, 0, none⟩) l2.length f2, .slice (some ⟨e3, 0, none⟩) l3.length f3] 28)
  have A0 := Q.Box.new (w.alloc (.cells #[.slice (some ⟨b0, 0, none⟩) t.length c0, .slice (some ⟨b1, 0, none⟩) hv.length c1] 44)) (.slice (some ⟨e0, 0, none⟩) l0.length f0) (.slice (some ⟨e1, 0, none⟩) l1.length f1) (.slice (some ⟨e2, 0, none⟩) l2.length f2) (.slice (some ⟨e3, 0, none⟩) l3.length f3) 28
  rw [World.size_alloc] at A0
  have L0 : Below w.heap.size w ((w.alloc (.cells #[.slice (some ⟨b0, 0, none⟩) t.length c0, .slice (some ⟨b1, 0, none⟩) hv.length c1] 44)).alloc (.cells #[.slice (some ⟨e0, 0, none⟩) l0.length f0, .slice (some ⟨e1, 0, none⟩) l1.length f1, .slice (some ⟨e2, 0, none⟩) l2.length f2, .slice (some ⟨e3, 0, none⟩) l3.length f3] 28)) := ((Below.refl _ _).alloc (Nat.le_refl _) _).alloc (by simp) _
  replace o0 := o0.keep L0; replace o1 := o1.keep L0; replace p0 := p0.below L0 p0.1; replace p1 := p1.below L0 p1.1; replace p2 := p2.below L0 p2.1; replace p3 := p3.below L0 p3.1
  obtain ⟨⟨e16, -, ht⟩, e7, eh0, hr⟩ := sOk_true hs
  have HR : Hid (∀ i, i < 7 → -1 ≤ hv.getD i 0 ∧ hv.getD i 0 ≤ 6) := hr
  have HTR : Hid (∀ i, i < 16 → 0 ≤ t.getD i 0 ∧ t.getD i 0 ≤ 6) := ht
  have E7 : Hid (hv.length = 7) := e7
  have E16 : Hid (t.length = 16) := e16
  have E0 : Hid (hv.getD 0 0 = -1) := eh0
  have K0 : Hid (Q.toks l0 = true) := k0
  have K1 : Hid (Q.toks l1 = true) := k1
  have K2 : Hid (Q.toks l2 = true) := k2
  have K3 : Hid (Q.toks l3 = true) := k3
  have HF0 : Hid (∀ i, i < l0.length → decide (tv t (l0.getD i (0, 0)).1 = tv t (l0.getD i (0, 0)).2) = false → holdsB t hv l0 l1 l2 l3 = false) := fun i hi h => by unfold holdsB; rw [show eqsB t l0 = false from pall_false hi h]; simp
  have HT0 : Hid ((∀ i, i < l0.length → decide (tv t (l0.getD i (0, 0)).1 = tv t (l0.getD i (0, 0)).2) = true) → eqsB t l0 = true) := fun h => pall_true h
  clear hr ht e7 e16 eh0 k0 k1 k2 k3 hs
  have bl := B0.lt; have al := A0.lt
  have ob0 := o0.1; have ob1 := o1.1; have oe2 := p2.1; have oe3 := p3.1
  go_enter Try.func100, Try.ntmps100
  go_wp2
  generalize ((w.alloc (.cells #[.slice (some ⟨b0, 0, none⟩) t.length c0, .slice (some ⟨b1, 0, none⟩) hv.length c1] 44)).alloc (.cells #[.slice (some ⟨e0, 0, none⟩) l0.length f0, .slice (some ⟨e1, 0, none⟩) l1.length f1, .slice (some ⟨e2, 0, none⟩) l2.length f2, .slice (some ⟨e3, 0, none⟩) l3.length f3] 28)) = W0 at *
  have HB : Below W0.heap.size W0 W0 := Below.refl _ _
  go_loopw [5] (fun i wr => ∃ k : Nat, k ≤ l0.length ∧ i = .int .i64 k ∧ Below W0.heap.size W0 wr ∧ Hid (∀ j, j < k → decide (tv t (l0.getD j (0, 0)).1 = tv t (l0.getD j (0, 0)).2) = true)) (fun i _ => l0.length - (intOf i).toNat)
  case atStart => exact ⟨0, by omega, rfl, HB, fun j hj => by omega⟩
  case round =>
    clear HB
    obtain ⟨k, hk, rfl, hbw, hall⟩ := hrel
    have aa := cell_keep A0.c0 hbw
    by_cases hlt : k < l0.length
    · have hki : (k : Int) < (l0.length : Int) := by omega
      obtain ⟨hr1, hr2⟩ := toks_at K0.out hlt
      have q1 := (p0.2.2 k hlt).1
      have q2 := (p0.2.2 k hlt).2
      obtain ⟨x, ex⟩ : ∃ x : Nat, Hid ((l0.getD k (0, 0)).1 = x) := ⟨(l0.getD k (0, 0)).1.toNat, by show _ = _; omega⟩
      obtain ⟨y, ey⟩ : ∃ y : Nat, Hid ((l0.getD k (0, 0)).2 = y) := ⟨(l0.getD k (0, 0)).2.toNat, by show _ = _; omega⟩
      rw [ex.out] at q1 hr1
      rw [ey.out] at q2 hr2
      have q3 := o0.2.2 x (by have := E16.out; omega)
      have q4 := o0.2.2 y (by have := E16.out; omega)
      have rz := HTR.out x (by omega)
      have rv := HTR.out y (by omega)
      obtain ⟨z, ez⟩ : ∃ z, Hid (t.getD x 0 = z) := ⟨_, rfl⟩
      obtain ⟨v, ev⟩ : ∃ v, Hid (t.getD y 0 = v) := ⟨_, rfl⟩
      rw [ez.out] at q3 rz
      rw [ev.out] at q4 rv
      have hx16 : (x : Int) < (t.length : Int) := by have := E16.out; omega
      have hy16 : (y : Int) < (t.length : Int) := by have := E16.out; omega
      have TZ : Hid (tv t (l0.getD k (0, 0)).1 = z) := by show tv t _ = z; rw [ex.out]; unfold tv; rw [Int.toNat_natCast]; exact ez.out
      have TV : Hid (tv t (l0.getD k (0, 0)).2 = v) := by show tv t _ = v; rw [ey.out]; unfold tv; rw [Int.toNat_natCast]; exact ev.out
      replace q1 := cell_keep q1 hbw; replace q2 := cell_keep q2 hbw; replace q3 := cell_keep q3 hbw; replace q4 := cell_keep q4 hbw
      have z0 := cell_keep B0.c0 hbw
      have a0 := cell_keep A0.c0 hbw
      clear aa
      by_cases cuv : z = v
      · go_wp2
        have hS0 : wr.drew.cell? ⟨w.heap.size, 0, none⟩ = some (.slice (some ⟨b0, 0, none⟩) t.length c0) ∧ wr.drew.cell? ⟨w.heap.size + 1, 0, none⟩ = some (.slice (some ⟨e0, 0, none⟩) l0.length f0) ∧ wr.drew.cell? ⟨e0, k * 2, none⟩ = some (.int .i64 (x : Int)) ∧ wr.drew.cell? ⟨e0, k * 2 + 1, none⟩ = some (.int .i64 (y : Int)) ∧ wr.drew.cell? ⟨b0, x, none⟩ = some (.int .i64 z) ∧ wr.drew.cell? ⟨b0, y, none⟩ = some (.int .i64 v) := ⟨z0, a0, q1, q2, q3, q4⟩
        have hb2 := hbw.drew
        clear z0 a0 q1 q2 q3 q4 hbw
        go_region_held3 (fun W => W.cell? ⟨w.heap.size, 0, none⟩ = some (.slice (some ⟨b0, 0, none⟩) t.length c0) ∧ W.cell? ⟨w.heap.size + 1, 0, none⟩ = some (.slice (some ⟨e0, 0, none⟩) l0.length f0) ∧ W.cell? ⟨e0, k * 2, none⟩ = some (.int .i64 (x : Int)) ∧ W.cell? ⟨e0, k * 2 + 1, none⟩ = some (.int .i64 (y : Int)) ∧ W.cell? ⟨b0, x, none⟩ = some (.int .i64 z) ∧ W.cell? ⟨b0, y, none⟩ = some (.int .i64 v))
          (first | exact hS0 | assumption | (refine ⟨?_, ?_, ?_, ?_, ?_, ?_⟩ <;> assumption))
          (fail)
        all_goals
          go_wp2
          go_roundw
          case rel => exact ⟨k + 1, hlt, by go_num, hb2, fun j hj => by
            by_cases e : j = k
            · subst e; rw [TZ.out, TV.out]; exact decide_eq_true cuv
            · exact hall.out j (by omega)⟩
          case measure => have := hlt; simp [intOf]; omega
      · go_wp2
        have hS0 : wr.drew.cell? ⟨w.heap.size, 0, none⟩ = some (.slice (some ⟨b0, 0, none⟩) t.length c0) ∧ wr.drew.cell? ⟨w.heap.size + 1, 0, none⟩ = some (.slice (some ⟨e0, 0, none⟩) l0.length f0) ∧ wr.drew.cell? ⟨e0, k * 2, none⟩ = some (.int .i64 (x : Int)) ∧ wr.drew.cell? ⟨e0, k * 2 + 1, none⟩ = some (.int .i64 (y : Int)) ∧ wr.drew.cell? ⟨b0, x, none⟩ = some (.int .i64 z) ∧ wr.drew.cell? ⟨b0, y, none⟩ = some (.int .i64 v) := ⟨z0, a0, q1, q2, q3, q4⟩
        have hb2 := hbw.drew
        clear z0 a0 q1 q2 q3 q4 hbw
        go_region_held3 (fun W => W.cell? ⟨w.heap.size, 0, none⟩ = some (.slice (some ⟨b0, 0, none⟩) t.length c0) ∧ W.cell? ⟨w.heap.size + 1, 0, none⟩ = some (.slice (some ⟨e0, 0, none⟩) l0.length f0) ∧ W.cell? ⟨e0, k * 2, none⟩ = some (.int .i64 (x : Int)) ∧ W.cell? ⟨e0, k * 2 + 1, none⟩ = some (.int .i64 (y : Int)) ∧ W.cell? ⟨b0, x, none⟩ = some (.int .i64 z) ∧ W.cell? ⟨b0, y, none⟩ = some (.int .i64 v))
          (first | exact hS0 | assumption | (refine ⟨?_, ?_, ?_, ?_, ?_, ?_⟩ <;> assumption))
          (fail)
        all_goals
          go_wp2
          go_ret
          exact ⟨ret_bool (HF0.out k hlt (by rw [TZ.out, TV.out]; exact decide_eq_false cuv)).symm, L0.trans (hb2.mono L0.size)⟩
    · obtain rfl : k = l0.length := by omega
      have HE0 : Hid (eqsB t l0 = true) := HT0.out hall.out
      have HF1 : Hid (∀ i, i < l1.length → decide (tv t (l1.getD i (0, 0)).1 = tv t (l1.getD i (0, 0)).2) = true → holdsB t hv l0 l1 l2 l3 = false) := fun i hi h => by unfold holdsB; rw [show nesB t l1 = false from pall_false hi (by rw [h]; rfl)]; simp
      have HT1 : Hid ((∀ i, i < l1.length → decide (tv t (l1.getD i (0, 0)).1 = tv t (l1.getD i (0, 0)).2) = false) → nesB t l1 = true) := fun h => pall_true (fun i hi => by rw [h i hi]; rfl)
      clear hall
      go_wp2
      clear aa
      have HB := hbw
      clear hbw
      go_loopw [6] (fun i wr => ∃ k : Nat, k ≤ l1.length ∧ i = .int .i64 k ∧ Below W0.heap.size W0 wr ∧ Hid (∀ j, j < k → decide (tv t (l1.getD j (0, 0)).1 = tv t (l1.getD j (0, 0)).2) = false)) (fun i _ => l1.length - (intOf i).toNat)
      case atStart => exact ⟨0, by omega, rfl, HB, fun j hj => by omega⟩
      case round =>
        clear HB
        obtain ⟨k, hk, rfl, hbw, hall⟩ := hrel
        have aa := cell_keep A0.c1 hbw
        by_cases hlt : k < l1.length
        · have hki : (k : Int) < (l1.length : Int) := by omega
          obtain ⟨hr1, hr2⟩ := toks_at K1.out hlt
          have q1 := (p1.2.2 k hlt).1
          have q2 := (p1.2.2 k hlt).2
          obtain ⟨x, ex⟩ : ∃ x : Nat, Hid ((l1.getD k (0, 0)).1 = x) := ⟨(l1.getD k (0, 0)).1.toNat, by show _ = _; omega⟩
          obtain ⟨y, ey⟩ : ∃ y : Nat, Hid ((l1.getD k (0, 0)).2 = y) := ⟨(l1.getD k (0, 0)).2.toNat, by show _ = _; omega⟩
          rw [ex.out] at q1 hr1
          rw [ey.out] at q2 hr2
          have q3 := o0.2.2 x (by have := E16.out; omega)
          have q4 := o0.2.2 y (by have := E16.out; omega)
          have rz := HTR.out x (by omega)
          have rv := HTR.out y (by omega)
          obtain ⟨z, ez⟩ : ∃ z, Hid (t.getD x 0 = z) := ⟨_, rfl⟩
          obtain ⟨v, ev⟩ : ∃ v, Hid (t.getD y 0 = v) := ⟨_, rfl⟩
          rw [ez.out] at q3 rz
          rw [ev.out] at q4 rv
          have hx16 : (x : Int) < (t.length : Int) := by have := E16.out; omega
          have hy16 : (y : Int) < (t.length : Int) := by have := E16.out; omega
          have TZ : Hid (tv t (l1.getD k (0, 0)).1 = z) := by show tv t _ = z; rw [ex.out]; unfold tv; rw [Int.toNat_natCast]; exact ez.out
          have TV : Hid (tv t (l1.getD k (0, 0)).2 = v) := by show tv t _ = v; rw [ey.out]; unfold tv; rw [Int.toNat_natCast]; exact ev.out
          replace q1 := cell_keep q1 hbw; replace q2 := cell_keep q2 hbw; replace q3 := cell_keep q3 hbw; replace q4 := cell_keep q4 hbw
          have z0 := cell_keep B0.c0 hbw
          have a0 := cell_keep A0.c1 hbw
          clear aa
          by_cases cuv : z = v
          · go_wp2
            have hS0 : wr.drew.cell? ⟨w.heap.size, 0, none⟩ = some (.slice (some ⟨b0, 0, none⟩) t.length c0) ∧ wr.drew.cell? ⟨w.heap.size + 1, 1, none⟩ = some (.slice (some ⟨e1, 0, none⟩) l1.length f1) ∧ wr.drew.cell? ⟨e1, k * 2, none⟩ = some (.int .i64 (x : Int)) ∧ wr.drew.cell? ⟨e1, k * 2 + 1, none⟩ = some (.int .i64 (y : Int)) ∧ wr.drew.cell? ⟨b0, x, none⟩ = some (.int .i64 z) ∧ wr.drew.cell? ⟨b0, y, none⟩ = some (.int .i64 v) := ⟨z0, a0, q1, q2, q3, q4⟩
            have hb2 := hbw.drew
            clear z0 a0 q1 q2 q3 q4 hbw
            go_region_held3 (fun W => W.cell? ⟨w.heap.size, 0, none⟩ = some (.slice (some ⟨b0, 0, none⟩) t.length c0) ∧ W.cell? ⟨w.heap.size + 1, 1, none⟩ = some (.slice (some ⟨e1, 0, none⟩) l1.length f1) ∧ W.cell? ⟨e1, k * 2, none⟩ = some (.int .i64 (x : Int)) ∧ W.cell? ⟨e1, k * 2 + 1, none⟩ = some (.int .i64 (y : Int)) ∧ W.cell? ⟨b0, x, none⟩ = some (.int .i64 z) ∧ W.cell? ⟨b0, y, none⟩ = some (.int .i64 v))
              (first | exact hS0 | assumption | (refine ⟨?_, ?_, ?_, ?_, ?_, ?_⟩ <;> assumption))
              (fail)
            all_goals
              go_wp2
              go_ret
              exact ⟨ret_bool (HF1.out k hlt (by rw [TZ.out, TV.out]; exact decide_eq_true cuv)).symm, L0.trans (hb2.mono L0.size)⟩
          · go_wp2
            have hS0 : wr.drew.cell? ⟨w.heap.size, 0, none⟩ = some (.slice (some ⟨b0, 0, none⟩) t.length c0) ∧ wr.drew.cell? ⟨w.heap.size + 1, 1, none⟩ = some (.slice (some ⟨e1, 0, none⟩) l1.length f1) ∧ wr.drew.cell? ⟨e1, k * 2, none⟩ = some (.int .i64 (x : Int)) ∧ wr.drew.cell? ⟨e1, k * 2 + 1, none⟩ = some (.int .i64 (y : Int)) ∧ wr.drew.cell? ⟨b0, x, none⟩ = some (.int .i64 z) ∧ wr.drew.cell? ⟨b0, y, none⟩ = some (.int .i64 v) := ⟨z0, a0, q1, q2, q3, q4⟩
            have hb2 := hbw.drew
            clear z0 a0 q1 q2 q3 q4 hbw
            go_region_held3 (fun W => W.cell? ⟨w.heap.size, 0, none⟩ = some (.slice (some ⟨b0, 0, none⟩) t.length c0) ∧ W.cell? ⟨w.heap.size + 1, 1, none⟩ = some (.slice (some ⟨e1, 0, none⟩) l1.length f1) ∧ W.cell? ⟨e1, k * 2, none⟩ = some (.int .i64 (x : Int)) ∧ W.cell? ⟨e1, k * 2 + 1, none⟩ = some (.int .i64 (y : Int)) ∧ W.cell? ⟨b0, x, none⟩ = some (.int .i64 z) ∧ W.cell? ⟨b0, y, none⟩ = some (.int .i64 v))
              (first | exact hS0 | assumption | (refine ⟨?_, ?_, ?_, ?_, ?_, ?_⟩ <;> assumption))
              (fail)
            all_goals
              go_wp2
              go_roundw
              case rel => exact ⟨k + 1, hlt, by go_num, hb2, fun j hj => by
                by_cases e : j = k
                · subst e; rw [TZ.out, TV.out]; exact decide_eq_false cuv
                · exact hall.out j (by omega)⟩
              case measure => have := hlt; simp [intOf]; omega
        · obtain rfl : k = l1.length := by omega
          have HE1 : Hid (nesB t l1 = true) := HT1.out hall.out
          have HH : Hid (holdsB t hv l0 l1 l2 l3 = spaceV t hv l2 l3) := by show holdsB t hv l0 l1 l2 l3 = _; unfold holdsB; rw [HE0.out, HE1.out]; rfl
          clear hall
          have hmk := run_make4
          have I0 := BRow.start wr
          have hbA := hbw.alloc hbw.size (.cells brow 4)
          have bIge := hbw.size
          go_wp2
          clear aa hmk
          generalize wr.heap.size = bI at *
          generalize (wr.alloc (.cells brow 4)) = W9 at *
          have HA2 : Hid (l2.take l2.length = l2) := List.take_length
          have HA3 : Hid (l3.take l3.length = l3) := List.take_length
          clear hbw
          go_loopw [8, 9] (fun i _ wr => ∃ (k : Nat) (SS : List Int), k ≤ l2.length ∧ i = .int .i64 k ∧ BRow wr bI (fun j => decide ((j : Int) ∈ SS)) ∧ Below W0.heap.size W0 wr ∧ Hid (cellsV t hv (l2.take k) = some SS ∧ SS.Nodup ∧ (∀ q ∈ SS, okp hv q = true) ∧ SS.length ≤ 6)) (fun i _ _ => l2.length - (intOf i).toNat)
          case atStart => exact ⟨0, [], by omega, rfl, by simpa using I0, hbA, ⟨rfl, by simp, by simp, by simp⟩⟩
          case round =>
            clear I0 hbA
            obtain ⟨k, SS, hk, rfl, hI, hbw, HI⟩ := hrel
            have aa := cell_keep A0.c2 hbw
            by_cases hlt : k < l2.length
            · have hki : (k : Int) < (l2.length : Int) := by omega
              obtain ⟨hr1, hr2⟩ := toks_at K2.out hlt
              have q1 := (p2.2.2 k hlt).1
              have q2 := (p2.2.2 k hlt).2
              obtain ⟨x, ex⟩ : ∃ x : Nat, Hid ((l2.getD k (0, 0)).1 = x) := ⟨(l2.getD k (0, 0)).1.toNat, by show _ = _; omega⟩
              obtain ⟨y, ey⟩ : ∃ y : Nat, Hid ((l2.getD k (0, 0)).2 = y) := ⟨(l2.getD k (0, 0)).2.toNat, by show _ = _; omega⟩
              rw [ex.out] at q1 hr1
              rw [ey.out] at q2 hr2
              have q3 := o0.2.2 x (by have := E16.out; omega)
              have q4 := o0.2.2 y (by have := E16.out; omega)
              have rz := HTR.out x (by omega)
              have rv := HTR.out y (by omega)
              obtain ⟨z, ez⟩ : ∃ z, Hid (t.getD x 0 = z) := ⟨_, rfl⟩
              obtain ⟨v, ev⟩ : ∃ v, Hid (t.getD y 0 = v) := ⟨_, rfl⟩
              rw [ez.out] at q3 rz
              rw [ev.out] at q4 rv
              have hx16 : (x : Int) < (t.length : Int) := by have := E16.out; omega
              have hy16 : (y : Int) < (t.length : Int) := by have := E16.out; omega
              have TZ : Hid (tv t (l2.getD k (0, 0)).1 = z) := by show tv t _ = z; rw [ex.out]; unfold tv; rw [Int.toNat_natCast]; exact ez.out
              have TV : Hid (tv t (l2.getD k (0, 0)).2 = v) := by show tv t _ = v; rw [ey.out]; unfold tv; rw [Int.toNat_natCast]; exact ev.out
              replace q1 := cell_keep q1 hbw; replace q2 := cell_keep q2 hbw; replace q3 := cell_keep q3 hbw; replace q4 := cell_keep q4 hbw
              have z0 := cell_keep B0.c0 hbw
              have a0 := cell_keep A0.c2 hbw
              have b1c := cell_keep B0.c1 hbw
              have hCS : Hid (cellsV t hv (l2.take (k + 1)) = if okp hv z = true ∧ gn hv z = v ∧ z ∉ SS then some (SS ++ [z]) else none) := by
                show cellsV t hv (l2.take (k + 1)) = _
                rw [cells_at hlt, HI.out.1]
                show (if okp hv (tv t (l2.getD k (0, 0)).1) = true ∧ gn hv (tv t (l2.getD k (0, 0)).1) = tv t (l2.getD k (0, 0)).2 ∧ tv t (l2.getD k (0, 0)).1 ∉ SS then some (SS ++ [tv t (l2.getD k (0, 0)).1]) else none) = _
                rw [TZ.out, TV.out]
              have HV0 : Hid (cellsV t hv (l2.take (k + 1)) = none → holdsB t hv l0 l1 l2 l3 = false) := fun h => by rw [HH.out]; exact space_cells (cells_dead h)
              obtain ⟨z, rfl⟩ : ∃ zn : Nat, z = zn := ⟨z.toNat, by omega⟩
              have q5 := o1.2.2 z (by have := E7.out; omega)
              have ru := HR.out z (by omega)
              have HK : Hid (okp hv z = decide (hv.getD z 0 ≠ -1)) := okp_nat (by omega)
              have HG : Hid (gn hv z = hv.getD z 0) := by show gn hv z = _; unfold gn; rw [Int.toNat_natCast]
              obtain ⟨u, eu⟩ : ∃ u, Hid (hv.getD z 0 = u) := ⟨_, rfl⟩
              rw [eu.out] at q5 ru HK HG
              replace q5 := cell_keep q5 hbw
              have hz7 : (z : Int) < (hv.length : Int) := by have := E7.out; omega
              go_wp2
              clear aa
              have hS0 : wr.drew.cell? ⟨w.heap.size, 0, none⟩ = some (.slice (some ⟨b0, 0, none⟩) t.length c0) ∧ wr.drew.cell? ⟨w.heap.size + 1, 2, none⟩ = some (.slice (some ⟨e2, 0, none⟩) l2.length f2) ∧ wr.drew.cell? ⟨e2, k * 2, none⟩ = some (.int .i64 (x : Int)) ∧ wr.drew.cell? ⟨b0, x, none⟩ = some (.int .i64 (z : Int)) := ⟨z0, a0, q1, q3⟩
              go_region_held3 (fun W => W.cell? ⟨w.heap.size, 0, none⟩ = some (.slice (some ⟨b0, 0, none⟩) t.length c0) ∧ W.cell? ⟨w.heap.size + 1, 2, none⟩ = some (.slice (some ⟨e2, 0, none⟩) l2.length f2) ∧ W.cell? ⟨e2, k * 2, none⟩ = some (.int .i64 (x : Int)) ∧ W.cell? ⟨b0, x, none⟩ = some (.int .i64 (z : Int)))
                (first | exact hS0 | assumption | (refine ⟨?_, ?_, ?_, ?_⟩ <;> assumption))
                (fail)
              clear hS0
              have hb2 := hbw.drew
              have dr : Below wr.heap.size wr wr.drew := (Below.refl _ _).drew
              replace hI := hI.keep dr
              replace z0 := cell_keep z0 dr; replace a0 := cell_keep a0 dr; replace q2 := cell_keep q2 dr; replace q4 := cell_keep q4 dr; replace q5 := cell_keep q5 dr; replace b1c := cell_keep b1c dr
              clear q1 q3 hbw dr
              generalize wr.drew = W2 at *
              by_cases cu : u < 0
              · have HV : Hid (holdsB t hv l0 l1 l2 l3 = false) := HV0.out (by rw [hCS.out, if_neg (fun q => by rw [HK.out] at q; have := q.1; simp at this; omega)])
                have hd : decide (u < 0) = true := decide_eq_true cu
                have hbN : ∀ n, Below W0.heap.size W0 (W2.drewN n) := fun n => hb2.trans ⟨rfl, rfl, rfl, Nat.le_refl _, fun _ _ => rfl⟩
                go_wp2_with fail
                go_quiet (fail)
                go_wp2
                go_ret
                exact ⟨ret_bool HV.out.symm, L0.trans ((hbN _).mono L0.size)⟩
              · have hd : decide (u < 0) = false := decide_eq_false cu
                have hok : Hid (okp hv z = true) := by show okp hv z = true; rw [HK.out]; simp; omega
                by_cases cv : u = v
                · have alb : Below W2.heap.size W2 (W2.drew.alloc (.cells #[.int .i64 (z : Int)] 3)) := ((Below.refl _ _).drew).alloc (Nat.le_refl _) _
                  have hS0 : W2.drew.cell? ⟨w.heap.size, 1, none⟩ = some (.slice (some ⟨b1, 0, none⟩) hv.length c1) ∧ W2.drew.cell? ⟨b1, z, none⟩ = some (.int .i64 u) ∧ W2.drew.cell? ⟨w.heap.size, 0, none⟩ = some (.slice (some ⟨b0, 0, none⟩) t.length c0) ∧ W2.drew.cell? ⟨w.heap.size + 1, 2, none⟩ = some (.slice (some ⟨e2, 0, none⟩) l2.length f2) ∧ W2.drew.cell? ⟨e2, k * 2 + 1, none⟩ = some (.int .i64 (y : Int)) ∧ W2.drew.cell? ⟨b0, y, none⟩ = some (.int .i64 v) := ⟨b1c, q5, z0, a0, q2, q4⟩
                  have hSA : (W2.drew.alloc (.cells #[.int .i64 (z : Int)] 3)).cell? ⟨w.heap.size, 1, none⟩ = some (.slice (some ⟨b1, 0, none⟩) hv.length c1) ∧ (W2.drew.alloc (.cells #[.int .i64 (z : Int)] 3)).cell? ⟨b1, z, none⟩ = some (.int .i64 u) ∧ (W2.drew.alloc (.cells #[.int .i64 (z : Int)] 3)).cell? ⟨w.heap.size, 0, none⟩ = some (.slice (some ⟨b0, 0, none⟩) t.length c0) ∧ (W2.drew.alloc (.cells #[.int .i64 (z : Int)] 3)).cell? ⟨w.heap.size + 1, 2, none⟩ = some (.slice (some ⟨e2, 0, none⟩) l2.length f2) ∧ (W2.drew.alloc (.cells #[.int .i64 (z : Int)] 3)).cell? ⟨e2, k * 2 + 1, none⟩ = some (.int .i64 (y : Int)) ∧ (W2.drew.alloc (.cells #[.int .i64 (z : Int)] 3)).cell? ⟨b0, y, none⟩ = some (.int .i64 v) := ⟨cell_keep b1c alb, cell_keep q5 alb, cell_keep z0 alb, cell_keep a0 alb, cell_keep q2 alb, cell_keep q4 alb⟩
                  have hIa := hI.keep alb
                  have hIl := hI.1
                  have hcl := claim_some bI 7 W2.drew.heap.size 1 SS [(z : Int)] (W2.drew.alloc (.cells #[.int .i64 (z : Int)] 3)) (by simp) HI.out.2.1 (fun q hq => by simp at hq; omega) (by show W2.heap.size ≠ bI; omega) hIa (own_lit _ _)
                  have hb3 := hb2.trans (alb.mono hb2.size)
                  clear b1c q5 z0 a0 q2 q4
                  by_cases cz : (z : Int) ∈ SS
                  · have HV : Hid (holdsB t hv l0 l1 l2 l3 = false) := HV0.out (by rw [hCS.out, if_neg (fun q => q.2.2 cz)])
                    rw [show decide (SS ++ [(z : Int)]).Nodup = false from decide_eq_false (fun hn => (List.nodup_append.1 hn).2.2 z cz z (by simp) rfl)] at hcl
                    subst cv
                    go_wp2_with fail
                    go_region_held3 (fun W => W.cell? ⟨w.heap.size, 1, none⟩ = some (.slice (some ⟨b1, 0, none⟩) hv.length c1) ∧ W.cell? ⟨b1, z, none⟩ = some (.int .i64 u) ∧ W.cell? ⟨w.heap.size, 0, none⟩ = some (.slice (some ⟨b0, 0, none⟩) t.length c0) ∧ W.cell? ⟨w.heap.size + 1, 2, none⟩ = some (.slice (some ⟨e2, 0, none⟩) l2.length f2) ∧ W.cell? ⟨e2, k * 2 + 1, none⟩ = some (.int .i64 (y : Int)) ∧ W.cell? ⟨b0, y, none⟩ = some (.int .i64 u))
                      (first | exact hS0 | exact hSA | assumption | (refine ⟨?_, ?_, ?_, ?_, ?_, ?_⟩ <;> assumption))
                      (first | (go_at_call 123; refine hcl.mono ?_; rintro e wq ⟨rfl, hbr, hoq⟩; have hS9 : wq.cell? ⟨w.heap.size, 1, none⟩ = some (.slice (some ⟨b1, 0, none⟩) hv.length c1) ∧ wq.cell? ⟨b1, z, none⟩ = some (.int .i64 u) ∧ wq.cell? ⟨w.heap.size, 0, none⟩ = some (.slice (some ⟨b0, 0, none⟩) t.length c0) ∧ wq.cell? ⟨w.heap.size + 1, 2, none⟩ = some (.slice (some ⟨e2, 0, none⟩) l2.length f2) ∧ wq.cell? ⟨e2, k * 2 + 1, none⟩ = some (.int .i64 (y : Int)) ∧ wq.cell? ⟨b0, y, none⟩ = some (.int .i64 u) := ⟨cell_out hSA.1 hoq (by omega), cell_out hSA.2.1 hoq (by omega), cell_out hSA.2.2.1 hoq (by omega), cell_out hSA.2.2.2.1 hoq (by omega), cell_out hSA.2.2.2.2.1 hoq (by omega), cell_out hSA.2.2.2.2.2 hoq (by omega)⟩))
                    all_goals
                      have hb4 := hb3.trans (hoq.below bIge hb3.size)
                      clear hS0 hSA hS9 hbr hoq
                      go_wp2
                      go_ret
                      exact ⟨ret_bool HV.out.symm, L0.trans (hb4.mono L0.size)⟩
                  · have hn1 := nodup_snoc HI.out.2.1 cz
                    have ho1 : ∀ q ∈ SS ++ [(z : Int)], okp hv q = true := fun q hq => by
                      rw [List.mem_append] at hq
                      rcases hq with hq | hq
                      · exact HI.out.2.2.1 q hq
                      · simp at hq; rw [hq]; exact hok.out
                    have HI2 : Hid (cellsV t hv (l2.take (k + 1)) = some (SS ++ [(z : Int)]) ∧ (SS ++ [(z : Int)]).Nodup ∧ (∀ q ∈ SS ++ [(z : Int)], okp hv q = true) ∧ (SS ++ [(z : Int)]).length ≤ 6) :=
                      ⟨by rw [hCS.out, if_pos ⟨hok.out, by rw [HG.out]; exact cv, cz⟩], hn1, ho1, okp_len E0.out hn1 ho1⟩
                    rw [decide_eq_true hn1] at hcl
                    have HN1 : Hid ((SS ++ [(z : Int)]).Nodup) := hn1
                    clear hn1 ho1 cz
                    subst cv
                    go_wp2_with fail
                    go_region_held3 (fun W => W.cell? ⟨w.heap.size, 1, none⟩ = some (.slice (some ⟨b1, 0, none⟩) hv.length c1) ∧ W.cell? ⟨b1, z, none⟩ = some (.int .i64 u) ∧ W.cell? ⟨w.heap.size, 0, none⟩ = some (.slice (some ⟨b0, 0, none⟩) t.length c0) ∧ W.cell? ⟨w.heap.size + 1, 2, none⟩ = some (.slice (some ⟨e2, 0, none⟩) l2.length f2) ∧ W.cell? ⟨e2, k * 2 + 1, none⟩ = some (.int .i64 (y : Int)) ∧ W.cell? ⟨b0, y, none⟩ = some (.int .i64 u))
                      (first | exact hS0 | exact hSA | assumption | (refine ⟨?_, ?_, ?_, ?_, ?_, ?_⟩ <;> assumption))
                      (first | (go_at_call 123; refine hcl.mono ?_; rintro e wq ⟨rfl, hbr, hoq⟩; have hS9 : wq.cell? ⟨w.heap.size, 1, none⟩ = some (.slice (some ⟨b1, 0, none⟩) hv.length c1) ∧ wq.cell? ⟨b1, z, none⟩ = some (.int .i64 u) ∧ wq.cell? ⟨w.heap.size, 0, none⟩ = some (.slice (some ⟨b0, 0, none⟩) t.length c0) ∧ wq.cell? ⟨w.heap.size + 1, 2, none⟩ = some (.slice (some ⟨e2, 0, none⟩) l2.length f2) ∧ wq.cell? ⟨e2, k * 2 + 1, none⟩ = some (.int .i64 (y : Int)) ∧ wq.cell? ⟨b0, y, none⟩ = some (.int .i64 u) := ⟨cell_out hSA.1 hoq (by omega), cell_out hSA.2.1 hoq (by omega), cell_out hSA.2.2.1 hoq (by omega), cell_out hSA.2.2.2.1 hoq (by omega), cell_out hSA.2.2.2.2.1 hoq (by omega), cell_out hSA.2.2.2.2.2 hoq (by omega)⟩))
                    all_goals
                      have hb4 := hb3.trans (hoq.below bIge hb3.size)
                      have hI4 := hbr HN1.out
                      clear hS0 hSA hS9 hbr hoq
                      go_wp2
                      go_roundw
                      case rel => exact ⟨k + 1, SS ++ [(z : Int)], hlt, by go_num, hI4, hb4, HI2⟩
                      case measure => have := hlt; simp [intOf]; omega
                · have HV : Hid (holdsB t hv l0 l1 l2 l3 = false) := HV0.out (by rw [hCS.out, if_neg (fun q => by rw [HG.out] at q; exact cv q.2.1)])
                  have hd2 : decide (u = v) = false := decide_eq_false cv
                  have hbN : ∀ n, Below W0.heap.size W0 (W2.drewN n) := fun n => hb2.trans ⟨rfl, rfl, rfl, Nat.le_refl _, fun _ _ => rfl⟩
                  go_wp2_with fail
                  go_quiet (fail)
                  go_wp2
                  go_ret
                  exact ⟨ret_bool HV.out.symm, L0.trans ((hbN _).mono L0.size)⟩
            · obtain rfl : k = l2.length := by omega
              have HC : Hid (cellsV t hv l2 = some SS) := by have := HI.out.1; rw [HA2.out] at this; exact this
              have HJ : Hid (segsV t hv (some SS) (l3.take 0) = some SS ∧ SS.Nodup ∧ (∀ q ∈ SS, okp hv q = true) ∧ SS.length ≤ 6) := ⟨rfl, HI.out.2⟩
              clear HI
              go_wp2
              clear aa
              go_loopw [10, 11, 12] (fun i _ _ wr => ∃ (k : Nat) (S2 : List Int), k ≤ l3.length ∧ i = .int .i64 k ∧ BRow wr bI (fun j => decide ((j : Int) ∈ S2)) ∧ Below W0.heap.size W0 wr ∧ Hid (segsV t hv (some SS) (l3.take k) = some S2 ∧ S2.Nodup ∧ (∀ q ∈ S2, okp hv q = true) ∧ S2.length ≤ 6)) (fun i _ _ _ => l3.length - (intOf i).toNat)
              case atStart => exact ⟨0, SS, by omega, rfl, hI, hbw, HJ⟩
              case round =>
                clear HJ hI hbw
                obtain ⟨k, S2, hk, rfl, hI, hbw, HI⟩ := hrel
                have aa := cell_keep A0.c3 hbw
                by_cases hlt : k < l3.length
                · have hki : (k : Int) < (l3.length : Int) := by omega
                  obtain ⟨hr1, hr2⟩ := toks_at K3.out hlt
                  have q1 := (p3.2.2 k hlt).1
                  have q2 := (p3.2.2 k hlt).2
                  obtain ⟨x, ex⟩ : ∃ x : Nat, Hid ((l3.getD k (0, 0)).1 = x) := ⟨(l3.getD k (0, 0)).1.toNat, by show _ = _; omega⟩
                  obtain ⟨y, ey⟩ : ∃ y : Nat, Hid ((l3.getD k (0, 0)).2 = y) := ⟨(l3.getD k (0, 0)).2.toNat, by show _ = _; omega⟩
                  rw [ex.out] at q1 hr1
                  rw [ey.out] at q2 hr2
                  have q3 := o0.2.2 x (by have := E16.out; omega)
                  have q4 := o0.2.2 y (by have := E16.out; omega)
                  have rz := HTR.out x (by omega)
                  have rv := HTR.out y (by omega)
                  obtain ⟨z, ez⟩ : ∃ z, Hid (t.getD x 0 = z) := ⟨_, rfl⟩
                  obtain ⟨v, ev⟩ : ∃ v, Hid (t.getD y 0 = v) := ⟨_, rfl⟩
                  rw [ez.out] at q3 rz
                  rw [ev.out] at q4 rv
                  have hx16 : (x : Int) < (t.length : Int) := by have := E16.out; omega
                  have hy16 : (y : Int) < (t.length : Int) := by have := E16.out; omega
                  have TZ : Hid (tv t (l3.getD k (0, 0)).1 = z) := by show tv t _ = z; rw [ex.out]; unfold tv; rw [Int.toNat_natCast]; exact ez.out
                  have TV : Hid (tv t (l3.getD k (0, 0)).2 = v) := by show tv t _ = v; rw [ey.out]; unfold tv; rw [Int.toNat_natCast]; exact ev.out
                  replace q1 := cell_keep q1 hbw; replace q2 := cell_keep q2 hbw; replace q3 := cell_keep q3 hbw; replace q4 := cell_keep q4 hbw
                  have z0 := cell_keep B0.c0 hbw
                  have a0 := cell_keep A0.c3 hbw
                  have b1c := cell_keep B0.c1 hbw
                  have hCS : Hid (segsV t hv (some SS) (l3.take (k + 1)) = match seg hv 7 z v with | none => none | some l => if (S2 ++ l).Nodup then some (S2 ++ l) else none) := by
                    show segsV t hv (some SS) (l3.take (k + 1)) = _
                    rw [segs_at hlt, HI.out.1]
                    show (match seg hv 7 (tv t (l3.getD k (0, 0)).1) (tv t (l3.getD k (0, 0)).2) with | none => none | some l => if (S2 ++ l).Nodup then some (S2 ++ l) else none) = _
                    rw [TZ.out, TV.out]
                  have HV0 : Hid (segsV t hv (some SS) (l3.take (k + 1)) = none → holdsB t hv l0 l1 l2 l3 = false) := fun h => by rw [HH.out]; exact space_segs HC.out (segs_dead h)
                  have hS0 : wr.drew.cell? ⟨w.heap.size, 1, none⟩ = some (.slice (some ⟨b1, 0, none⟩) hv.length c1) ∧ wr.drew.cell? ⟨w.heap.size, 0, none⟩ = some (.slice (some ⟨b0, 0, none⟩) t.length c0) ∧ wr.drew.cell? ⟨w.heap.size + 1, 3, none⟩ = some (.slice (some ⟨e3, 0, none⟩) l3.length f3) ∧ wr.drew.cell? ⟨e3, k * 2, none⟩ = some (.int .i64 (x : Int)) ∧ wr.drew.cell? ⟨e3, k * 2 + 1, none⟩ = some (.int .i64 (y : Int)) ∧ wr.drew.cell? ⟨b0, x, none⟩ = some (.int .i64 z) ∧ wr.drew.cell? ⟨b0, y, none⟩ = some (.int .i64 v) := ⟨b1c, z0, a0, q1, q2, q3, q4⟩
                  have dr : Below wr.heap.size wr wr.drew := (Below.refl _ _).drew
                  have o1w := (o1.below hbw o1.1).keep dr
                  have hsg := l2seg_any b1 c1 hv z v wr.drew E7.out rz HR o1w
                  have hI1 := hI.keep dr
                  have hIl : bI < wr.drew.heap.size := hI1.1
                  have hb1 := hbw.drew
                  clear z0 q1 q2 q3 q4 b1c dr o1w
                  cases eSG : seg hv 7 z v with
                  | none =>
                    have HV : Hid (holdsB t hv l0 l1 l2 l3 = false) := HV0.out (by rw [hCS.out, eSG])
                    rw [show segL hv z v = [] by unfold segL; rw [eSG]; rfl, eSG] at hsg
                    go_wp2
                    clear aa a0
                    go_region_held3 (fun W => W.cell? ⟨w.heap.size, 1, none⟩ = some (.slice (some ⟨b1, 0, none⟩) hv.length c1) ∧ W.cell? ⟨w.heap.size, 0, none⟩ = some (.slice (some ⟨b0, 0, none⟩) t.length c0) ∧ W.cell? ⟨w.heap.size + 1, 3, none⟩ = some (.slice (some ⟨e3, 0, none⟩) l3.length f3) ∧ W.cell? ⟨e3, k * 2, none⟩ = some (.int .i64 (x : Int)) ∧ W.cell? ⟨e3, k * 2 + 1, none⟩ = some (.int .i64 (y : Int)) ∧ W.cell? ⟨b0, x, none⟩ = some (.int .i64 z) ∧ W.cell? ⟨b0, y, none⟩ = some (.int .i64 v))
                      (first | exact hS0 | assumption | (refine ⟨?_, ?_, ?_, ?_, ?_, ?_, ?_⟩ <;> assumption))
                      (first | (go_at_call 97; refine hsg.mono ?_; rintro e wq ⟨ag, cg, rfl, hin, hbq⟩; have hS9 : wq.cell? ⟨w.heap.size, 1, none⟩ = some (.slice (some ⟨b1, 0, none⟩) hv.length c1) ∧ wq.cell? ⟨w.heap.size, 0, none⟩ = some (.slice (some ⟨b0, 0, none⟩) t.length c0) ∧ wq.cell? ⟨w.heap.size + 1, 3, none⟩ = some (.slice (some ⟨e3, 0, none⟩) l3.length f3) ∧ wq.cell? ⟨e3, k * 2, none⟩ = some (.int .i64 (x : Int)) ∧ wq.cell? ⟨e3, k * 2 + 1, none⟩ = some (.int .i64 (y : Int)) ∧ wq.cell? ⟨b0, x, none⟩ = some (.int .i64 z) ∧ wq.cell? ⟨b0, y, none⟩ = some (.int .i64 v) := ⟨cell_keep hS0.1 hbq, cell_keep hS0.2.1 hbq, cell_keep hS0.2.2.1 hbq, cell_keep hS0.2.2.2.1 hbq, cell_keep hS0.2.2.2.2.1 hbq, cell_keep hS0.2.2.2.2.2.1 hbq, cell_keep hS0.2.2.2.2.2.2 hbq⟩))
                    all_goals
                      have hb9 := hb1.trans (hbq.mono hb1.size)
                      clear hS0 hS9
                      go_wp2
                      go_ret
                      exact ⟨ret_bool HV.out.symm, L0.trans (hb9.mono L0.size)⟩
                  | some l =>
                    rw [show segL hv z v = l by unfold segL; rw [eSG]; rfl, eSG] at hsg
                    have LOK : Hid (∀ q ∈ l, okp hv q = true) := seg_ok 7 z l eSG
                    have LL7 : l.length ≤ 7 := seg_len 7 _ _ eSG
                    have HCS2 : Hid (segsV t hv (some SS) (l3.take (k + 1)) = if (S2 ++ l).Nodup then some (S2 ++ l) else none) := by have := hCS.out; rw [eSG] at this; exact this
                    clear eSG
                    go_wp2
                    clear aa a0
                    go_region_held3 (fun W => W.cell? ⟨w.heap.size, 1, none⟩ = some (.slice (some ⟨b1, 0, none⟩) hv.length c1) ∧ W.cell? ⟨w.heap.size, 0, none⟩ = some (.slice (some ⟨b0, 0, none⟩) t.length c0) ∧ W.cell? ⟨w.heap.size + 1, 3, none⟩ = some (.slice (some ⟨e3, 0, none⟩) l3.length f3) ∧ W.cell? ⟨e3, k * 2, none⟩ = some (.int .i64 (x : Int)) ∧ W.cell? ⟨e3, k * 2 + 1, none⟩ = some (.int .i64 (y : Int)) ∧ W.cell? ⟨b0, x, none⟩ = some (.int .i64 z) ∧ W.cell? ⟨b0, y, none⟩ = some (.int .i64 v))
                      (first | exact hS0 | assumption | (refine ⟨?_, ?_, ?_, ?_, ?_, ?_, ?_⟩ <;> assumption))
                      (first | (go_at_call 97; refine hsg.mono ?_; rintro e wq ⟨ag, cg, rfl, hin, hbq⟩; have hS9 : wq.cell? ⟨w.heap.size, 1, none⟩ = some (.slice (some ⟨b1, 0, none⟩) hv.length c1) ∧ wq.cell? ⟨w.heap.size, 0, none⟩ = some (.slice (some ⟨b0, 0, none⟩) t.length c0) ∧ wq.cell? ⟨w.heap.size + 1, 3, none⟩ = some (.slice (some ⟨e3, 0, none⟩) l3.length f3) ∧ wq.cell? ⟨e3, k * 2, none⟩ = some (.int .i64 (x : Int)) ∧ wq.cell? ⟨e3, k * 2 + 1, none⟩ = some (.int .i64 (y : Int)) ∧ wq.cell? ⟨b0, x, none⟩ = some (.int .i64 z) ∧ wq.cell? ⟨b0, y, none⟩ = some (.int .i64 v) := ⟨cell_keep hS0.1 hbq, cell_keep hS0.2.1 hbq, cell_keep hS0.2.2.1 hbq, cell_keep hS0.2.2.2.1 hbq, cell_keep hS0.2.2.2.2.1 hbq, cell_keep hS0.2.2.2.2.2.1 hbq, cell_keep hS0.2.2.2.2.2.2 hbq⟩))
                    all_goals
                      have hb9 := hb1.trans (hbq.mono hb1.size)
                      have hI9 := hI1.keep hbq
                      have hcl := claim_any bI 7 _ _ l.length cg ag S2 l wq (by omega) HI.out.2.1 (fun q hq => by have := okp_at E0.out (LOK.out q hq); omega) hIl hI9 hin
                      clear hS0 hS9 hbq hin
                      by_cases cn : (S2 ++ l).Nodup
                      · have hok2 : ∀ q ∈ S2 ++ l, okp hv q = true := fun q hq => by
                          rw [List.mem_append] at hq
                          rcases hq with hq | hq
                          · exact HI.out.2.2.1 q hq
                          · exact LOK.out q hq
                        have HI4 : Hid (segsV t hv (some SS) (l3.take (k + 1)) = some (S2 ++ l) ∧ (S2 ++ l).Nodup ∧ (∀ q ∈ S2 ++ l, okp hv q = true) ∧ (S2 ++ l).length ≤ 6) := ⟨by rw [HCS2.out, if_pos cn], cn, hok2, okp_len E0.out cn hok2⟩
                        rw [decide_eq_true cn] at hcl
                        clear hok2
                        go_wp2_with fail
                        refine hcl.mono ?_
                        rintro e w7 ⟨rfl, hbr, ho⟩
                        have hb10 := hb9.trans (ho.below bIge hb9.size)
                        have hI10 := hbr cn
                        clear hcl hbr ho cn
                        go_wp2
                        go_roundw
                        case rel => exact ⟨k + 1, S2 ++ l, hlt, by go_num, hI10, hb10, HI4⟩
                        case measure => have := hlt; simp [intOf]; omega
                      · have HV : Hid (holdsB t hv l0 l1 l2 l3 = false) := HV0.out (by rw [HCS2.out, if_neg cn])
                        rw [decide_eq_false cn] at hcl
                        clear cn
                        go_wp2_with fail
                        refine hcl.mono ?_
                        rintro e w7 ⟨rfl, -, ho⟩
                        have hb10 := hb9.trans (ho.below bIge hb9.size)
                        clear hcl ho
                        go_wp2
                        go_ret
                        exact ⟨ret_bool HV.out.symm, L0.trans (hb10.mono L0.size)⟩
                · obtain rfl : k = l3.length := by omega
                  have HE := HI.out.1
                  rw [HA3.out] at HE
                  have HV : Hid (holdsB t hv l0 l1 l2 l3 = allIn hv S2) := by rw [HH.out]; exact space_end HC.out HE
                  clear HE
                  have b1c := cell_keep B0.c1 hbw
                  have o1w := o1.below hbw o1.1
                  go_wp2
                  clear aa
                  go_loop [13] (fun i => ∃ j : Nat, j ≤ hv.length ∧ i = .int .i64 j ∧ Hid (∀ q, q < j → okp hv (q : Int) = true → (q : Int) ∈ S2)) (fun i => hv.length - (intOf i).toNat)
                  case atStart => exact ⟨0, by omega, rfl, fun q hq => by omega⟩
                  case round =>
                    obtain ⟨j, hj, rfl, hall⟩ := hrel
                    by_cases hjl : j < hv.length
                    · have hji : (j : Int) < (hv.length : Int) := by omega
                      have hj7 : (j : Int) < 7 := by have := E7.out; omega
                      have hx := o1w.2.2 j hjl
                      have HK : Hid (okp hv j = decide (hv.getD j 0 ≠ -1)) := okp_nat (by omega)
                      have ru := HR.out j (by omega)
                      obtain ⟨u, eu⟩ : ∃ u, Hid (hv.getD j 0 = u) := ⟨_, rfl⟩
                      rw [eu.out] at hx ru HK
                      have hf1 : wr.cell? ⟨bI, j, none⟩ = some (.bool (decide ((j : Int) ∈ S2))) := (hI.2 j (by omega)).1
                      by_cases cu : 0 ≤ u
                      · by_cases cj : (j : Int) ∈ S2
                        · rw [decide_eq_true cj] at hf1
                          have CJ : Hid ((j : Int) ∈ S2) := cj
                          clear cj
                          go_wp2
                          go_round
                          case rel => exact ⟨j + 1, hjl, by go_num, fun q hq ho => by
                            by_cases e : q = j
                            · subst e; exact CJ.out
                            · exact hall.out q (by omega) ho⟩
                          case measure => have := hjl; simp [intOf]; omega
                        · rw [decide_eq_false cj] at hf1
                          have HF : Hid (allIn hv S2 = false) := allIn_false (i := j) (by omega) (by rw [HK.out]; simp; omega) cj
                          clear cj
                          go_wp2
                          go_ret
                          exact ⟨ret_bool (by rw [HV.out, HF.out]), L0.trans (hbw.mono L0.size)⟩
                      · have hno : Hid (okp hv (j : Int) = false) := by show okp hv (j : Int) = false; rw [HK.out]; simp; omega
                        go_wp2
                        go_round
                        case rel => exact ⟨j + 1, hjl, by go_num, fun q hq ho => by
                          by_cases e : q = j
                          · subst e; rw [hno.out] at ho; cases ho
                          · exact hall.out q (by omega) ho⟩
                        case measure => have := hjl; simp [intOf]; omega
                    · obtain rfl : j = hv.length := by omega
                      have HT : Hid (allIn hv S2 = true) := allIn_true (fun q hq ho => hall.out q (by have := E7.out; omega) ho)
                      go_wp2
                      go_ret
                      exact ⟨ret_bool (by rw [HV.out, HT.out]), L0.trans (hbw.mono L0.size)⟩

end Go.Proofs.Ytokdhbegkbilbaa
