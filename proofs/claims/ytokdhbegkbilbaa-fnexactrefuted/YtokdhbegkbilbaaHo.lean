/-
  Where an assertion holds: plain functions for it, and the contracts of spec.l2claim and impl.pureHolds.
-/
import Derived.Test.YtokdhbegkbilbaaSo
import Derived.Test.YtokdhbegkbilbaaQOkI
namespace Go.Proofs.Ytokdhbegkbilbaa
open Go.RowKit Go.Maps

def tv (t : List Int) (x : Int) : Int := t.getD x.toNat 0
def eqsB (t : List Int) (l : List (Int × Int)) : Bool := l.all fun p => decide (tv t p.1 = tv t p.2)
def nesB (t : List Int) (l : List (Int × Int)) : Bool := l.all fun p => !decide (tv t p.1 = tv t p.2)

theorem pall_true {q : Int × Int → Bool} {l : List (Int × Int)} (h : ∀ i, i < l.length → q (l.getD i (0, 0)) = true) : l.all q = true := by
  rw [List.all_eq_true]
  intro x hx
  obtain ⟨i, hi, rfl⟩ := List.getElem_of_mem hx
  simpa [hi] using h i hi
theorem pall_false {q : Int × Int → Bool} {l : List (Int × Int)} {i : Nat} (hi : i < l.length) (h : q (l.getD i (0, 0)) = false) : l.all q = false := by
  rw [List.all_eq_false]
  refine ⟨l[i], List.getElem_mem hi, ?_⟩
  simp [hi] at h
  simp [h]
theorem toks_at {l : List (Int × Int)} (h : Q.toks l = true) {i : Nat} (hi : i < l.length) : (0 ≤ (l.getD i (0, 0)).1 ∧ (l.getD i (0, 0)).1 < 16) ∧ 0 ≤ (l.getD i (0, 0)).2 ∧ (l.getD i (0, 0)).2 < 16 := by
  unfold Q.toks at h
  rw [List.all_eq_true] at h
  have := h l[i] (List.getElem_mem hi)
  simpa [hi, Q.tok] using this

theorem cell_keep {W u : World} {a : Addr} {v : Value} (h : W.cell? a = some v) (hb : Below W.heap.size W u) : u.cell? a = some v := by
  rw [hb.cell (World.block_lt_of_cell? _ _ h)]; exact h

set_option maxHeartbeats 1000000 in
theorem pureHolds_any (b0 b1 c0 c1 : Nat) (t hv : List Int) (e0 e1 e2 e3 f0 f1 f2 f3 : Nat) (l0 l1 l2 l3 : List (Int × Int)) (w : World) (ht : t.length = 16) (m0 : l0.length ≤ 12) (m1 : l1.length ≤ 12) (k0 : Q.toks l0 = true) (k1 : Q.toks l1 = true) (o0 : OwnI w b0 t.length t t.length) (o1 : OwnI w b1 hv.length hv hv.length) (p0 : Q.Own w e0 l0.length l0 l0.length) (p1 : Q.Own w e1 l1.length l1 l1.length) (p2 : Q.Own w e2 l2.length l2 l2.length) (p3 : Q.Own w e3 l3.length l3 l3.length) :
    Calls Try.prog 101 #[.agg #[.slice (some ⟨b0, 0, none⟩) t.length c0, .slice (some ⟨b1, 0, none⟩) hv.length c1], .agg #[.slice (some ⟨e0, 0, none⟩) l0.length f0, .slice (some ⟨e1, 0, none⟩) l1.length f1, .slice (some ⟨e2, 0, none⟩) l2.length f2, .slice (some ⟨e3, 0, none⟩) l3.length f3]] w fun e w' => e = .returned (.bool (eqsB t l0 && nesB t l1)) ∧ Below w.heap.size w w' := by
  have B0 := (Box.new w (.slice (some ⟨b0, 0, none⟩) t.length c0) (.slice (some ⟨b1, 0, none⟩) hv.length c1) 44).alloc (.cells #[.slice (some ⟨e0, 0, none⟩) l0.length f0, .slice (some ⟨e1, 0, none⟩) l1.length f1, .slice (some ⟨e2, 0, none⟩) l2.length f2, .slice (some ⟨e3, 0, none⟩) l3.length f3] 28)
  have A0 := Q.Box.new (w.alloc (.cells #[.slice (some ⟨b0, 0, none⟩) t.length c0, .slice (some ⟨b1, 0, none⟩) hv.length c1] 44)) (.slice (some ⟨e0, 0, none⟩) l0.length f0) (.slice (some ⟨e1, 0, none⟩) l1.length f1) (.slice (some ⟨e2, 0, none⟩) l2.length f2) (.slice (some ⟨e3, 0, none⟩) l3.length f3) 28
  rw [World.size_alloc] at A0
  have L0 : Below w.heap.size w ((w.alloc (.cells #[.slice (some ⟨b0, 0, none⟩) t.length c0, .slice (some ⟨b1, 0, none⟩) hv.length c1] 44)).alloc (.cells #[.slice (some ⟨e0, 0, none⟩) l0.length f0, .slice (some ⟨e1, 0, none⟩) l1.length f1, .slice (some ⟨e2, 0, none⟩) l2.length f2, .slice (some ⟨e3, 0, none⟩) l3.length f3] 28)) := ((Below.refl _ _).alloc (Nat.le_refl _) _).alloc (by simp) _
  replace o0 := o0.keep L0; replace o1 := o1.keep L0; replace p0 := p0.below L0 p0.1; replace p1 := p1.below L0 p1.1; replace p2 := p2.below L0 p2.1; replace p3 := p3.below L0 p3.1
  have E16 : Hid (t.length = 16) := ht
  have K0 : Hid (Q.toks l0 = true) := k0
  have K1 : Hid (Q.toks l1 = true) := k1
  have HF0 : Hid (∀ i, i < l0.length → decide (tv t (l0.getD i (0, 0)).1 = tv t (l0.getD i (0, 0)).2) = false → eqsB t l0 = false) := fun i hi h => pall_false hi h
  have HT0 : Hid ((∀ i, i < l0.length → decide (tv t (l0.getD i (0, 0)).1 = tv t (l0.getD i (0, 0)).2) = true) → eqsB t l0 = true) := fun h => pall_true h
  have HF1 : Hid (∀ i, i < l1.length → decide (tv t (l1.getD i (0, 0)).1 = tv t (l1.getD i (0, 0)).2) = true → nesB t l1 = false) := fun i hi h => pall_false hi (by rw [h]; rfl)
  have HT1 : Hid ((∀ i, i < l1.length → decide (tv t (l1.getD i (0, 0)).1 = tv t (l1.getD i (0, 0)).2) = false) → nesB t l1 = true) := fun h => pall_true (fun i hi => by rw [h i hi]; rfl)
  clear ht k0 k1
  generalize eqsB t l0 = r0 at *
  generalize nesB t l1 = r1 at *
  have bl := B0.lt; have al := A0.lt
  go_enter Try.func101, Try.ntmps101
  go_wp2
  generalize ((w.alloc (.cells #[.slice (some ⟨b0, 0, none⟩) t.length c0, .slice (some ⟨b1, 0, none⟩) hv.length c1] 44)).alloc (.cells #[.slice (some ⟨e0, 0, none⟩) l0.length f0, .slice (some ⟨e1, 0, none⟩) l1.length f1, .slice (some ⟨e2, 0, none⟩) l2.length f2, .slice (some ⟨e3, 0, none⟩) l3.length f3] 28)) = W0 at *
  have LL := L0
  have LLs := L0.size
  go_loopw [6, 12] (fun _ i wr => ∃ k : Nat, k ≤ l0.length ∧ i = .int .i64 k ∧ Below W0.heap.size W0 wr ∧ Hid (∀ j, j < k → decide (tv t (l0.getD j (0, 0)).1 = tv t (l0.getD j (0, 0)).2) = true)) (fun _ i _ => l0.length - (intOf i).toNat)
  case atStart => exact ⟨0, by omega, rfl, Below.refl _ _, fun j hj => by omega⟩
  case round =>
    obtain ⟨k, hk, rfl, hbw, hall⟩ := hrel
    by_cases hlt : k < l0.length
    · have hki : (k : Int) < (l0.length : Int) := by omega
      obtain ⟨hr1, hr2⟩ := toks_at K0.out hlt
      have q1 := (p0.2.2 k hlt).1
      have q2 := (p0.2.2 k hlt).2
      obtain ⟨x, ex⟩ : ∃ x : Nat, Hid ((l0.getD k (0, 0)).1 = x) := ⟨(l0.getD k (0, 0)).1.toNat, by show _ = _; omega⟩
      obtain ⟨y, ey⟩ : ∃ y : Nat, Hid ((l0.getD k (0, 0)).2 = y) := ⟨(l0.getD k (0, 0)).2.toNat, by show _ = _; omega⟩
      rw [ex.out] at q1 hr1
      rw [ey.out] at q2 hr2
      have q3 := o0.2.2 x (by have := E16.out; omega)
      have q4 := o0.2.2 y (by have := E16.out; omega)
      obtain ⟨u, eu⟩ : ∃ u, Hid (t.getD x 0 = u) := ⟨_, rfl⟩
      obtain ⟨v, ev⟩ : ∃ v, Hid (t.getD y 0 = v) := ⟨_, rfl⟩
      rw [eu.out] at q3
      rw [ev.out] at q4
      have hx16 : (x : Int) < (t.length : Int) := by have := E16.out; omega
      have hy16 : (y : Int) < (t.length : Int) := by have := E16.out; omega
      have HUV : Hid (decide (tv t (l0.getD k (0, 0)).1 = tv t (l0.getD k (0, 0)).2) = decide (u = v)) := by
        show decide _ = decide _
        rw [ex.out, ey.out]
        unfold tv
        rw [Int.toNat_natCast, Int.toNat_natCast, eu.out, ev.out]
      replace q1 := cell_keep q1 hbw; replace q2 := cell_keep q2 hbw; replace q3 := cell_keep q3 hbw; replace q4 := cell_keep q4 hbw
      have z0 := cell_keep B0.c0 hbw
      have hb1 := hbw.alloc hbw.size (.cells #[.int .i64 x, .int .i64 y] 84)
      have pb := (Below.refl wr.heap.size wr).alloc (Nat.le_refl _) (.cells #[.int .i64 x, .int .i64 y] 84)
      have n0 : (wr.alloc (.cells #[.int .i64 (x : Int), .int .i64 (y : Int)] 84)).cell? ⟨wr.heap.size, 0, none⟩ = some (.int .i64 x) := by simp
      have n1 : (wr.alloc (.cells #[.int .i64 (x : Int), .int .i64 (y : Int)] 84)).cell? ⟨wr.heap.size, 1, none⟩ = some (.int .i64 y) := by simp
      go_wp2
      clear q1 q2
      replace q3 := cell_keep q3 pb; replace q4 := cell_keep q4 pb; replace z0 := cell_keep z0 pb
      clear pb
      generalize (wr.alloc (.cells #[.int .i64 (x : Int), .int .i64 (y : Int)] 84)) = W1 at *
      generalize wr.heap.size = bP at *
      by_cases cuv : u = v
      · have hS0 : W1.drew.cell? ⟨w.heap.size, 0, none⟩ = some (.slice (some ⟨b0, 0, none⟩) t.length c0) ∧ W1.drew.cell? ⟨bP, 0, none⟩ = some (.int .i64 (x : Int)) ∧ W1.drew.cell? ⟨bP, 1, none⟩ = some (.int .i64 (y : Int)) ∧ W1.drew.cell? ⟨b0, x, none⟩ = some (.int .i64 u) ∧ W1.drew.cell? ⟨b0, y, none⟩ = some (.int .i64 v) := ⟨z0, n0, n1, q3, q4⟩
        have hb2 := hb1.drew
        clear z0 n0 n1 q3 q4 hb1
        go_region_held3 (fun W => W.cell? ⟨w.heap.size, 0, none⟩ = some (.slice (some ⟨b0, 0, none⟩) t.length c0) ∧ W.cell? ⟨bP, 0, none⟩ = some (.int .i64 (x : Int)) ∧ W.cell? ⟨bP, 1, none⟩ = some (.int .i64 (y : Int)) ∧ W.cell? ⟨b0, x, none⟩ = some (.int .i64 u) ∧ W.cell? ⟨b0, y, none⟩ = some (.int .i64 v))
          (first | exact hS0 | assumption | (refine ⟨?_, ?_, ?_, ?_, ?_⟩ <;> assumption))
          (fail)
        all_goals
          go_wp2
          go_roundw
          case rel => exact ⟨k + 1, hlt, by go_num, hb2, fun j hj => by
            by_cases e : j = k
            · subst e; rw [HUV.out]; exact decide_eq_true cuv
            · exact hall.out j (by omega)⟩
          case measure => have := hlt; simp [intOf]; omega
      · have hS0 : W1.drew.cell? ⟨w.heap.size, 0, none⟩ = some (.slice (some ⟨b0, 0, none⟩) t.length c0) ∧ W1.drew.cell? ⟨bP, 0, none⟩ = some (.int .i64 (x : Int)) ∧ W1.drew.cell? ⟨bP, 1, none⟩ = some (.int .i64 (y : Int)) ∧ W1.drew.cell? ⟨b0, x, none⟩ = some (.int .i64 u) ∧ W1.drew.cell? ⟨b0, y, none⟩ = some (.int .i64 v) := ⟨z0, n0, n1, q3, q4⟩
        have hb2 := hb1.drew
        clear z0 n0 n1 q3 q4 hb1
        go_region_held3 (fun W => W.cell? ⟨w.heap.size, 0, none⟩ = some (.slice (some ⟨b0, 0, none⟩) t.length c0) ∧ W.cell? ⟨bP, 0, none⟩ = some (.int .i64 (x : Int)) ∧ W.cell? ⟨bP, 1, none⟩ = some (.int .i64 (y : Int)) ∧ W.cell? ⟨b0, x, none⟩ = some (.int .i64 u) ∧ W.cell? ⟨b0, y, none⟩ = some (.int .i64 v))
          (first | exact hS0 | assumption | (refine ⟨?_, ?_, ?_, ?_, ?_⟩ <;> assumption))
          (fail)
        all_goals
          go_wp2
          go_ret
          exact ⟨ret_bool (by rw [HF0.out k hlt (by rw [HUV.out]; exact decide_eq_false cuv)]; rfl), LL.trans (hb2.mono LLs)⟩
    · obtain rfl : k = l0.length := by omega
      have E0 : r0 = true := HT0.out hall.out
      subst E0
      have z1 := cell_keep A0.c1 hbw
      go_wp2
      clear z1
      have hbs := hbw
      clear hall
      go_loopw [8, 33] (fun _ i wr => ∃ k : Nat, k ≤ l1.length ∧ i = .int .i64 k ∧ Below W0.heap.size W0 wr ∧ Hid (∀ j, j < k → decide (tv t (l1.getD j (0, 0)).1 = tv t (l1.getD j (0, 0)).2) = false)) (fun _ i _ => l1.length - (intOf i).toNat)
      case atStart => exact ⟨0, by omega, rfl, hbw, fun j hj => by omega⟩
      case round =>
        clear hbw
        obtain ⟨k, hk, rfl, hbw, hall⟩ := hrel
        by_cases hlt : k < l1.length
        · have hki : (k : Int) < (l1.length : Int) := by omega
          obtain ⟨hr1, hr2⟩ := toks_at K1.out hlt
          have q1 := (p1.2.2 k hlt).1
          have q2 := (p1.2.2 k hlt).2
          obtain ⟨x, ex⟩ : ∃ x : Nat, Hid ((l1.getD k (0, 0)).1 = x) := ⟨(l1.getD k (0, 0)).1.toNat, by show _ = _; omega⟩
          obtain ⟨y, ey⟩ : ∃ y : Nat, Hid ((l1.getD k (0, 0)).2 = y) := ⟨(l1.getD k (0, 0)).2.toNat, by show _ = _; omega⟩
          rw [ex.out] at q1 hr1
          rw [ey.out] at q2 hr2
          have q3 := o0.2.2 x (by have := E16.out; omega)
          have q4 := o0.2.2 y (by have := E16.out; omega)
          obtain ⟨u, eu⟩ : ∃ u, Hid (t.getD x 0 = u) := ⟨_, rfl⟩
          obtain ⟨v, ev⟩ : ∃ v, Hid (t.getD y 0 = v) := ⟨_, rfl⟩
          rw [eu.out] at q3
          rw [ev.out] at q4
          have hx16 : (x : Int) < (t.length : Int) := by have := E16.out; omega
          have hy16 : (y : Int) < (t.length : Int) := by have := E16.out; omega
          have HUV : Hid (decide (tv t (l1.getD k (0, 0)).1 = tv t (l1.getD k (0, 0)).2) = decide (u = v)) := by
            show decide _ = decide _
            rw [ex.out, ey.out]
            unfold tv
            rw [Int.toNat_natCast, Int.toNat_natCast, eu.out, ev.out]
          replace q1 := cell_keep q1 hbw; replace q2 := cell_keep q2 hbw; replace q3 := cell_keep q3 hbw; replace q4 := cell_keep q4 hbw
          have z0 := cell_keep B0.c0 hbw
          have hb1 := hbw.alloc hbw.size (.cells #[.int .i64 x, .int .i64 y] 84)
          have pb := (Below.refl wr.heap.size wr).alloc (Nat.le_refl _) (.cells #[.int .i64 x, .int .i64 y] 84)
          have n0 : (wr.alloc (.cells #[.int .i64 (x : Int), .int .i64 (y : Int)] 84)).cell? ⟨wr.heap.size, 0, none⟩ = some (.int .i64 x) := by simp
          have n1 : (wr.alloc (.cells #[.int .i64 (x : Int), .int .i64 (y : Int)] 84)).cell? ⟨wr.heap.size, 1, none⟩ = some (.int .i64 y) := by simp
          go_wp2
          clear q1 q2
          replace q3 := cell_keep q3 pb; replace q4 := cell_keep q4 pb; replace z0 := cell_keep z0 pb
          clear pb
          generalize (wr.alloc (.cells #[.int .i64 (x : Int), .int .i64 (y : Int)] 84)) = W1 at *
          generalize wr.heap.size = bP at *
          by_cases cuv : u = v
          · have hS0 : W1.drew.cell? ⟨w.heap.size, 0, none⟩ = some (.slice (some ⟨b0, 0, none⟩) t.length c0) ∧ W1.drew.cell? ⟨bP, 0, none⟩ = some (.int .i64 (x : Int)) ∧ W1.drew.cell? ⟨bP, 1, none⟩ = some (.int .i64 (y : Int)) ∧ W1.drew.cell? ⟨b0, x, none⟩ = some (.int .i64 u) ∧ W1.drew.cell? ⟨b0, y, none⟩ = some (.int .i64 v) := ⟨z0, n0, n1, q3, q4⟩
            have hb2 := hb1.drew
            clear z0 n0 n1 q3 q4 hb1
            go_region_held3 (fun W => W.cell? ⟨w.heap.size, 0, none⟩ = some (.slice (some ⟨b0, 0, none⟩) t.length c0) ∧ W.cell? ⟨bP, 0, none⟩ = some (.int .i64 (x : Int)) ∧ W.cell? ⟨bP, 1, none⟩ = some (.int .i64 (y : Int)) ∧ W.cell? ⟨b0, x, none⟩ = some (.int .i64 u) ∧ W.cell? ⟨b0, y, none⟩ = some (.int .i64 v))
              (first | exact hS0 | assumption | (refine ⟨?_, ?_, ?_, ?_, ?_⟩ <;> assumption))
              (fail)
            all_goals
              go_wp2
              go_ret
              exact ⟨ret_bool (by rw [HF1.out k hlt (by rw [HUV.out]; exact decide_eq_true cuv)]; simp), LL.trans (hb2.mono LLs)⟩
          · have hS0 : W1.drew.cell? ⟨w.heap.size, 0, none⟩ = some (.slice (some ⟨b0, 0, none⟩) t.length c0) ∧ W1.drew.cell? ⟨bP, 0, none⟩ = some (.int .i64 (x : Int)) ∧ W1.drew.cell? ⟨bP, 1, none⟩ = some (.int .i64 (y : Int)) ∧ W1.drew.cell? ⟨b0, x, none⟩ = some (.int .i64 u) ∧ W1.drew.cell? ⟨b0, y, none⟩ = some (.int .i64 v) := ⟨z0, n0, n1, q3, q4⟩
            have hb2 := hb1.drew
            clear z0 n0 n1 q3 q4 hb1
            go_region_held3 (fun W => W.cell? ⟨w.heap.size, 0, none⟩ = some (.slice (some ⟨b0, 0, none⟩) t.length c0) ∧ W.cell? ⟨bP, 0, none⟩ = some (.int .i64 (x : Int)) ∧ W.cell? ⟨bP, 1, none⟩ = some (.int .i64 (y : Int)) ∧ W.cell? ⟨b0, x, none⟩ = some (.int .i64 u) ∧ W.cell? ⟨b0, y, none⟩ = some (.int .i64 v))
              (first | exact hS0 | assumption | (refine ⟨?_, ?_, ?_, ?_, ?_⟩ <;> assumption))
              (fail)
            all_goals
              go_wp2
              go_roundw
              case rel => exact ⟨k + 1, hlt, by go_num, hb2, fun j hj => by
                by_cases e : j = k
                · subst e; rw [HUV.out]; exact decide_eq_false cuv
                · exact hall.out j (by omega)⟩
              case measure => have := hlt; simp [intOf]; omega
        · obtain rfl : k = l1.length := by omega
          go_wp2
          go_ret
          exact ⟨ret_bool (by rw [HT1.out hall.out]; rfl), LL.trans (hbw.mono LLs)⟩

end Go.Proofs.Ytokdhbegkbilbaa
