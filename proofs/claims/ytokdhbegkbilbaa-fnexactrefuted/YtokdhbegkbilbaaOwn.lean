/-
  The contract of spec.l2own: both rows of a state, laid anew, in whatever order Go lays them.
-/
import Derived.Test.YtokdhbegkbilbaaLaw
import Derived.Deep.RegionLawGrows
import Derived.Deep.RegionHeld3
namespace Go.Proofs.Ytokdhbegkbilbaa
open Go.RowKit

theorem step_fresh {ops : Array Oper} {o : Oper} {a : Act} {w : World} {K : Act → World → Prop} {Q : Exit → Act → World → Prop} {E : Prop}
    (hg : o.guard = none) (s x : Operand) (hop : o.op = Op.call { callee := Callee.builtin Builtin.append, args := #[s, x], argTypes := #[39, 39] })
    (Z b m c : Nat) (l : List Int) (hs : a.eval s = .slice (some ⟨Z, 0, none⟩) 0 0) (hx : a.eval x = .slice (some ⟨b, 0, none⟩) m c) (hl : l.length = m) (ho : OwnI w b m l m) (hm : m ≤ 1048576) (hp : 0 < m)
    (hK : ∀ b' c' w', w.heap.size ≤ b' → OwnI w' b' m l m → Below w.heap.size w w' → K (a.put o.dst (.slice (some ⟨b', 0, none⟩) m c')) w') :
    if Region.wanted o (yielded ops a.tmps) = true then Oper.wp Try.prog o a w K Q else E := by
  obtain ⟨i0, hi, hz0, hz1, hz2⟩ := Try.i3
  subst hl
  refine step_append_grows hg s x 39 hop 3 i0 (.int .i64 0) 1 8 Try.underlying39 hi hz0 hz1 hz2 rfl (by decide) (some ⟨Z, 0, none⟩) 0 0 [] hs (by intro h; cases h) rfl (by intro b h j u hu; cases hu) ⟨b, 0, none⟩ l.length c (ic l) hx (ic_length l) ho.news ic_one (by omega) (by unfold maxLen; omega) (by omega) ?_
  intro v' w' hown hgr
  rw [Nat.zero_add, List.nil_append] at hown
  obtain ⟨a', c', rfl, -, h0 | ⟨b', rfl, h1, h2, h3⟩⟩ := IntIn.ofOwns hown
  · omega
  · exact hK _ _ _ h1 h3 ((Below.refl _ _).grown hgr (Nat.le_refl _) (by intro k hk; cases hk))

/-- Block b holds two cells that may be written. -/
def Two (w : World) (b : Nat) : Prop := b < w.heap.size ∧ (∃ v, w.cell? ⟨b, 0, none⟩ = some v) ∧ (∃ v, w.cell? ⟨b, 1, none⟩ = some v) ∧ w.frozen? ⟨b, 0, none⟩ = false ∧ w.frozen? ⟨b, 1, none⟩ = false
theorem Two.keep {w w' : World} {b : Nat} (h : Two w b) (hb : Below w.heap.size w w') : Two w' b := by
  obtain ⟨h1, h2, h3, h4, h5⟩ := h
  refine ⟨Nat.lt_of_lt_of_le h1 hb.size, ?_, ?_, ?_, ?_⟩
  · rw [hb.cell (p := ⟨b, _, none⟩) h1]; exact h2
  · rw [hb.cell (p := ⟨b, _, none⟩) h1]; exact h3
  · rw [hb.frozen (p := ⟨b, _, none⟩) h1]; exact h4
  · rw [hb.frozen (p := ⟨b, _, none⟩) h1]; exact h5
theorem Two.set {w : World} {b : Nat} (h : Two w b) (i : Nat) (u : Value) : Two (w.setCell ⟨b, i, none⟩ u) b := by
  obtain ⟨h1, ⟨v, h2⟩, ⟨v', h3⟩, h4, h5⟩ := h
  exact ⟨by simpa using h1, ⟨_, cell_set h2⟩, ⟨_, cell_set h3⟩, by simpa using h4, by simpa using h5⟩
theorem Two.fill {w : World} {b : Nat} (h : Two w b) (y0 y1 : Value) :
    Box ((w.setCell ⟨b, 0, none⟩ y0).setCell ⟨b, 1, none⟩ y1) b y0 y1 ∧ Out b (b + 1) w ((w.setCell ⟨b, 0, none⟩ y0).setCell ⟨b, 1, none⟩ y1) := by
  obtain ⟨h1, ⟨v, h2⟩, ⟨v', h3⟩, h4, h5⟩ := h
  have B : Box w b v v' := ⟨h1, h2, h3, h4, h5⟩
  exact ⟨(B.set0 y0).set1 y1, (Out.set b 0 w y0).trans (Out.set b 1 _ y1)⟩

theorem own_of {w W : World} {b n k : Nat} {l : List Int} {R : Prop} (o : OwnI w b n l k) (h : Below w.heap.size w W ∧ R) : OwnI W b n l k := o.below h.1 o.1
theorem lo_ge {w W : World} {R : Prop} (h : Below w.heap.size w W ∧ Two W (w.heap.size + 1) ∧ R) : w.heap.size + 2 ≤ W.heap.size := h.2.1.1

theorem keep6 {w W u : World} {v0 v1 : Value} (h : Below w.heap.size w W ∧ Two W (w.heap.size + 1) ∧ W.cell? ⟨w.heap.size, 0, none⟩ = some v0 ∧ W.cell? ⟨w.heap.size, 1, none⟩ = some v1) (hb : Below W.heap.size W u) : Below w.heap.size w u ∧ Two u (w.heap.size + 1) ∧ u.cell? ⟨w.heap.size, 0, none⟩ = some v0 ∧ u.cell? ⟨w.heap.size, 1, none⟩ = some v1 := by
  obtain ⟨h0, h5, h1, h2⟩ := h
  have z := World.block_lt_of_cell? _ _ h1
  exact ⟨h0.trans (hb.mono h0.size), h5.keep hb, by rw [hb.cell (p := ⟨w.heap.size, 0, none⟩) z]; exact h1, by rw [hb.cell (p := ⟨w.heap.size, 1, none⟩) z]; exact h2⟩

theorem keep6_alloc {w W : World} {v0 v1 : Value} (o : Obj) (h : Below w.heap.size w W ∧ Two W (w.heap.size + 1) ∧ W.cell? ⟨w.heap.size, 0, none⟩ = some v0 ∧ W.cell? ⟨w.heap.size, 1, none⟩ = some v1) : Below w.heap.size w (W.alloc o) ∧ Two (W.alloc o) (w.heap.size + 1) ∧ (W.alloc o).cell? ⟨w.heap.size, 0, none⟩ = some v0 ∧ (W.alloc o).cell? ⟨w.heap.size, 1, none⟩ = some v1 := keep6 h ((Below.refl _ _).alloc (Nat.le_refl _) o)
theorem keep6_ad {w W : World} {v0 v1 : Value} (o : Obj) (h : Below w.heap.size w W.drew ∧ Two W.drew (w.heap.size + 1) ∧ W.drew.cell? ⟨w.heap.size, 0, none⟩ = some v0 ∧ W.drew.cell? ⟨w.heap.size, 1, none⟩ = some v1) : Below w.heap.size w (W.alloc o).drew ∧ Two (W.alloc o).drew (w.heap.size + 1) ∧ (W.alloc o).drew.cell? ⟨w.heap.size, 0, none⟩ = some v0 ∧ (W.alloc o).drew.cell? ⟨w.heap.size, 1, none⟩ = some v1 := keep6_alloc o h

theorem keep6_store {w W : World} {v0 v1 : Value} (y0 y1 : Value) (h : Below w.heap.size w W ∧ Two W (w.heap.size + 1) ∧ W.cell? ⟨w.heap.size, 0, none⟩ = some v0 ∧ W.cell? ⟨w.heap.size, 1, none⟩ = some v1) : Below w.heap.size w ((W.setCell ⟨w.heap.size + 1, 0, none⟩ y0).setCell ⟨w.heap.size + 1, 1, none⟩ y1) ∧ Two ((W.setCell ⟨w.heap.size + 1, 0, none⟩ y0).setCell ⟨w.heap.size + 1, 1, none⟩ y1) (w.heap.size + 1) ∧ ((W.setCell ⟨w.heap.size + 1, 0, none⟩ y0).setCell ⟨w.heap.size + 1, 1, none⟩ y1).cell? ⟨w.heap.size, 0, none⟩ = some v0 ∧ ((W.setCell ⟨w.heap.size + 1, 0, none⟩ y0).setCell ⟨w.heap.size + 1, 1, none⟩ y1).cell? ⟨w.heap.size, 1, none⟩ = some v1 := by
  obtain ⟨h0, h5, h1, h2⟩ := h
  have key : ∀ (V : World) (i o : Nat) (u : Value), (V.setCell ⟨w.heap.size + 1, i, none⟩ u).cell? ⟨w.heap.size, o, none⟩ = V.cell? ⟨w.heap.size, o, none⟩ := fun V i o u => World.cell?_setCell_other _ _ _ _ (by intro e; injection e with e1; omega)
  refine ⟨Below.set (Below.set h0 _ _ (by omega) _) _ _ (by omega) _, (h5.set _ _).set _ _, ?_, ?_⟩
  all_goals (rw [key, key]; assumption)

set_option maxHeartbeats 4000000 in
theorem l2own_any (b0 b1 c0 c1 : Nat) (l0 l1 : List Int) (w : World) (n0 : l0.length ≤ 1048576) (n1 : l1.length ≤ 1048576) (p0 : 0 < l0.length) (p1 : 0 < l1.length) (o0 : OwnI w b0 l0.length l0 l0.length) (o1 : OwnI w b1 l1.length l1 l1.length) :
    Calls Try.prog 105 #[.agg #[.slice (some ⟨b0, 0, none⟩) l0.length c0, .slice (some ⟨b1, 0, none⟩) l1.length c1]] w fun e w' => ∃ d0 d1 q0 q1,
      e = .returned (.agg #[.slice (some ⟨d0, 0, none⟩) l0.length q0, .slice (some ⟨d1, 0, none⟩) l1.length q1]) ∧ w.heap.size ≤ d0 ∧ d0 < d1 ∧ OwnI w' d0 l0.length l0 l0.length ∧ OwnI w' d1 l1.length l1 l1.length ∧ Below w.heap.size w w' := by
  have B0 := (Box.new w (.slice (some ⟨b0, 0, none⟩) l0.length c0) (.slice (some ⟨b1, 0, none⟩) l1.length c1) 44).alloc (.cells #[.slice none 0 0, .slice none 0 0] 44)
  have R0 := Box.new (w.alloc (.cells #[.slice (some ⟨b0, 0, none⟩) l0.length c0, .slice (some ⟨b1, 0, none⟩) l1.length c1] 44)) (.slice none 0 0) (.slice none 0 0) 44
  have L0 : Below w.heap.size w ((w.alloc (.cells #[.slice (some ⟨b0, 0, none⟩) l0.length c0, .slice (some ⟨b1, 0, none⟩) l1.length c1] 44)).alloc (.cells #[.slice none 0 0, .slice none 0 0] 44)) := ((Below.refl _ _).alloc (Nat.le_refl _) _).alloc (by simp) _
  rw [World.size_alloc] at R0
  go_enter Try.func105, Try.ntmps105
  go_wp2
  generalize (w.alloc (.cells #[.slice (some ⟨b0, 0, none⟩) l0.length c0, .slice (some ⟨b1, 0, none⟩) l1.length c1] 44)).alloc (.cells #[.slice none 0 0, .slice none 0 0] 44) = W0 at *
  have hS0 : Below w.heap.size w W0.drew ∧ Two W0.drew (w.heap.size + 1) ∧ W0.drew.cell? ⟨w.heap.size, 0, none⟩ = some (.slice (some ⟨b0, 0, none⟩) l0.length c0) ∧ W0.drew.cell? ⟨w.heap.size, 1, none⟩ = some (.slice (some ⟨b1, 0, none⟩) l1.length c1) := ⟨L0.drew, ⟨R0.lt, ⟨_, R0.c0⟩, ⟨_, R0.c1⟩, R0.f0, R0.f1⟩, B0.c0, B0.c1⟩
  clear R0 B0
  go_region_held3 (fun w' => Below w.heap.size w w' ∧ Two w' (w.heap.size + 1) ∧ w'.cell? ⟨w.heap.size, 0, none⟩ = some (.slice (some ⟨b0, 0, none⟩) l0.length c0) ∧ w'.cell? ⟨w.heap.size, 1, none⟩ = some (.slice (some ⟨b1, 0, none⟩) l1.length c1))
    (first | exact hS0 | assumption | (refine keep6_ad _ ?_; first | assumption | (refine ⟨?_, ?_, ?_, ?_⟩ <;> assumption)) | (refine keep6_alloc _ ?_; first | assumption | (refine ⟨?_, ?_, ?_, ?_⟩ <;> assumption)) | (refine keep6_store _ _ ?_; first | assumption | (refine ⟨?_, ?_, ?_, ?_⟩ <;> assumption)) | (refine ⟨?_, ?_, ?_, ?_⟩ <;> assumption))
    (first | (refine step_fresh (by rfl) _ _ (by rfl) _ b0 l0.length c0 l0 (by rfl) (by rfl) rfl (own_of o0 (by assumption)) n0 p0 ?_; rintro a0 e0 u0 g0 t0 h0; replace g0 := Nat.le_trans (lo_ge (by assumption)) g0; have k0 := keep6 (by assumption) h0) | (refine step_fresh (by rfl) _ _ (by rfl) _ b1 l1.length c1 l1 (by rfl) (by rfl) rfl (own_of o1 (by assumption)) n1 p1 ?_; rintro a1 e1 u1 g1 t1 h1; have gq := g1; replace g1 := Nat.le_trans (lo_ge (by assumption)) g1; have k1 := keep6 (by assumption) h1; have gg := Nat.lt_of_lt_of_le (t0.below (by (first | exact Below.refl _ _ | exact (Below.refl _ _).alloc (Nat.le_refl _) _ | exact ((Below.refl _ _).alloc (Nat.le_refl _) _).alloc (by simp) _)) t0.1).1 gq; replace t0 := (t0.keep (by (first | exact Below.refl _ _ | exact (Below.refl _ _).alloc (Nat.le_refl _) _ | exact ((Below.refl _ _).alloc (Nat.le_refl _) _).alloc (by simp) _))).keep h1; obtain ⟨x0, hx0⟩ := k1.2.1.2.1; obtain ⟨x1, hx1⟩ := k1.2.1.2.2.1; have f0 := k1.2.1.2.2.2.1; have f1 := k1.2.1.2.2.2.2))
  all_goals
    obtain ⟨F, FO⟩ := k1.2.1.fill (.slice (some ⟨a0, 0, none⟩) l0.length e0) (.slice (some ⟨a1, 0, none⟩) l1.length e1)
    have hB := k1.1
    clear k0 k1 h0 h1 hS0
    go_wp2
    have i0 := F.c0; have i1 := F.c1
    refine bodyPost_ret (v := .agg #[.slice (some ⟨a0, 0, none⟩) l0.length e0, .slice (some ⟨a1, 0, none⟩) l1.length e1]) ?_ rfl ⟨a0, a1, e0, e1, rfl, by omega, gg, ?_, ?_, ?_⟩
    · simp [results, Try.results105, go_sem, i0, i1]
    · exact t0.out FO (by omega)
    · exact t1.out FO (by omega)
    · exact hB.trans (FO.below (by omega) hB.size)

end Go.Proofs.Ytokdhbegkbilbaa
