/-
  The contract of spec.l1sorted.
-/
import Derived.Test.YtfplloabkceaoaaWt0
import Derived.Test.YtfplloabkceaoaaInF
import Derived.Deep.RegionLaw
import Derived.Deep.AppendSrc
namespace Go.Proofs.Ytfplloabkceaoaa
open Go.RowKit
set_option linter.unusedVariables false

/-- At a step of a region that draws its order: an append whose run is known. -/
theorem step_append_run {ops : Array Oper} {o : Oper} {a : Act} {w : World} {K : Act → World → Prop} {Q : Exit → Act → World → Prop} {E : Prop}
    (hg : o.guard = none) (s x : Operand) (t : TypeId) (hop : o.op = Op.call { callee := Callee.builtin Builtin.append, args := #[s, x], argTypes := #[t, t] })
    (v y v' : Value) (w' : World) (hs : a.eval s = v) (hx : a.eval x = y) (hrun : (Builtin.append_ #[t, t] o.type #[v, y]).run Try.prog w = .ok v' w') (hK : K (a.put o.dst v') w') :
    if Region.wanted o (yielded ops a.tmps) = true then Oper.wp Try.prog o a w K Q else E := by
  have hw : Region.wanted o (yielded ops a.tmps) = true := by simp [Region.wanted, hg]
  rw [if_pos hw]
  unfold Oper.wp
  simp [execOp, hop, resolve, invoke, builtin, hs, hx, hrun, Result.andThen]
  exact hK

theorem owns_take {w : World} {base g k c : Nat} {l : List (Int × Int)} (h : w.ownsRow base 69 2 (.slice (some ⟨g, 0, none⟩) k c) k (pc l)) {p : Nat} (hp : p ≤ k) :
    w.ownsRow base 69 2 (.slice (some ⟨g, 0, none⟩) p c) p (pc (l.take p)) := by
  have hl : l.length = k := by have := h.1; rw [pc_length] at this; omega
  obtain ⟨h1, h2 | ⟨g', cap, cur, e1, e2, e3, e4, e5, e6, e7⟩⟩ := h
  · cases h2.1
  · injection e1 with e0 _ e8; injection e0 with e0; injection e0 with e0; subst e0; subst e8
    refine ⟨by rw [pc_length, List.length_take]; omega, .inr ⟨g, c, cur, rfl, e2, e3, by omega, e5, e6, ?_⟩⟩
    have e9 : pc (l.take p) = (pc l).take (p * 2) := by
      conv => rhs; rw [← List.take_append_drop p l]
      rw [pc_append]
      have : p * 2 = (pc (l.take p)).length := by rw [pc_length, List.length_take]; omega
      rw [this, List.take_left]
    rw [e9, ← e7, List.take_take, Nat.min_eq_left (by omega)]

/-- Both appends by which a pair goes among others, where there are some. -/
theorem ins_run (w : World) (base g k c p : Nat) (l : List (Int × Int)) (x : Int × Int) (h : w.ownsRow base 69 2 (.slice (some ⟨g, 0, none⟩) k c) k (pc l)) (hp : p ≤ k) (hk : k ≤ 4096) (hb : base ≤ w.heap.size) :
    ∃ a1 c1 w2 v3 w3, (Builtin.append_ #[26, 26] 26 #[.slice (some ⟨w.heap.size, 0, none⟩) 1 1, .slice (some (dropA g 0 c p)) (k - p) (c - p)]).run Try.prog (w.alloc (.cells #[.int .i64 x.1, .int .i64 x.2] 69)) = .ok (.slice (some ⟨a1, 0, none⟩) (1 + (k - p)) c1) w2 ∧
      (Builtin.append_ #[26, 26] 26 #[.slice (some ⟨g, 0, none⟩) p c, .slice (some ⟨a1, 0, none⟩) (1 + (k - p)) c1]).run Try.prog w2 = .ok v3 w3 ∧
      w3.ownsRow base 69 2 v3 (k + 1) (pc (l.take p ++ x :: l.drop p)) ∧ Below base w w3 := by
  obtain ⟨i0, hi, hz0, hz1, hz2⟩ := Try.i57
  have hl : l.length = k := by have := h.1; rw [pc_length] at this; omega
  have hgb := h.lt g rfl
  have L1 : Below w.heap.size w (w.alloc (.cells #[.int .i64 x.1, .int .i64 x.2] 69)) := (Below.refl _ _).alloc (Nat.le_refl _) _
  have hown1 : (w.alloc (.cells #[.int .i64 x.1, .int .i64 x.2] 69)).ownsRow w.heap.size 69 2 (.slice (some ⟨w.heap.size, 0, none⟩) 1 1) 1 (pc [x]) :=
    ⟨rfl, .inr ⟨w.heap.size, 1, #[.int .i64 x.1, .int .i64 x.2], rfl, Nat.le_refl _, heap_alloc_new w _, Nat.le_refl _, by decide, rfl, rfl⟩⟩
  have hrow : PRow w (some ⟨g, 0, none⟩) l := by
    obtain ⟨e1, e2, e3⟩ := Own.ofOwns h
    rw [← e1] at e3
    exact e3.row
  have hcap : k ≤ c := by
    rcases h.2 with ⟨e, _⟩ | ⟨g', cap, cur, e, _, _, e4, _⟩
    · cases e
    · injection e with _ _ e; omega
  have hdrop := (drop_row (c := c) hrow p (by omega)).below L1 (Nat.le_refl _)
  obtain ⟨v1, w2, r1, o1, g1, n1⟩ := run_append_own (P := Try.prog) (w.alloc (.cells #[.int .i64 x.1, .int .i64 x.2] 69)) w.heap.size 26 26 69 i0 _ 2 16 Try.underlying26 hi hz0 hz1 hz2 rfl (by decide) _ 1 _ hown1 (dropA g 0 c p) (k - p) (c - p) (pc (l.drop p)) (by rw [pc_length, List.length_drop, hl]) hdrop.news pc_one (by unfold maxLen; omega) (by omega) (by simp)
  rw [← pc_append] at o1
  have hv1 : ∃ a1 c1, v1 = .slice (some ⟨a1, 0, none⟩) (1 + (k - p)) c1 := by
    rcases o1.2 with ⟨_, e⟩ | ⟨a1, c1, _, e, _⟩
    · omega
    · exact ⟨a1, c1, e⟩
  obtain ⟨a1, c1, rfl⟩ := hv1
  have L2 : Below w.heap.size w w2 := L1.grown g1 (by simp) (by intro j hj; simp [Value.ownBlock] at hj; omega)
  have hown2 := owns_take (owns_below h L2) hp
  have hsrc : Own w2 a1 (1 + (k - p)) ([x] ++ l.drop p) (1 + (k - p)) := (Own.ofOwns o1).2.2
  have hlen : ([x] ++ l.drop p).length = 1 + (k - p) := by rw [List.length_append, List.length_drop, hl]; rfl
  rw [← hlen] at hsrc
  obtain ⟨v3, w3, r3, o3, g3, _⟩ := run_append_own (P := Try.prog) w2 base 26 26 69 i0 _ 2 16 Try.underlying26 hi hz0 hz1 hz2 rfl (by decide) _ p _ hown2 ⟨a1, 0, none⟩ (1 + (k - p)) c1 (pc ([x] ++ l.drop p)) (by rw [pc_length, hlen]) (by rw [hlen] at hsrc; rw [← hlen] at hsrc; exact hsrc.news) pc_one (by unfold maxLen; omega) (by omega) (Nat.le_trans hb L2.size)
  rw [← pc_append] at o3
  refine ⟨a1, c1, w2, v3, w3, r1, r3, ?_, (L2.mono hb).grown g3 (Nat.le_trans hb L2.size) (by intro j hj; simp [Value.ownBlock] at hj; omega)⟩
  have e : p + (1 + (k - p)) = k + 1 := by omega
  rw [e] at o3
  exact o3

/-- .. and where there are none. -/
theorem ins_run0 (w : World) (base : Nat) (x : Int × Int) (hb : base ≤ w.heap.size) :
    ∃ v3 w3, (Builtin.append_ #[26, 26] 26 #[.slice (some ⟨w.heap.size, 0, none⟩) 1 1, .slice none 0 0]).run Try.prog (w.alloc (.cells #[.int .i64 x.1, .int .i64 x.2] 69)) = .ok (.slice (some ⟨w.heap.size, 0, none⟩) 1 1) (w.alloc (.cells #[.int .i64 x.1, .int .i64 x.2] 69)) ∧
      (Builtin.append_ #[26, 26] 26 #[.slice none 0 0, .slice (some ⟨w.heap.size, 0, none⟩) 1 1]).run Try.prog (w.alloc (.cells #[.int .i64 x.1, .int .i64 x.2] 69)) = .ok v3 w3 ∧
      w3.ownsRow base 69 2 v3 1 (pc [x]) ∧ Below base w w3 := by
  obtain ⟨i0, hi, hz0, hz1, hz2⟩ := Try.i57
  have L1 : Below w.heap.size w (w.alloc (.cells #[.int .i64 x.1, .int .i64 x.2] 69)) := (Below.refl _ _).alloc (Nat.le_refl _) _
  have hown1 : (w.alloc (.cells #[.int .i64 x.1, .int .i64 x.2] 69)).ownsRow w.heap.size 69 2 (.slice (some ⟨w.heap.size, 0, none⟩) 1 1) 1 (pc [x]) :=
    ⟨rfl, .inr ⟨w.heap.size, 1, #[.int .i64 x.1, .int .i64 x.2], rfl, Nat.le_refl _, heap_alloc_new w _, Nat.le_refl _, by decide, rfl, rfl⟩⟩
  have hsrc := (Own.ofOwns hown1).2.2
  have r1 := run_append_room_src (P := Try.prog) (w.alloc (.cells #[.int .i64 x.1, .int .i64 x.2] 69)) 26 26 26 69 i0 Try.underlying26 hi w.heap.size 0 1 1 (.slice none 0 0) 0 [] (Src.ofNil (P := Try.prog) _ Try.underlying26 0) (Nat.le_refl _) (by intro j h; cases h) (by intro j h; cases h)
  obtain ⟨v3, w3, r3, o3, g3, _⟩ := run_append_own (P := Try.prog) (w.alloc (.cells #[.int .i64 x.1, .int .i64 x.2] 69)) base 26 26 69 i0 _ 2 16 Try.underlying26 hi hz0 hz1 hz2 rfl (by decide) (.slice none 0 0) 0 [] (World.ownsRow_nil _ _ _ _) ⟨w.heap.size, 0, none⟩ 1 1 (pc [x]) rfl (Own.news (l := [x]) hsrc) pc_one (by decide) (by decide) (by simp; omega)
  exact ⟨v3, w3, by simpa [World.setCells] using r1, r3, by simpa using o3, (L1.mono hb).grown g3 (by simp; omega) (by intro j hj; simp [Value.ownBlock] at hj)⟩

end Go.Proofs.Ytfplloabkceaoaa
