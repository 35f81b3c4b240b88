/-
  An argument of type laws.State, or a slice of integers, opened: rows in memory.
-/
import Derived.Test.YtnaeomppceblpaaRows
import Derived.Test.YtnaeomppceblpaaSBase
import Derived.WalkKit
import Derived.ProofKit
import Derived.ChangeSlices
import Derived.Lib.SmallJoins
namespace Go.Proofs.Ytnaeomppceblpaa.S
open Go.ChangeShapes Go.WideShapes Go.ChangeAt Go.RowKit Go.Joins Go.Deep

theorem Try.cells40 : Try.prog.cellsOf 40 = 2 := by kernel_rfl
theorem Try.cells3 : Try.prog.cellsOf 3 = 1 := by kernel_rfl

theorem open_row {H : Type} {enc : TypeId × Value → H} {W : World} {n : Nat} {v : Value} {y : DataW H × List MemPlace} (h : DataW.trod enc Try.prog W 0 (fun _ => true) true n 26 [v] = some y) :
    ∃ a cap l, v = .slice a (l : List Int).length cap ∧ l.length ≤ maxLen ∧ IRow W a l := by
  rcases open_ints Try.underlying26 Try.underlying3 Try.cells3 h with ⟨hcs, _⟩ | ⟨a, len, cap, zs, hcs, _, hl, hm, hz, _, hc, _⟩
  · simp at hcs
    exact ⟨none, 0, [], hcs, Nat.zero_le _, .inl rfl⟩
  · simp at hcs
    have hzc : zs.length = cap := by simpa using hz
    refine ⟨some a, cap, zs.take len, by rw [List.length_take, Nat.min_eq_left (by omega)]; exact hcs, by rw [List.length_take]; omega, ?_⟩
    by_cases hz0 : len = 0
    · subst hz0; exact .inl rfl
    · obtain ⟨b, off, spot⟩ := a
      have h0 := hc 0 (by omega)
      have hspot : spot = none := by simpa [Addr.add] using World.cell?_spot h0
      subst hspot
      have hblk := World.block_lt_of_cell? _ _ h0
      refine .inr ⟨b, off, rfl, by simpa [Addr.add] using hblk, fun i hi => ?_⟩
      have hi' : i < len := by rw [List.length_take] at hi; omega
      have e0 := hc i (by omega)
      rw [addr_add] at e0
      rw [e0]
      simp [hi']

set_option maxRecDepth 100000 in
theorem open_state {H : Type} {enc : TypeId × Value → H} {W : World} {b0 : Nat} {v : Value} {d : DataW H} {p : List MemPlace}
    (hv : Value.okWide Try.prog W .any b0 40 v) (h : DataW.Trod enc Try.prog W 0 (fun _ => true) true 40 v d p) :
    ∃ (a0 a1 : Option Addr) (c0 c1 : Nat) (l0 l1 : List Int), v = .agg #[.slice a0 l0.length c0, .slice a1 l1.length c1] ∧ l0.length ≤ maxLen ∧ l1.length ≤ maxLen ∧ IRow W a0 l0 ∧ IRow W a1 l1 := by
  obtain ⟨v0, v1, y0, y1, n, rfl, _, _, h0, h1⟩ := open_agg2 Try.underlying40 (by kernel_rfl) Try.cells40 hv h
  obtain ⟨a0, c0, l0, rfl, m0, r0⟩ := open_row h0
  obtain ⟨a1, c1, l1, rfl, m1, r1⟩ := open_row h1
  exact ⟨a0, a1, c0, c1, l0, l1, rfl, m0, m1, r0, r1⟩

set_option maxRecDepth 100000 in
theorem open_list {H : Type} {enc : TypeId × Value → H} {W : World} {b0 : Nat} {v : Value} {d : DataW H} {p : List MemPlace}
    (hv : Value.okWide Try.prog W .any b0 26 v) (h : DataW.Trod enc Try.prog W 0 (fun _ => true) true 26 v d p) :
    ∃ (a : Option Addr) (c : Nat) (l : List Int), v = .slice a l.length c ∧ l.length ≤ maxLen ∧ IRow W a l := by
  obtain ⟨a, n, c, rfl⟩ := okWide_slice Try.underlying26 hv
  obtain ⟨fuel, hf⟩ := h
  obtain ⟨a', c', l, e, m, r⟩ := open_row (v := .slice a n c) (by simpa [Value.cells] using hf)
  exact ⟨a', c', l, e, m, r⟩

end Go.Proofs.Ytnaeomppceblpaa.S

