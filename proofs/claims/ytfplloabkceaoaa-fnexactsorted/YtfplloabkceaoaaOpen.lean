/-
  An argument of type laws.Asn, opened: four slices of pairs of integers, each as a row in memory.
-/
import Derived.Test.YtfplloabkceaoaaRows
import Derived.Test.YtfplloabkceaoaaBase
import Derived.WalkKit
import Derived.ProofKit
import Derived.Lib.SmallJoins
import Derived.Deep.SlicePairs
namespace Go.Proofs.Ytfplloabkceaoaa
open Go.ChangeShapes Go.WideShapes Go.ChangeAt Go.RowKit Go.Joins Go.Deep

theorem Try.cells24 : Try.prog.cellsOf 24 = 4 := by kernel_rfl
theorem Try.cells67 : Try.prog.cellsOf 67 = 2 := by kernel_rfl
theorem Try.cells3 : Try.prog.cellsOf 3 = 1 := by kernel_rfl

theorem open_row {H : Type} {enc : TypeId × Value → H} {W : World} {n : Nat} {v : Value} {y : DataW H × List MemPlace} (h : DataW.trod enc Try.prog W 0 (fun _ => true) true n 22 [v] = some y) :
    ∃ a cap l, v = .slice a (l : List (Int × Int)).length cap ∧ l.length ≤ maxLen ∧ PRow W a l := by
  rcases open_slice_pairs Try.underlying22 Try.underlying67 Try.cells67 rfl rfl Try.cells3 Try.cells3 h with ⟨hcs, _⟩ | ⟨a, len, cap, m, k, V0, V1, D0, D1, P0, P1, hcs, _, hl, hm, hmm, _, hx⟩
  · simp at hcs
    exact ⟨none, 0, [], hcs, Nat.zero_le _, .inl rfl⟩
  · simp at hcs
    have hmc : m = cap := by simpa using hmm
    refine ⟨some a, cap, (List.range len).map fun i => (intOf (V0 i), intOf (V1 i)), by simpa using hcs, by simp; omega, ?_⟩
    by_cases hz : len = 0
    · subst hz; exact .inl rfl
    · obtain ⟨b, off, spot⟩ := a
      have h0 := (hx 0 (by omega)).1
      have hspot : spot = none := by simpa [Addr.add] using World.cell?_spot h0
      subst hspot
      have hblk := World.block_lt_of_cell? _ _ h0
      refine .inr ⟨b, off, rfl, by simpa [Addr.add] using hblk, fun i hi => ?_⟩
      have hi' : i < len := by simpa using hi
      obtain ⟨e0, e1, t0, t1⟩ := hx i (by omega)
      obtain ⟨x, hx0, _, _⟩ := DataW.trod_int Try.underlying3 t0
      obtain ⟨z, hx1, _, _⟩ := DataW.trod_int Try.underlying3 t1
      simp at hx0 hx1
      rw [add_plain, hx0] at e0
      rw [add_plain, hx1] at e1
      simp [hi', hx0, hx1, intOf, Nat.add_assoc]
      exact ⟨e0, e1⟩

set_option maxRecDepth 100000 in
theorem open_asn {H : Type} {enc : TypeId × Value → H} {W : World} {b0 : Nat} {v : Value} {d : DataW H} {p : List MemPlace}
    (hv : Value.okWide Try.prog W .any b0 24 v) (h : DataW.Trod enc Try.prog W 0 (fun _ => true) true 24 v d p) :
    ∃ (a0 a1 a2 a3 : Option Addr) (c0 c1 c2 c3 : Nat) (l0 l1 l2 l3 : List (Int × Int)), v = .agg #[.slice a0 l0.length c0, .slice a1 l1.length c1, .slice a2 l2.length c2, .slice a3 l3.length c3] ∧
      l0.length ≤ maxLen ∧ l1.length ≤ maxLen ∧ l2.length ≤ maxLen ∧ l3.length ≤ maxLen ∧ PRow W a0 l0 ∧ PRow W a1 l1 ∧ PRow W a2 l2 ∧ PRow W a3 l3 := by
  obtain ⟨v0, v1, v2, v3, y0, y1, y2, y3, n, rfl, _, _, h0, h1, h2, h3⟩ := open_agg4 Try.underlying24 (by kernel_rfl) Try.cells24 hv h
  obtain ⟨a0, c0, l0, rfl, m0, r0⟩ := open_row h0
  obtain ⟨a1, c1, l1, rfl, m1, r1⟩ := open_row h1
  obtain ⟨a2, c2, l2, rfl, m2, r2⟩ := open_row h2
  obtain ⟨a3, c3, l3, rfl, m3, r3⟩ := open_row h3
  exact ⟨a0, a1, a2, a3, c0, c1, c2, c3, l0, l1, l2, l3, rfl, m0, m1, m2, m3, r0, r1, r2, r3⟩

end Go.Proofs.Ytfplloabkceaoaa
