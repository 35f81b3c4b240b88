/-
  An argument that is a slice of integers, opened: a row in memory, each of its numbers an integer of 64 bits.
-/
import Derived.Test.YtagcbnngacealaaOpen
import Derived.Test.YtagcbnngacealaaOn
namespace Go.Proofs.Ytagcbnngacealaa
open Go.ChangeShapes Go.WideShapes Go.ChangeAt Go.RowKit Go.Joins Go.Deep

set_option maxRecDepth 100000 in
theorem open_listw {H : Type} {enc : TypeId × Value → H} {W : World} {b0 : Nat} {v : Value} {d : DataW H} {p : List MemPlace}
    (hv : Value.okWide Try.prog W .any b0 39 v) (h : DataW.Trod enc Try.prog W 0 (fun _ => true) true 39 v d p) :
    ∃ (a : Option Addr) (c : Nat) (l : List Int), v = .slice a l.length c ∧ l.length ≤ maxLen ∧ IRow W a l ∧ Hid (WFL l) := by
  obtain ⟨a0, n0, c0, rfl⟩ := okWide_slice Try.underlying39 hv
  obtain ⟨fuel, hf⟩ := h
  have hf' : DataW.trod enc Try.prog W 0 (fun _ => true) true fuel 39 [.slice a0 n0 c0] = some (d, p) := by simpa [Value.cells] using hf
  rcases open_ints Try.underlying39 Try.underlying3 Try.cells3 hf' with ⟨hcs, _⟩ | ⟨a, len, cap, zs, hcs, _, hl, hm, hz, _, hc, hw⟩
  · simp at hcs
    obtain ⟨rfl, rfl, rfl⟩ := hcs
    exact ⟨none, 0, [], rfl, Nat.zero_le _, .inl rfl, fun i hi => by simp at hi⟩
  · simp at hcs
    obtain ⟨rfl, rfl, rfl⟩ := hcs
    have hzc : zs.length = c0 := by simpa using hz
    refine ⟨some a, c0, zs.take n0, by rw [List.length_take, Nat.min_eq_left (by omega)], by rw [List.length_take]; omega, ?_, fun i hi => ?_⟩
    · by_cases hz0 : n0 = 0
      · subst hz0; exact .inl rfl
      · obtain ⟨b, off, spot⟩ := a
        have h0 := hc 0 (by omega)
        have hspot : spot = none := by simpa [Addr.add] using World.cell?_spot h0
        subst hspot
        have hblk := World.block_lt_of_cell? _ _ h0
        refine .inr ⟨b, off, rfl, by simpa [Addr.add] using hblk, fun i hi => ?_⟩
        have hi' : i < n0 := by rw [List.length_take] at hi; omega
        have e0 := hc i (by omega)
        rw [addr_add] at e0
        rw [e0]
        simp [hi']
    · rw [List.length_take] at hi
      have hi' : i < n0 := by omega
      have hi2 : i < zs.length := by omega
      have := hw zs[i] (List.getElem_mem hi2)
      simpa [hi', hi2] using this

end Go.Proofs.Ytagcbnngacealaa
