/-
  Arguments of type laws.Triple, opened.
-/
import Derived.Test.YtccldjodijdciaaCOp
import Derived.Test.YtccldjodijdciaaB9
namespace Go.Proofs.Ytccldjodijdciaa
open Go.ChangeShapes Go.WideShapes Go.ChangeAt Go.RowKit Go.Joins Go.Deep

theorem Try.cells84 : Try.prog.cellsOf 84 = 9 := by kernel_rfl
theorem list9 {α : Type} {cs : List α} (h : cs.length = 9) : ∃ c0 c1 c2 c3 c4 c5 c6 c7 c8, cs = [c0, c1, c2, c3, c4, c5, c6, c7, c8] := by
  match cs, h with
  | [c0, c1, c2, c3, c4, c5, c6, c7, c8], _ => exact ⟨c0, c1, c2, c3, c4, c5, c6, c7, c8, rfl⟩
theorem list3 {α : Type} {cs : List α} (h : cs.length = 3) : ∃ c0 c1 c2, cs = [c0, c1, c2] := by
  match cs, h with
  | [c0, c1, c2], _ => exact ⟨c0, c1, c2, rfl⟩

set_option maxRecDepth 100000 in
theorem open_triple {H : Type} {enc : TypeId × Value → H} {W : World} {b0 : Nat} {v : Value} {d : DataW H} {p : List MemPlace}
    (hv : Value.okWide Try.prog W .any b0 84 v) (h : DataW.Trod enc Try.prog W 0 (fun _ => true) true 84 v d p) :
    ∃ (a0 a1 a2 a3 aL d0 d1 d2 d3 : Option Addr) (c0 c1 c2 c3 cL e0 e1 e2 e3 : Nat) (l0 l1 l2 l3 k0 k1 k2 k3 : List (Int × Int)) (g : List Cm), v = .agg #[.slice a0 l0.length c0, .slice a1 l1.length c1, .slice a2 l2.length c2, .slice a3 l3.length c3, .slice aL g.length cL, .slice d0 k0.length e0, .slice d1 k1.length e1, .slice d2 k2.length e2, .slice d3 k3.length e3] ∧
      l0.length ≤ maxLen ∧ l1.length ≤ maxLen ∧ l2.length ≤ maxLen ∧ l3.length ≤ maxLen ∧ k0.length ≤ maxLen ∧ k1.length ≤ maxLen ∧ k2.length ≤ maxLen ∧ k3.length ≤ maxLen ∧
      PRow W a0 l0 ∧ PRow W a1 l1 ∧ PRow W a2 l2 ∧ PRow W a3 l3 ∧ CRow W 0 W.heap.size aL g ∧ PRow W d0 k0 ∧ PRow W d1 k1 ∧ PRow W d2 k2 ∧ PRow W d3 k3 := by
  obtain ⟨n, hn⟩ := h
  obtain ⟨cs, rfl, hsz⟩ := okWide_struct Try.underlying84 hv
  obtain ⟨xs, m, e, _, hl, hlen, hf⟩ := DataW.trod_struct Try.underlying84 (by simpa [Value.cells] using hn)
  obtain ⟨cs⟩ := cs
  rw [Try.cells84] at hl
  obtain ⟨v0, v1, v2, v3, v4, v5, v6, v7, v8, rfl⟩ := list9 hl
  obtain ⟨y0, y1, y2, rfl⟩ := list3 hlen
  have h0 : DataW.trod enc Try.prog W 0 (fun _ => true) true m 24 [v0, v1, v2, v3] = some y0 := by simpa [Try.cells24] using hf 0 _ rfl
  have h1 : DataW.trod enc Try.prog W 0 (fun _ => true) true m 52 [v4] = some y1 := by simpa [Try.cells52] using hf 1 _ rfl
  have h2 : DataW.trod enc Try.prog W 0 (fun _ => true) true m 24 [v5, v6, v7, v8] = some y2 := by simpa [Try.cells24] using hf 2 _ rfl
  clear hf hn hl hlen hv
  obtain ⟨z0, z1, z2, z3, m2, _, _, g0, g1, g2, g3⟩ := trod_struct4 Try.underlying24 h0
  obtain ⟨x0, x1, x2, x3, m3, _, _, f0, f1, f2, f3⟩ := trod_struct4 Try.underlying24 h2
  have LPS : True := trivial
  replace g0 : DataW.trod enc Try.prog W 0 (fun _ => true) true m2 22 [v0] = some z0 := by simpa [Try.cells22] using g0
  replace g1 : DataW.trod enc Try.prog W 0 (fun _ => true) true m2 22 [v1] = some z1 := by simpa [Try.cells22] using g1
  replace g2 : DataW.trod enc Try.prog W 0 (fun _ => true) true m2 22 [v2] = some z2 := by simpa [Try.cells22] using g2
  replace g3 : DataW.trod enc Try.prog W 0 (fun _ => true) true m2 22 [v3] = some z3 := by simpa [Try.cells22] using g3
  replace f0 : DataW.trod enc Try.prog W 0 (fun _ => true) true m3 22 [v5] = some x0 := by simpa [Try.cells22] using f0
  replace f1 : DataW.trod enc Try.prog W 0 (fun _ => true) true m3 22 [v6] = some x1 := by simpa [Try.cells22] using f1
  replace f2 : DataW.trod enc Try.prog W 0 (fun _ => true) true m3 22 [v7] = some x2 := by simpa [Try.cells22] using f2
  replace f3 : DataW.trod enc Try.prog W 0 (fun _ => true) true m3 22 [v8] = some x3 := by simpa [Try.cells22] using f3
  obtain ⟨a0, c0, l0, rfl, n0, r0⟩ := open_row g0
  obtain ⟨a1, c1, l1, rfl, n1, r1⟩ := open_row g1
  obtain ⟨a2, c2, l2, rfl, n2, r2⟩ := open_row g2
  obtain ⟨a3, c3, l3, rfl, n3, r3⟩ := open_row g3
  obtain ⟨d0, e0, k0, rfl, u0, s0⟩ := open_row f0
  obtain ⟨d1, e1, k1, rfl, u1, s1⟩ := open_row f1
  obtain ⟨d2, e2, k2, rfl, u2, s2⟩ := open_row f2
  obtain ⟨d3, e3, k3, rfl, u3, s3⟩ := open_row f3
  obtain ⟨aL, cL, g, rfl, rL⟩ := open_at m _ _ h1
  subst e
  exact ⟨a0, a1, a2, a3, aL, d0, d1, d2, d3, c0, c1, c2, c3, cL, e0, e1, e2, e3, l0, l1, l2, l3, k0, k1, k2, k3, g, rfl, n0, n1, n2, n3, u0, u1, u2, u3, r0, r1, r2, r3, rL, s0, s1, s2, s3⟩

end Go.Proofs.Ytccldjodijdciaa
