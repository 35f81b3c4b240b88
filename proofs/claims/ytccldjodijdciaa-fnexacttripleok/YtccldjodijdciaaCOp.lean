/-
  Arguments of type laws.Cmd and []laws.Cmd, opened.
-/
import Derived.Test.YtccldjodijdciaaOpen
import Derived.Test.YtccldjodijdciaaCTo
import Derived.ChangeArms
namespace Go.Proofs.Ytccldjodijdciaa
open Go.ChangeShapes Go.WideShapes Go.ChangeAt Go.RowKit Go.Joins Go.Deep

theorem Try.cells54 : Try.prog.cellsOf 54 = 10 := by kernel_rfl
theorem Try.cells52 : Try.prog.cellsOf 52 = 1 := by kernel_rfl
theorem Try.cells4 : Try.prog.cellsOf 4 = 1 := by kernel_rfl
theorem Try.cells22 : Try.prog.cellsOf 22 = 1 := by kernel_rfl

theorem list10 {α : Type} {cs : List α} (h : cs.length = 10) : ∃ c0 c1 c2 c3 c4 c5 c6 c7 c8 c9, cs = [c0, c1, c2, c3, c4, c5, c6, c7, c8, c9] := by
  match cs, h with
  | [c0, c1, c2, c3, c4, c5, c6, c7, c8, c9], _ => exact ⟨c0, c1, c2, c3, c4, c5, c6, c7, c8, c9, rfl⟩
theorem list7 {α : Type} {cs : List α} (h : cs.length = 7) : ∃ c0 c1 c2 c3 c4 c5 c6, cs = [c0, c1, c2, c3, c4, c5, c6] := by
  match cs, h with
  | [c0, c1, c2, c3, c4, c5, c6], _ => exact ⟨c0, c1, c2, c3, c4, c5, c6, rfl⟩

/-- What a slice of commands reads as, at so much fuel. -/
def OpenAt {H : Type} (enc : TypeId × Value → H) (W : World) (n : Nat) : Prop := ∀ (v : Value) (y : DataW H × List MemPlace), DataW.trod enc Try.prog W 0 (fun _ => true) true n 52 [v] = some y →
    ∃ a cap l, v = .slice a (l : List Cm).length cap ∧ CRow W 0 W.heap.size a l

theorem pin_of {H : Type} {enc : TypeId × Value → H} {W : World} {n : Nat} {v : Value} {y : DataW H × List MemPlace} (h : DataW.trod enc Try.prog W 0 (fun _ => true) true n 22 [v] = some y) :
    ∃ a cap l, v = .slice a (l : List (Int × Int)).length cap ∧ PIn W 0 W.heap.size a l := by
  obtain ⟨a, cap, l, rfl, hm, hr⟩ := open_row h
  exact ⟨a, cap, l, rfl, PIn.of_row hr hm⟩

set_option maxRecDepth 100000 in
theorem open_cells {H : Type} {enc : TypeId × Value → H} {W : World} {n : Nat} (ih : ∀ m, m < n → OpenAt enc W m) {cs : List Value} {y : DataW H × List MemPlace} (h : DataW.trod enc Try.prog W 0 (fun _ => true) true n 54 cs = some y) :
    ∃ (c : Cm) (a0 a1 a2 a3 aA aB : Option Addr) (c0 c1 c2 c3 cA cB : Nat), cs = [.int .i64 c.k, .int .i64 c.x, .int .i64 c.y, .bool c.q, .slice a0 c.l0.length c0, .slice a1 c.l1.length c1, .slice a2 c.l2.length c2, .slice a3 c.l3.length c3, .slice aA c.A.length cA, .slice aB c.B.length cB] ∧ CVal W 0 W.heap.size c a0 a1 a2 a3 aA aB := by
  obtain ⟨xs, m, rfl, _, hl, hlen, hf⟩ := DataW.trod_struct Try.underlying54 h
  rw [Try.cells54] at hl
  obtain ⟨v0, v1, v2, v3, v4, v5, v6, v7, v8, v9, rfl⟩ := list10 hl
  obtain ⟨y0, y1, y2, y3, y4, y5, y6, rfl⟩ := list7 hlen
  have h0 : DataW.trod enc Try.prog W 0 (fun _ => true) true m 3 [v0] = some y0 := by simpa [Try.cells3] using hf 0 _ rfl
  have h1 : DataW.trod enc Try.prog W 0 (fun _ => true) true m 3 [v1] = some y1 := by simpa [Try.cells3] using hf 1 _ rfl
  have h2 : DataW.trod enc Try.prog W 0 (fun _ => true) true m 3 [v2] = some y2 := by simpa [Try.cells3] using hf 2 _ rfl
  have h3 : DataW.trod enc Try.prog W 0 (fun _ => true) true m 4 [v3] = some y3 := by simpa [Try.cells4] using hf 3 _ rfl
  have h4 : DataW.trod enc Try.prog W 0 (fun _ => true) true m 24 [v4, v5, v6, v7] = some y4 := by simpa [Try.cells24] using hf 4 _ rfl
  have h5 : DataW.trod enc Try.prog W 0 (fun _ => true) true m 52 [v8] = some y5 := by simpa [Try.cells52] using hf 5 _ rfl
  have h6 : DataW.trod enc Try.prog W 0 (fun _ => true) true m 52 [v9] = some y6 := by simpa [Try.cells52] using hf 6 _ rfl
  clear hf h hl hlen
  obtain ⟨k, e0, _, _⟩ := DataW.trod_int Try.underlying3 h0
  obtain ⟨x, e1, _, _⟩ := DataW.trod_int Try.underlying3 h1
  obtain ⟨z, e2, _, _⟩ := DataW.trod_int Try.underlying3 h2
  obtain ⟨q, e3, _⟩ := DataW.trod_bool Try.underlying4 h3
  obtain ⟨z0, z1, z2, z3, m2, _, _, g0, g1, g2, g3⟩ := trod_struct4 Try.underlying24 h4
  replace g0 : DataW.trod enc Try.prog W 0 (fun _ => true) true m2 22 [v4] = some z0 := by simpa [Try.cells22] using g0
  replace g1 : DataW.trod enc Try.prog W 0 (fun _ => true) true m2 22 [v5] = some z1 := by simpa [Try.cells22] using g1
  replace g2 : DataW.trod enc Try.prog W 0 (fun _ => true) true m2 22 [v6] = some z2 := by simpa [Try.cells22] using g2
  replace g3 : DataW.trod enc Try.prog W 0 (fun _ => true) true m2 22 [v7] = some z3 := by simpa [Try.cells22] using g3
  obtain ⟨a0, c0, l0, rfl, p0⟩ := pin_of g0
  obtain ⟨a1, c1, l1, rfl, p1⟩ := pin_of g1
  obtain ⟨a2, c2, l2, rfl, p2⟩ := pin_of g2
  obtain ⟨a3, c3, l3, rfl, p3⟩ := pin_of g3
  obtain ⟨aA, cA, A, rfl, rA⟩ := ih m (by omega) _ _ h5
  obtain ⟨aB, cB, B, rfl, rB⟩ := ih m (by omega) _ _ h6
  simp only [List.cons.injEq, and_true] at e0 e1 e2 e3
  subst e0 e1 e2 e3
  exact ⟨.mk k x z q l0 l1 l2 l3 A B, a0, a1, a2, a3, aA, aB, c0, c1, c2, c3, cA, cB, rfl, ⟨p0, p1, p2, p3, rA, rB⟩⟩

theorem open_at {H : Type} {enc : TypeId × Value → H} {W : World} : ∀ n, OpenAt enc W n := by
  intro n
  induction n using Nat.strongRecOn with
  | _ n ih =>
    intro v y h
    rcases DataW.trod_slice Try.underlying52 h with ⟨hc, _⟩ | ⟨a, len, cap, elems, rest, m, rfl, hc, _, _, hl, hm, hlen, hel, _, _⟩
    · simp only [List.cons.injEq, and_true] at hc
      exact ⟨none, 0, [], hc, CRow.nil _ _ _ _⟩
    · simp only [List.cons.injEq, and_true] at hc
      rw [Try.cells54] at hel
      by_cases hz : len = 0
      · subst hz
        exact ⟨some a, cap, [], by simpa using hc, CRow.nil _ _ _ _⟩
      have hspot : a.spot = none := by
        have h1 := hel 0 (by omega)
        rw [List.getElem?_eq_getElem (by omega)] at h1
        obtain ⟨cs, h2, h3⟩ := Option.bind_eq_some_iff.1 h1
        obtain ⟨c, a0, a1, a2, a3, aA, aB, c0, c1, c2, c3, cA, cB, rfl, V⟩ := open_cells (fun k hk => ih k (by omega)) h3
        obtain ⟨_, _, hcell⟩ := World.cells?_some h2
        simpa [Addr.add] using World.cell?_spot (hcell 0 (by simp))
      obtain ⟨b, o, spot⟩ := a
      have hs : spot = none := hspot
      subst hs
      clear hspot
      have hone : ∀ i, i < len → ∃ c : Cm, b < W.heap.size ∧ CAt W 0 W.heap.size b (o + i * 10) c := by
        intro i hi
        have h1 := hel i hi
        rw [List.getElem?_eq_getElem (by omega)] at h1
        obtain ⟨cs, h2, h3⟩ := Option.bind_eq_some_iff.1 h1
        obtain ⟨c, a0, a1, a2, a3, aA, aB, c0, c1, c2, c3, cA, cB, rfl, V⟩ := open_cells (fun k hk => ih k (by omega)) h3
        obtain ⟨_, _, hcell⟩ := World.cells?_some h2
        have g : ∀ j v, j < 10 → ([.int .i64 c.k, .int .i64 c.x, .int .i64 c.y, .bool c.q, .slice a0 c.l0.length c0, .slice a1 c.l1.length c1, .slice a2 c.l2.length c2, .slice a3 c.l3.length c3, .slice aA c.A.length cA, .slice aB c.B.length cB] : List Value)[j]? = some v → W.cell? ⟨b, o + i * 10 + j, none⟩ = some v := by
          intro j v hj hv
          have h5 := hcell j (by simpa using hj)
          rw [hv, add_plain, add_plain] at h5
          exact h5
        have e0 := g 0 _ (by omega) rfl
        exact ⟨c, World.block_lt_of_cell? _ _ e0, CAt.mk ⟨e0, g 1 _ (by omega) rfl, g 2 _ (by omega) rfl, g 3 _ (by omega) rfl, g 4 _ (by omega) rfl, g 5 _ (by omega) rfl, g 6 _ (by omega) rfl, g 7 _ (by omega) rfl, g 8 _ (by omega) rfl, g 9 _ (by omega) rfl⟩ V⟩
      refine ⟨some ⟨b, o, none⟩, cap, (List.range len).map fun i => if hi : i < len then (hone i hi).choose else Cm.zero, by simpa using hc, by simp; omega, .inr ⟨b, o, rfl, Nat.zero_le _, (hone 0 (by omega)).choose_spec.1, CsAt.mk fun i hi => ?_⟩⟩
      have hi' : i < len := by simpa using hi
      have := (hone i hi').choose_spec.2
      simpa [hi'] using this

set_option maxRecDepth 100000 in
theorem open_cmds {H : Type} {enc : TypeId × Value → H} {W : World} {b0 : Nat} {v : Value} {d : DataW H} {p : List MemPlace}
    (hv : Value.okWide Try.prog W .any b0 52 v) (h : DataW.Trod enc Try.prog W 0 (fun _ => true) true 52 v d p) :
    ∃ a cap l, v = .slice a (l : List Cm).length cap ∧ CRow W 0 W.heap.size a l := by
  obtain ⟨n, hn⟩ := h
  obtain ⟨a, len, cap, rfl⟩ := okWide_slice Try.underlying52 hv
  exact open_at n _ _ (by simpa [Value.cells] using hn)

set_option maxRecDepth 100000 in
theorem open_cmd {H : Type} {enc : TypeId × Value → H} {W : World} {b0 : Nat} {v : Value} {d : DataW H} {p : List MemPlace}
    (hv : Value.okWide Try.prog W .any b0 54 v) (h : DataW.Trod enc Try.prog W 0 (fun _ => true) true 54 v d p) :
    ∃ (c : Cm) (a0 a1 a2 a3 aA aB : Option Addr) (c0 c1 c2 c3 cA cB : Nat), v = .agg #[.int .i64 c.k, .int .i64 c.x, .int .i64 c.y, .bool c.q, .slice a0 c.l0.length c0, .slice a1 c.l1.length c1, .slice a2 c.l2.length c2, .slice a3 c.l3.length c3, .slice aA c.A.length cA, .slice aB c.B.length cB] ∧ CVal W 0 W.heap.size c a0 a1 a2 a3 aA aB := by
  obtain ⟨n, hn⟩ := h
  obtain ⟨cs, rfl, hsz⟩ := okWide_struct Try.underlying54 hv
  obtain ⟨c, a0, a1, a2, a3, aA, aB, c0, c1, c2, c3, cA, cB, e, V⟩ := open_cells (fun k _ => open_at k) (by simpa [Value.cells] using hn)
  refine ⟨c, a0, a1, a2, a3, aA, aB, c0, c1, c2, c3, cA, cB, ?_, V⟩
  obtain ⟨l⟩ := cs
  simp only at e
  rw [e]

end Go.Proofs.Ytccldjodijdciaa
