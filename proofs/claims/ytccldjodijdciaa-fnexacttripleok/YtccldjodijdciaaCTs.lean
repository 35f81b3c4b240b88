/-
  The contract of laws.toCmdS.
-/
import Derived.Test.YtccldjodijdciaaCTo
namespace Go.Proofs.Ytccldjodijdciaa
open Go.RowKit

/-- n commands of zeros. -/
def crow (n : Nat) : Array Value := madeCells #[.int .i64 0, .int .i64 0, .int .i64 0, .bool false, .slice none 0 0, .slice none 0 0, .slice none 0 0, .slice none 0 0, .slice none 0 0, .slice none 0 0] (n * 10)
theorem size_crow (n : Nat) : (crow n).size = n * 10 := size_madeCells _ _
theorem Try.info59 : (Try.prog.info? 59).map (fun i => (i.zero, i.size, i.bytes)) = some (some (.agg #[.int .i64 0, .int .i64 0, .int .i64 0, .bool false, .slice none 0 0, .slice none 0 0, .slice none 0 0, .slice none 0 0, .slice none 0 0, .slice none 0 0]), 10, 176) := by kernel_rfl
theorem run_makeC (n : Nat) (hn : n ≤ 1048576) (w : World) : (Instr.makeSlice 57 (.int .i64 n) (.int .i64 n)).run Try.prog w = .ok (.slice (some ⟨w.heap.size, 0, none⟩) n n) (w.alloc (.cells (crow n) 59)) := by
  have h := Try.info59
  cases hi : Try.prog.info? 59 with
  | none => rw [hi] at h; simp at h
  | some i =>
    rw [hi] at h
    simp only [Option.map_some, Option.some.injEq, Prod.mk.injEq] at h
    have r := run_make (P := Try.prog) w 57 59 i _ Try.underlying57 hi h.1 .i64 .i64 n n (by omega) (by omega) (by rw [h.2.2]; omega) (by omega)
    rw [h.2.1] at r
    simpa [crow, Value.cells] using r

/-- Ten cells stored. -/
def set10 (w : World) (b o : Nat) (v0 v1 v2 v3 v4 v5 v6 v7 v8 v9 : Value) : World := ((((((((((w.setCell ⟨b, o, none⟩ v0).setCell ⟨b, o + 1, none⟩ v1).setCell ⟨b, o + 2, none⟩ v2).setCell ⟨b, o + 3, none⟩ v3).setCell ⟨b, o + 4, none⟩ v4).setCell ⟨b, o + 5, none⟩ v5).setCell ⟨b, o + 6, none⟩ v6).setCell ⟨b, o + 7, none⟩ v7).setCell ⟨b, o + 8, none⟩ v8).setCell ⟨b, o + 9, none⟩ v9)
theorem set10_other {w : World} {b o : Nat} (v0 v1 v2 v3 v4 v5 v6 v7 v8 v9 : Value) {p j : Nat} (h : p ≠ b ∨ j < o ∨ o + 10 ≤ j) : (set10 w b o v0 v1 v2 v3 v4 v5 v6 v7 v8 v9).cell? ⟨p, j, none⟩ = w.cell? ⟨p, j, none⟩ := by
  have key : ∀ (w : World) (i : Nat) (v : Value), i < 10 → (w.setCell ⟨b, o + i, none⟩ v).cell? ⟨p, j, none⟩ = w.cell? ⟨p, j, none⟩ := fun w i v hi => World.cell?_setCell_other _ _ _ _ (by intro e; injection e with e1 e2; omega)
  have key0 : ∀ (w : World) (v : Value), (w.setCell ⟨b, o, none⟩ v).cell? ⟨p, j, none⟩ = w.cell? ⟨p, j, none⟩ := fun w v => key w 0 v (by omega)
  unfold set10
  rw [key _ 9 _ (by omega), key _ 8 _ (by omega), key _ 7 _ (by omega), key _ 6 _ (by omega), key _ 5 _ (by omega), key _ 4 _ (by omega), key _ 3 _ (by omega), key _ 2 _ (by omega), key _ 1 _ (by omega), key0]
theorem set10_frozen {w : World} {b o : Nat} (v0 v1 v2 v3 v4 v5 v6 v7 v8 v9 : Value) (p j : Nat) : (set10 w b o v0 v1 v2 v3 v4 v5 v6 v7 v8 v9).frozen? ⟨p, j, none⟩ = w.frozen? ⟨p, j, none⟩ := by
  unfold set10; simp
theorem set10_size {w : World} {b o : Nat} (v0 v1 v2 v3 v4 v5 v6 v7 v8 v9 : Value) : (set10 w b o v0 v1 v2 v3 v4 v5 v6 v7 v8 v9).heap.size = w.heap.size := by
  unfold set10; simp
theorem set10_eqf {w : World} {b o lo hi : Nat} (v0 v1 v2 v3 v4 v5 v6 v7 v8 v9 : Value) (h : b < lo ∨ hi ≤ b) : Eqf lo hi w (set10 w b o v0 v1 v2 v3 v4 v5 v6 v7 v8 v9) :=
  ⟨by rw [set10_size]; exact Nat.le_refl _, fun p h1 h2 => ⟨fun j => set10_other _ _ _ _ _ _ _ _ _ _ (.inl (by omega)), fun j => set10_frozen _ _ _ _ _ _ _ _ _ _ _ _⟩⟩
theorem set10_below {w W : World} {b o B : Nat} (v0 v1 v2 v3 v4 v5 v6 v7 v8 v9 : Value) (h : Below B W w) (hb : B ≤ b) : Below B W (set10 w b o v0 v1 v2 v3 v4 v5 v6 v7 v8 v9) := by
  unfold set10
  exact Below.set (Below.set (Below.set (Below.set (Below.set (Below.set (Below.set (Below.set (Below.set (Below.set h _ _ hb _) _ _ hb _) _ _ hb _) _ _ hb _) _ _ hb _) _ _ hb _) _ _ hb _) _ _ hb _) _ _ hb _) _ _ hb _
theorem set10_has {w : World} {b o : Nat} (v0 v1 v2 v3 v4 v5 v6 v7 v8 v9 : Value) {j : Nat} (h : ∃ v, w.cell? ⟨b, j, none⟩ = some v) : ∃ v, (set10 w b o v0 v1 v2 v3 v4 v5 v6 v7 v8 v9).cell? ⟨b, j, none⟩ = some v := by
  have key : ∀ (w : World) (i : Nat) (v : Value), (∃ v, w.cell? ⟨b, j, none⟩ = some v) → ∃ u, (w.setCell ⟨b, i, none⟩ v).cell? ⟨b, j, none⟩ = some u := fun w i v ⟨u, hu⟩ => ⟨_, cell_set hu⟩
  unfold set10
  exact key _ _ _ (key _ _ _ (key _ _ _ (key _ _ _ (key _ _ _ (key _ _ _ (key _ _ _ (key _ _ _ (key _ _ _ (key _ _ _ (h))))))))))
theorem set10_c0 {w : World} {b o : Nat} (v0 v1 v2 v3 v4 v5 v6 v7 v8 v9 : Value) (h : ∃ v, w.cell? ⟨b, o, none⟩ = some v) : (set10 w b o v0 v1 v2 v3 v4 v5 v6 v7 v8 v9).cell? ⟨b, o, none⟩ = some v0 := by
  have key : ∀ (w : World) (i k : Nat) (v : Value), i ≠ k → (w.setCell ⟨b, i, none⟩ v).cell? ⟨b, k, none⟩ = w.cell? ⟨b, k, none⟩ := fun w i k v hi => World.cell?_setCell_other _ _ _ _ (by intro e; injection e with e1 e2; omega)
  have had : ∀ (w : World) (i k : Nat) (v : Value), (∃ v, w.cell? ⟨b, k, none⟩ = some v) → ∃ u, (w.setCell ⟨b, i, none⟩ v).cell? ⟨b, k, none⟩ = some u := fun w i k v ⟨u, hu⟩ => ⟨_, cell_set hu⟩
  unfold set10
  rw [key _ (o + 9) (o) _ (by omega), key _ (o + 8) (o) _ (by omega), key _ (o + 7) (o) _ (by omega), key _ (o + 6) (o) _ (by omega), key _ (o + 5) (o) _ (by omega), key _ (o + 4) (o) _ (by omega), key _ (o + 3) (o) _ (by omega), key _ (o + 2) (o) _ (by omega), key _ (o + 1) (o) _ (by omega)]
  obtain ⟨u, hu⟩ := h
  exact World.cell?_setCell_same _ _ _ hu
theorem set10_c1 {w : World} {b o : Nat} (v0 v1 v2 v3 v4 v5 v6 v7 v8 v9 : Value) (h : ∃ v, w.cell? ⟨b, o + 1, none⟩ = some v) : (set10 w b o v0 v1 v2 v3 v4 v5 v6 v7 v8 v9).cell? ⟨b, o + 1, none⟩ = some v1 := by
  have key : ∀ (w : World) (i k : Nat) (v : Value), i ≠ k → (w.setCell ⟨b, i, none⟩ v).cell? ⟨b, k, none⟩ = w.cell? ⟨b, k, none⟩ := fun w i k v hi => World.cell?_setCell_other _ _ _ _ (by intro e; injection e with e1 e2; omega)
  have had : ∀ (w : World) (i k : Nat) (v : Value), (∃ v, w.cell? ⟨b, k, none⟩ = some v) → ∃ u, (w.setCell ⟨b, i, none⟩ v).cell? ⟨b, k, none⟩ = some u := fun w i k v ⟨u, hu⟩ => ⟨_, cell_set hu⟩
  unfold set10
  rw [key _ (o + 9) (o + 1) _ (by omega), key _ (o + 8) (o + 1) _ (by omega), key _ (o + 7) (o + 1) _ (by omega), key _ (o + 6) (o + 1) _ (by omega), key _ (o + 5) (o + 1) _ (by omega), key _ (o + 4) (o + 1) _ (by omega), key _ (o + 3) (o + 1) _ (by omega), key _ (o + 2) (o + 1) _ (by omega)]
  obtain ⟨u, hu⟩ := had _ _ _ _ (h)
  exact World.cell?_setCell_same _ _ _ hu
theorem set10_c2 {w : World} {b o : Nat} (v0 v1 v2 v3 v4 v5 v6 v7 v8 v9 : Value) (h : ∃ v, w.cell? ⟨b, o + 2, none⟩ = some v) : (set10 w b o v0 v1 v2 v3 v4 v5 v6 v7 v8 v9).cell? ⟨b, o + 2, none⟩ = some v2 := by
  have key : ∀ (w : World) (i k : Nat) (v : Value), i ≠ k → (w.setCell ⟨b, i, none⟩ v).cell? ⟨b, k, none⟩ = w.cell? ⟨b, k, none⟩ := fun w i k v hi => World.cell?_setCell_other _ _ _ _ (by intro e; injection e with e1 e2; omega)
  have had : ∀ (w : World) (i k : Nat) (v : Value), (∃ v, w.cell? ⟨b, k, none⟩ = some v) → ∃ u, (w.setCell ⟨b, i, none⟩ v).cell? ⟨b, k, none⟩ = some u := fun w i k v ⟨u, hu⟩ => ⟨_, cell_set hu⟩
  unfold set10
  rw [key _ (o + 9) (o + 2) _ (by omega), key _ (o + 8) (o + 2) _ (by omega), key _ (o + 7) (o + 2) _ (by omega), key _ (o + 6) (o + 2) _ (by omega), key _ (o + 5) (o + 2) _ (by omega), key _ (o + 4) (o + 2) _ (by omega), key _ (o + 3) (o + 2) _ (by omega)]
  obtain ⟨u, hu⟩ := had _ _ _ _ (had _ _ _ _ (h))
  exact World.cell?_setCell_same _ _ _ hu
theorem set10_c3 {w : World} {b o : Nat} (v0 v1 v2 v3 v4 v5 v6 v7 v8 v9 : Value) (h : ∃ v, w.cell? ⟨b, o + 3, none⟩ = some v) : (set10 w b o v0 v1 v2 v3 v4 v5 v6 v7 v8 v9).cell? ⟨b, o + 3, none⟩ = some v3 := by
  have key : ∀ (w : World) (i k : Nat) (v : Value), i ≠ k → (w.setCell ⟨b, i, none⟩ v).cell? ⟨b, k, none⟩ = w.cell? ⟨b, k, none⟩ := fun w i k v hi => World.cell?_setCell_other _ _ _ _ (by intro e; injection e with e1 e2; omega)
  have had : ∀ (w : World) (i k : Nat) (v : Value), (∃ v, w.cell? ⟨b, k, none⟩ = some v) → ∃ u, (w.setCell ⟨b, i, none⟩ v).cell? ⟨b, k, none⟩ = some u := fun w i k v ⟨u, hu⟩ => ⟨_, cell_set hu⟩
  unfold set10
  rw [key _ (o + 9) (o + 3) _ (by omega), key _ (o + 8) (o + 3) _ (by omega), key _ (o + 7) (o + 3) _ (by omega), key _ (o + 6) (o + 3) _ (by omega), key _ (o + 5) (o + 3) _ (by omega), key _ (o + 4) (o + 3) _ (by omega)]
  obtain ⟨u, hu⟩ := had _ _ _ _ (had _ _ _ _ (had _ _ _ _ (h)))
  exact World.cell?_setCell_same _ _ _ hu
theorem set10_c4 {w : World} {b o : Nat} (v0 v1 v2 v3 v4 v5 v6 v7 v8 v9 : Value) (h : ∃ v, w.cell? ⟨b, o + 4, none⟩ = some v) : (set10 w b o v0 v1 v2 v3 v4 v5 v6 v7 v8 v9).cell? ⟨b, o + 4, none⟩ = some v4 := by
  have key : ∀ (w : World) (i k : Nat) (v : Value), i ≠ k → (w.setCell ⟨b, i, none⟩ v).cell? ⟨b, k, none⟩ = w.cell? ⟨b, k, none⟩ := fun w i k v hi => World.cell?_setCell_other _ _ _ _ (by intro e; injection e with e1 e2; omega)
  have had : ∀ (w : World) (i k : Nat) (v : Value), (∃ v, w.cell? ⟨b, k, none⟩ = some v) → ∃ u, (w.setCell ⟨b, i, none⟩ v).cell? ⟨b, k, none⟩ = some u := fun w i k v ⟨u, hu⟩ => ⟨_, cell_set hu⟩
  unfold set10
  rw [key _ (o + 9) (o + 4) _ (by omega), key _ (o + 8) (o + 4) _ (by omega), key _ (o + 7) (o + 4) _ (by omega), key _ (o + 6) (o + 4) _ (by omega), key _ (o + 5) (o + 4) _ (by omega)]
  obtain ⟨u, hu⟩ := had _ _ _ _ (had _ _ _ _ (had _ _ _ _ (had _ _ _ _ (h))))
  exact World.cell?_setCell_same _ _ _ hu
theorem set10_c5 {w : World} {b o : Nat} (v0 v1 v2 v3 v4 v5 v6 v7 v8 v9 : Value) (h : ∃ v, w.cell? ⟨b, o + 5, none⟩ = some v) : (set10 w b o v0 v1 v2 v3 v4 v5 v6 v7 v8 v9).cell? ⟨b, o + 5, none⟩ = some v5 := by
  have key : ∀ (w : World) (i k : Nat) (v : Value), i ≠ k → (w.setCell ⟨b, i, none⟩ v).cell? ⟨b, k, none⟩ = w.cell? ⟨b, k, none⟩ := fun w i k v hi => World.cell?_setCell_other _ _ _ _ (by intro e; injection e with e1 e2; omega)
  have had : ∀ (w : World) (i k : Nat) (v : Value), (∃ v, w.cell? ⟨b, k, none⟩ = some v) → ∃ u, (w.setCell ⟨b, i, none⟩ v).cell? ⟨b, k, none⟩ = some u := fun w i k v ⟨u, hu⟩ => ⟨_, cell_set hu⟩
  unfold set10
  rw [key _ (o + 9) (o + 5) _ (by omega), key _ (o + 8) (o + 5) _ (by omega), key _ (o + 7) (o + 5) _ (by omega), key _ (o + 6) (o + 5) _ (by omega)]
  obtain ⟨u, hu⟩ := had _ _ _ _ (had _ _ _ _ (had _ _ _ _ (had _ _ _ _ (had _ _ _ _ (h)))))
  exact World.cell?_setCell_same _ _ _ hu
theorem set10_c6 {w : World} {b o : Nat} (v0 v1 v2 v3 v4 v5 v6 v7 v8 v9 : Value) (h : ∃ v, w.cell? ⟨b, o + 6, none⟩ = some v) : (set10 w b o v0 v1 v2 v3 v4 v5 v6 v7 v8 v9).cell? ⟨b, o + 6, none⟩ = some v6 := by
  have key : ∀ (w : World) (i k : Nat) (v : Value), i ≠ k → (w.setCell ⟨b, i, none⟩ v).cell? ⟨b, k, none⟩ = w.cell? ⟨b, k, none⟩ := fun w i k v hi => World.cell?_setCell_other _ _ _ _ (by intro e; injection e with e1 e2; omega)
  have had : ∀ (w : World) (i k : Nat) (v : Value), (∃ v, w.cell? ⟨b, k, none⟩ = some v) → ∃ u, (w.setCell ⟨b, i, none⟩ v).cell? ⟨b, k, none⟩ = some u := fun w i k v ⟨u, hu⟩ => ⟨_, cell_set hu⟩
  unfold set10
  rw [key _ (o + 9) (o + 6) _ (by omega), key _ (o + 8) (o + 6) _ (by omega), key _ (o + 7) (o + 6) _ (by omega)]
  obtain ⟨u, hu⟩ := had _ _ _ _ (had _ _ _ _ (had _ _ _ _ (had _ _ _ _ (had _ _ _ _ (had _ _ _ _ (h))))))
  exact World.cell?_setCell_same _ _ _ hu
theorem set10_c7 {w : World} {b o : Nat} (v0 v1 v2 v3 v4 v5 v6 v7 v8 v9 : Value) (h : ∃ v, w.cell? ⟨b, o + 7, none⟩ = some v) : (set10 w b o v0 v1 v2 v3 v4 v5 v6 v7 v8 v9).cell? ⟨b, o + 7, none⟩ = some v7 := by
  have key : ∀ (w : World) (i k : Nat) (v : Value), i ≠ k → (w.setCell ⟨b, i, none⟩ v).cell? ⟨b, k, none⟩ = w.cell? ⟨b, k, none⟩ := fun w i k v hi => World.cell?_setCell_other _ _ _ _ (by intro e; injection e with e1 e2; omega)
  have had : ∀ (w : World) (i k : Nat) (v : Value), (∃ v, w.cell? ⟨b, k, none⟩ = some v) → ∃ u, (w.setCell ⟨b, i, none⟩ v).cell? ⟨b, k, none⟩ = some u := fun w i k v ⟨u, hu⟩ => ⟨_, cell_set hu⟩
  unfold set10
  rw [key _ (o + 9) (o + 7) _ (by omega), key _ (o + 8) (o + 7) _ (by omega)]
  obtain ⟨u, hu⟩ := had _ _ _ _ (had _ _ _ _ (had _ _ _ _ (had _ _ _ _ (had _ _ _ _ (had _ _ _ _ (had _ _ _ _ (h)))))))
  exact World.cell?_setCell_same _ _ _ hu
theorem set10_c8 {w : World} {b o : Nat} (v0 v1 v2 v3 v4 v5 v6 v7 v8 v9 : Value) (h : ∃ v, w.cell? ⟨b, o + 8, none⟩ = some v) : (set10 w b o v0 v1 v2 v3 v4 v5 v6 v7 v8 v9).cell? ⟨b, o + 8, none⟩ = some v8 := by
  have key : ∀ (w : World) (i k : Nat) (v : Value), i ≠ k → (w.setCell ⟨b, i, none⟩ v).cell? ⟨b, k, none⟩ = w.cell? ⟨b, k, none⟩ := fun w i k v hi => World.cell?_setCell_other _ _ _ _ (by intro e; injection e with e1 e2; omega)
  have had : ∀ (w : World) (i k : Nat) (v : Value), (∃ v, w.cell? ⟨b, k, none⟩ = some v) → ∃ u, (w.setCell ⟨b, i, none⟩ v).cell? ⟨b, k, none⟩ = some u := fun w i k v ⟨u, hu⟩ => ⟨_, cell_set hu⟩
  unfold set10
  rw [key _ (o + 9) (o + 8) _ (by omega)]
  obtain ⟨u, hu⟩ := had _ _ _ _ (had _ _ _ _ (had _ _ _ _ (had _ _ _ _ (had _ _ _ _ (had _ _ _ _ (had _ _ _ _ (had _ _ _ _ (h))))))))
  exact World.cell?_setCell_same _ _ _ hu
theorem set10_c9 {w : World} {b o : Nat} (v0 v1 v2 v3 v4 v5 v6 v7 v8 v9 : Value) (h : ∃ v, w.cell? ⟨b, o + 9, none⟩ = some v) : (set10 w b o v0 v1 v2 v3 v4 v5 v6 v7 v8 v9).cell? ⟨b, o + 9, none⟩ = some v9 := by
  have had : ∀ (w : World) (i k : Nat) (v : Value), (∃ v, w.cell? ⟨b, k, none⟩ = some v) → ∃ u, (w.setCell ⟨b, i, none⟩ v).cell? ⟨b, k, none⟩ = some u := fun w i k v ⟨u, hu⟩ => ⟨_, cell_set hu⟩
  unfold set10
  obtain ⟨u, hu⟩ := had _ _ _ _ (had _ _ _ _ (had _ _ _ _ (had _ _ _ _ (had _ _ _ _ (had _ _ _ _ (had _ _ _ _ (had _ _ _ _ (had _ _ _ _ (h)))))))))
  exact World.cell?_setCell_same _ _ _ hu

/-- Block N of w is a row of n commands of the call's own, the first k of which are those of l; what they lead to lies behind it. -/
def ORow (w : World) (N n : Nat) (l : List Cm) (k : Nat) : Prop :=
  N < w.heap.size ∧ (∀ j, j < n * 10 → (∃ v, w.cell? ⟨N, j, none⟩ = some v) ∧ w.frozen? ⟨N, j, none⟩ = false) ∧ OsAt w (N + 1) w.heap.size N 0 (l.take k)

theorem ORow.start (w : World) (n : Nat) (l : List Cm) : ORow (w.alloc (.cells (crow n) 59)) w.heap.size n l 0 := by
  refine ⟨by simp, fun j hj => ⟨?_, by simp⟩, ?_⟩
  · rw [World.cell?_alloc_new]
    exact ⟨(crow n)[j]'(by rw [size_crow]; exact hj), by simp [size_crow, hj]⟩
  · simp [OsAt]

theorem ORow.below {B : Nat} {w w' : World} {N n k : Nat} {l : List Cm} (h : ORow w N n l k) (hb : Below B w w') (hB : w.heap.size ≤ B) : ORow w' N n l k := by
  obtain ⟨h1, h2, h3⟩ := h
  have c : ∀ j, w'.cell? ⟨N, j, none⟩ = w.cell? ⟨N, j, none⟩ := fun j => hb.cell (p := ⟨N, j, none⟩) (by show N < B; omega)
  have f : ∀ j, w'.frozen? ⟨N, j, none⟩ = w.frozen? ⟨N, j, none⟩ := fun j => hb.frozen (p := ⟨N, j, none⟩) (by show N < B; omega)
  refine ⟨Nat.lt_of_lt_of_le h1 hb.size, fun j hj => ?_, (h3.keep _ _ _ _ _ (Eqf.of_below hb hB) (fun j _ _ => c j) (fun j _ _ => f j)).wide hb.size⟩
  rw [c, f]; exact h2 j hj

theorem ORow.step {w w1 : World} {N n k : Nat} {l : List Cm} (h : ORow w N n l k) (hk : k < n) (hn : n = l.length) (hb : Below w.heap.size w w1) {b0 b1 b2 b3 bA m bB : Nat} {c : Cm} (hc : c = l.getD k Cm.zero) (V : OVal w1 w.heap.size w1.heap.size c b0 b1 b2 b3 bA m bB) :
    ORow (set10 w1 N (k * 10) (.int .i64 c.k) (.int .i64 c.x) (.int .i64 c.y) (.bool c.q) (.slice (some ⟨b0, 0, none⟩) c.l0.length c.l0.length) (.slice (some ⟨b1, 0, none⟩) c.l1.length c.l1.length) (.slice (some ⟨b2, 0, none⟩) c.l2.length c.l2.length) (.slice (some ⟨b3, 0, none⟩) c.l3.length c.l3.length) (.slice (some ⟨bA, 0, none⟩) c.A.length c.A.length) (.slice (some ⟨bB, 0, none⟩) c.B.length c.B.length)) N n l (k + 1) := by
  obtain ⟨h1, h2, h3⟩ := h.below hb (Nat.le_refl _)
  have hN : N < w.heap.size := h.1
  have h4 := h.2.2
  have c' : ∀ j, w1.cell? ⟨N, j, none⟩ = w.cell? ⟨N, j, none⟩ := fun j => hb.cell (p := ⟨N, j, none⟩) hN
  have f' : ∀ j, w1.frozen? ⟨N, j, none⟩ = w.frozen? ⟨N, j, none⟩ := fun j => hb.frozen (p := ⟨N, j, none⟩) hN
  have h5 : OsAt w1 (N + 1) w.heap.size N 0 (l.take k) := h4.keep _ _ _ _ _ (Eqf.of_below hb (Nat.le_refl _)) (fun j _ _ => c' j) (fun j _ _ => f' j)
  have hl : (l.take k).length = k := by rw [List.length_take]; omega
  have has : ∀ j, j < n * 10 → ∃ v, w1.cell? ⟨N, j, none⟩ = some v := fun j hj => (h2 j hj).1
  refine ⟨by rw [set10_size]; exact h1, fun j hj => ⟨set10_has _ _ _ _ _ _ _ _ _ _ (has j hj), by rw [set10_frozen]; exact (h2 j hj).2⟩, ?_⟩
  rw [set10_size, List.take_succ_eq_append_getElem (by omega)]
  have e : l[k]'(by omega) = c := by rw [hc, List.getD_eq_getElem?_getD, List.getElem?_eq_getElem (by omega)]; rfl
  rw [e]
  refine OsAt.snoc (m := w.heap.size) (h5.keep _ _ _ _ _ (set10_eqf _ _ _ _ _ _ _ _ _ _ (.inl (by omega))) (fun j _ hj => set10_other _ _ _ _ _ _ _ _ _ _ (.inr (.inl (by rw [hl] at hj; omega)))) (fun j _ _ => set10_frozen _ _ _ _ _ _ _ _ _ _ _ _)) hb.size ?_
  rw [hl, Nat.zero_add]
  exact OAt.mk ⟨set10_c0 _ _ _ _ _ _ _ _ _ _ (has _ (by omega)), set10_c1 _ _ _ _ _ _ _ _ _ _ (has _ (by omega)), set10_c2 _ _ _ _ _ _ _ _ _ _ (has _ (by omega)), set10_c3 _ _ _ _ _ _ _ _ _ _ (has _ (by omega)), set10_c4 _ _ _ _ _ _ _ _ _ _ (has _ (by omega)), set10_c5 _ _ _ _ _ _ _ _ _ _ (has _ (by omega)), set10_c6 _ _ _ _ _ _ _ _ _ _ (has _ (by omega)), set10_c7 _ _ _ _ _ _ _ _ _ _ (has _ (by omega)), set10_c8 _ _ _ _ _ _ _ _ _ _ (has _ (by omega)), set10_c9 _ _ _ _ _ _ _ _ _ _ (has _ (by omega)), fun j hj => by rw [set10_frozen]; exact (h2 _ (by omega)).2⟩ (V.keep (set10_eqf _ _ _ _ _ _ _ _ _ _ (.inl hN)))

set_option maxHeartbeats 1000000 in
theorem toCmdS_any : ∀ l : List Cm, ToS l := by
  refine Cm.ind fun l ih => ?_
  intro w lo hi a cap hr hh hs
  obtain ⟨hm, hr⟩ := hr
  have hn : l.length ≤ 1048576 := Nat.le_trans (len_le_cnts l) hs
  have HCELL : Hid (∀ k, k < l.length → ∃ b o, a = some ⟨b, o, none⟩ ∧ lo ≤ b ∧ b < hi ∧ CAt w lo hi b (o + k * 10) (l.getD k Cm.zero)) := by
    intro k hk
    rcases hr with rfl | ⟨b, o, rfl, g1, g2, hc⟩
    · simp at hk
    · exact ⟨b, o, rfl, g1, g2, hc.get k hk⟩
  clear hr
  have HIH : Hid (∀ k, k < l.length → ToS (l.getD k Cm.zero).A ∧ ToS (l.getD k Cm.zero).B ∧ (l.getD k Cm.zero).cnt ≤ 1048576) := fun k hk => ⟨(ih _ (mem_getD hk)).1, (ih _ (mem_getD hk)).2, by have := cnt_le_cnts hk; omega⟩
  have HLN : Hid (∃ n, n = l.length) := ⟨_, rfl⟩
  have hmk := run_makeC l.length hn
  have hst := ORow.start w l.length l
  have hbl : Below w.heap.size w (w.alloc (.cells (crow l.length) 59)) := (Below.refl _ _).alloc (Nat.le_refl _) _
  have HTK : Hid (∀ k, k = l.length → l.take k = l) := fun k hk => by rw [hk, List.take_length]
  clear ih hs hm HLN
  generalize hN : l.length = n at *
  have HN : Hid (n = l.length) := hN.symm
  clear hN
  go_enter Try.func52, Try.ntmps52
  go_wp2
  go_loopw [4] (fun i wr => ∃ k : Nat, k ≤ n ∧ i = .int .i64 k ∧ ORow wr w.heap.size n l k ∧ Below w.heap.size w wr) (fun i _ => n - (intOf i).toNat)
  case atStart => exact ⟨0, Nat.zero_le _, rfl, hst, hbl⟩
  case round =>
    clear hst hbl
    obtain ⟨k, hk, rfl, ho, hbw⟩ := hrel
    by_cases hlt : k < n
    · obtain ⟨b, o, rfl, e1, e2, hc⟩ := HCELL.out k hlt
      obtain ⟨HA', HB', hcn⟩ := HIH.out k hlt
      obtain ⟨a0, a1, a2, a3, aA, aB, c0, c1, c2, c3, cA, cB, X, V⟩ := hc.out
      clear hc
      generalize hce : l.getD k Cm.zero = c at *
      have HCE : Hid (c = l.getD k Cm.zero) := hce.symm
      clear hce
      replace X := X.below hbw (by omega)
      replace V := V.below hbw hh
      have x0 := X.e0; have x1 := X.e1; have x2 := X.e2; have x3 := X.e3; have x4 := X.e4; have x5 := X.e5; have x6 := X.e6; have x7 := X.e7; have x8 := X.e8; have x9 := X.e9
      clear X
      have hsz : w.heap.size < wr.heap.size := ho.1
      go_wp2_with fail
      clear x0 x1 x2 x3 x4 x5 x6 x7 x8 x9
      refine (toCmd_of HA' HB' _ _ _ _ _ _ _ _ _ _ _ _ _ _ _ V (Nat.le_trans hh hbw.size) hcn).mono ?_
      rintro e w1 ⟨b0, b1, b2, b3, bA, m, bB, rfl, V1, hb1⟩
      have ho1 := ho.step hlt HN.out hb1 HCE.out V1
      have hbw1 : Below w.heap.size w w1 := hbw.trans (hb1.mono hbw.size)
      have hbw2 := set10_below (b := w.heap.size) (o := k * 10) (.int .i64 c.k) (.int .i64 c.x) (.int .i64 c.y) (.bool c.q) (.slice (some ⟨b0, 0, none⟩) c.l0.length c.l0.length) (.slice (some ⟨b1, 0, none⟩) c.l1.length c.l1.length) (.slice (some ⟨b2, 0, none⟩) c.l2.length c.l2.length) (.slice (some ⟨b3, 0, none⟩) c.l3.length c.l3.length) (.slice (some ⟨bA, 0, none⟩) c.A.length c.A.length) (.slice (some ⟨bB, 0, none⟩) c.B.length c.B.length) hbw1 (Nat.le_refl _)
      have hh1 := ho.below hb1 (Nat.le_refl _)
      obtain ⟨u0, y0⟩ := (hh1.2.1 (k * 10 + 0) (by omega)).1
      obtain ⟨u1, y1⟩ := (hh1.2.1 (k * 10 + 1) (by omega)).1
      obtain ⟨u2, y2⟩ := (hh1.2.1 (k * 10 + 2) (by omega)).1
      obtain ⟨u3, y3⟩ := (hh1.2.1 (k * 10 + 3) (by omega)).1
      obtain ⟨u4, y4⟩ := (hh1.2.1 (k * 10 + 4) (by omega)).1
      obtain ⟨u5, y5⟩ := (hh1.2.1 (k * 10 + 5) (by omega)).1
      obtain ⟨u6, y6⟩ := (hh1.2.1 (k * 10 + 6) (by omega)).1
      obtain ⟨u7, y7⟩ := (hh1.2.1 (k * 10 + 7) (by omega)).1
      obtain ⟨u8, y8⟩ := (hh1.2.1 (k * 10 + 8) (by omega)).1
      obtain ⟨u9, y9⟩ := (hh1.2.1 (k * 10 + 9) (by omega)).1
      have z0 := (hh1.2.1 (k * 10 + 0) (by omega)).2
      have z1 := (hh1.2.1 (k * 10 + 1) (by omega)).2
      have z2 := (hh1.2.1 (k * 10 + 2) (by omega)).2
      have z3 := (hh1.2.1 (k * 10 + 3) (by omega)).2
      have z4 := (hh1.2.1 (k * 10 + 4) (by omega)).2
      have z5 := (hh1.2.1 (k * 10 + 5) (by omega)).2
      have z6 := (hh1.2.1 (k * 10 + 6) (by omega)).2
      have z7 := (hh1.2.1 (k * 10 + 7) (by omega)).2
      have z8 := (hh1.2.1 (k * 10 + 8) (by omega)).2
      have z9 := (hh1.2.1 (k * 10 + 9) (by omega)).2
      rw [Nat.add_zero] at y0 z0
      have HF : Hid (ORow (set10 w1 w.heap.size (k * 10) (.int .i64 c.k) (.int .i64 c.x) (.int .i64 c.y) (.bool c.q) (.slice (some ⟨b0, 0, none⟩) c.l0.length c.l0.length) (.slice (some ⟨b1, 0, none⟩) c.l1.length c.l1.length) (.slice (some ⟨b2, 0, none⟩) c.l2.length c.l2.length) (.slice (some ⟨b3, 0, none⟩) c.l3.length c.l3.length) (.slice (some ⟨bA, 0, none⟩) c.A.length c.A.length) (.slice (some ⟨bB, 0, none⟩) c.B.length c.B.length)) w.heap.size n l (k + 1) ∧ Below w.heap.size w (set10 w1 w.heap.size (k * 10) (.int .i64 c.k) (.int .i64 c.x) (.int .i64 c.y) (.bool c.q) (.slice (some ⟨b0, 0, none⟩) c.l0.length c.l0.length) (.slice (some ⟨b1, 0, none⟩) c.l1.length c.l1.length) (.slice (some ⟨b2, 0, none⟩) c.l2.length c.l2.length) (.slice (some ⟨b3, 0, none⟩) c.l3.length c.l3.length) (.slice (some ⟨bA, 0, none⟩) c.A.length c.A.length) (.slice (some ⟨bB, 0, none⟩) c.B.length c.B.length))) := ⟨ho1, hbw2⟩
      clear ho1 hbw2 hh1 ho hbw hb1 V1 V
      go_wp2
      go_roundw
      case rel =>
        have HG := HF.out
        unfold set10 at HG
        exact ⟨k + 1, by omega, by go_num, HG.1, HG.2⟩
      case measure => simp [intOf]; omega
    · go_wp2
      go_ret
      obtain rfl : k = n := by omega
      refine ⟨_, rfl, Nat.le_refl _, ho.1, ?_, hbw⟩
      have := ho.2.2
      rw [HTK.out k rfl] at this
      exact this

end Go.Proofs.Ytccldjodijdciaa
