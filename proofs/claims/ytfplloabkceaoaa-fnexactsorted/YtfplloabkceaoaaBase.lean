/-
  Plain lemmas for the other texts of this seat: rows of pairs of integers in memory, read and kept. No statement is proved here.
-/
import Derived.WalkKit
import Derived.Below
namespace Go.Proofs.Ytfplloabkceaoaa
open Go.RowKit

/-- The slice that begins at 'a' reads as the pairs of l. -/
def PRow (w : World) (a : Option Addr) (l : List (Int × Int)) : Prop :=
  l = [] ∨ ∃ b off, a = some ⟨b, off, none⟩ ∧ b < w.heap.size ∧
    ∀ i, i < l.length → w.cell? ⟨b, off + i * 2, none⟩ = some (.int .i64 (l.getD i (0, 0)).1) ∧ w.cell? ⟨b, off + i * 2 + 1, none⟩ = some (.int .i64 (l.getD i (0, 0)).2)

theorem PRow.below {B : Nat} {w w' : World} {a : Option Addr} {l : List (Int × Int)} (h : PRow w a l) (hb : Below B w w') (hB : w.heap.size ≤ B) : PRow w' a l := by
  rcases h with h | ⟨b, off, rfl, hlt, hc⟩
  · exact .inl h
  · refine .inr ⟨b, off, rfl, Nat.lt_of_lt_of_le hlt hb.size, fun i hi => ?_⟩
    rw [hb.cell (p := ⟨b, _, none⟩) (Nat.lt_of_lt_of_le hlt hB), hb.cell (p := ⟨b, _, none⟩) (Nat.lt_of_lt_of_le hlt hB)]
    exact hc i hi

theorem ret_int {k : IntKind} {a b : Int} (h : a = b) : Ending.returned (.int k a) = .returned (.int k b) := by rw [h]
theorem ret_bool {a b : Bool} (h : a = b) : Ending.returned (.bool a) = .returned (.bool b) := by rw [h]

theorem bcell {W w1 : World} (hb : Below W.heap.size W w1) : (∀ b o, b < W.heap.size → w1.cell? ⟨b, o, none⟩ = W.cell? ⟨b, o, none⟩) ∧ (∀ b o, b < W.heap.size → w1.frozen? ⟨b, o, none⟩ = W.frozen? ⟨b, o, none⟩) :=
  ⟨fun b o h => hb.cell (p := ⟨b, o, none⟩) h, fun b o h => hb.frozen (p := ⟨b, o, none⟩) h⟩

/-- n pairs of zeros. -/
def zrow (n : Nat) : Array Value := madeCells #[.int .i64 0, .int .i64 0] (n * 2)
theorem size_zrow (n : Nat) : (zrow n).size = n * 2 := size_madeCells _ _

/-- Block b of w is a row of n pairs of the call's own, the first k of which are those of l. -/
def Own (w : World) (b n : Nat) (l : List (Int × Int)) (k : Nat) : Prop :=
  b < w.heap.size ∧ (∀ j, j < n * 2 → (∃ v, w.cell? ⟨b, j, none⟩ = some v) ∧ w.frozen? ⟨b, j, none⟩ = false) ∧
    ∀ i, i < k → w.cell? ⟨b, i * 2, none⟩ = some (.int .i64 (l.getD i (0, 0)).1) ∧ w.cell? ⟨b, i * 2 + 1, none⟩ = some (.int .i64 (l.getD i (0, 0)).2)

theorem Own.start (w : World) (n : Nat) (l : List (Int × Int)) : Own (w.alloc (.cells (zrow n) 69)) w.heap.size n l 0 := by
  refine ⟨by simp, fun j hj => ⟨?_, by simp⟩, fun i hi => by omega⟩
  rw [World.cell?_alloc_new]
  exact ⟨(zrow n)[j]'(by rw [size_zrow]; exact hj), by simp [size_zrow, hj]⟩

theorem Own.below {B : Nat} {w w' : World} {b n k : Nat} {l : List (Int × Int)} (h : Own w b n l k) (hb : Below B w w') (hB : b < B) : Own w' b n l k := by
  obtain ⟨h1, h2, h3⟩ := h
  refine ⟨Nat.lt_of_lt_of_le h1 hb.size, fun j hj => ?_, fun i hi => ?_⟩
  · rw [hb.cell (p := ⟨b, j, none⟩) hB, hb.frozen (p := ⟨b, j, none⟩) hB]; exact h2 j hj
  · rw [hb.cell (p := ⟨b, _, none⟩) hB, hb.cell (p := ⟨b, _, none⟩) hB]; exact h3 i hi

theorem Own.step {w : World} {b n k : Nat} {l : List (Int × Int)} (h : Own w b n l k) (hk : k < n) :
    Own ((w.setCell ⟨b, k * 2, none⟩ (.int .i64 (l.getD k (0, 0)).1)).setCell ⟨b, k * 2 + 1, none⟩ (.int .i64 (l.getD k (0, 0)).2)) b n l (k + 1) := by
  obtain ⟨h1, h2, h3⟩ := h
  have key : ∀ (w : World) (a c : Nat) (x : Value) (v : Value), w.cell? ⟨b, c, none⟩ = some v → ((w.setCell ⟨b, a, none⟩ x).cell? ⟨b, c, none⟩ = some (if a = c then x else v)) := by
    intro w a c x v hv
    by_cases e : a = c
    · subst e; rw [if_pos rfl]; exact World.cell?_setCell_same _ _ _ hv
    · rw [if_neg e, World.cell?_setCell_other _ _ _ _ (by intro h; exact e (by injection h))]; exact hv
  refine ⟨by simpa using h1, fun j hj => ⟨?_, by simpa using (h2 j hj).2⟩, fun i hi => ?_⟩
  · obtain ⟨v, hv⟩ := (h2 j hj).1
    exact ⟨_, key _ _ _ _ _ (key _ _ _ _ _ hv)⟩
  · by_cases e : i = k
    · subst e
      obtain ⟨v, hv⟩ := (h2 (i * 2) (by omega)).1
      obtain ⟨u, hu⟩ := (h2 (i * 2 + 1) (by omega)).1
      refine ⟨?_, ?_⟩
      · rw [key _ _ _ _ _ (key _ _ _ _ _ hv), if_neg (by omega), if_pos rfl]
      · rw [key _ _ _ _ _ (key _ _ _ _ _ hu), if_pos rfl]
    · have h4 := h3 i (by omega)
      refine ⟨?_, ?_⟩
      · rw [key _ _ _ _ _ (key _ _ _ _ _ h4.1), if_neg (by omega), if_neg (by omega)]
      · rw [key _ _ _ _ _ (key _ _ _ _ _ h4.2), if_neg (by omega), if_neg (by omega)]

theorem Own.row {w : World} {b n : Nat} {l : List (Int × Int)} (h : Own w b n l l.length) : PRow w (some ⟨b, 0, none⟩) l := by
  refine .inr ⟨b, 0, rfl, h.1, fun i hi => ?_⟩
  have := h.2.2 i hi
  simpa using this

theorem Own.other {w : World} {b n k : Nat} {l : List (Int × Int)} (h : Own w b n l k) (b' i' : Nat) (hp : b' ≠ b) (u : Value) : Own (w.setCell ⟨b', i', none⟩ u) b n l k := by
  obtain ⟨h1, h2, h3⟩ := h
  have key : ∀ c, (w.setCell ⟨b', i', none⟩ u).cell? ⟨b, c, none⟩ = w.cell? ⟨b, c, none⟩ := fun c => World.cell?_setCell_other _ _ _ _ (by intro e; exact hp (by injection e))
  refine ⟨by simpa using h1, fun j hj => ?_, fun i hi => ?_⟩
  · rw [key]; simpa using h2 j hj
  · rw [key, key]; exact h3 i hi

theorem Own.alloc {w : World} {b n k : Nat} {l : List (Int × Int)} (h : Own w b n l k) (o : Obj) : Own (w.alloc o) b n l k :=
  h.below ((Below.refl _ _).alloc (Nat.le_refl _) o) h.1

/-- Block b of w holds four cells, none of them frozen. -/
structure Box (w : World) (b : Nat) (v0 v1 v2 v3 : Value) : Prop where
  lt : b < w.heap.size
  c0 : w.cell? ⟨b, 0, none⟩ = some v0
  c1 : w.cell? ⟨b, 1, none⟩ = some v1
  c2 : w.cell? ⟨b, 2, none⟩ = some v2
  c3 : w.cell? ⟨b, 3, none⟩ = some v3
  f0 : w.frozen? ⟨b, 0, none⟩ = false
  f1 : w.frozen? ⟨b, 1, none⟩ = false
  f2 : w.frozen? ⟨b, 2, none⟩ = false
  f3 : w.frozen? ⟨b, 3, none⟩ = false

theorem Box.new (w : World) (v0 v1 v2 v3 : Value) (t : TypeId) : Box (w.alloc (.cells #[v0, v1, v2, v3] t)) w.heap.size v0 v1 v2 v3 := by
  constructor <;> simp

theorem Box.below {B : Nat} {w w' : World} {b : Nat} {v0 v1 v2 v3 : Value} (h : Box w b v0 v1 v2 v3) (hb : Below B w w') (hB : b < B) : Box w' b v0 v1 v2 v3 := by
  refine ⟨Nat.lt_of_lt_of_le h.lt hb.size, ?_, ?_, ?_, ?_, ?_, ?_, ?_, ?_⟩
  · rw [hb.cell (p := ⟨b, _, none⟩) hB]; exact h.c0
  · rw [hb.cell (p := ⟨b, _, none⟩) hB]; exact h.c1
  · rw [hb.cell (p := ⟨b, _, none⟩) hB]; exact h.c2
  · rw [hb.cell (p := ⟨b, _, none⟩) hB]; exact h.c3
  · rw [hb.frozen (p := ⟨b, _, none⟩) hB]; exact h.f0
  · rw [hb.frozen (p := ⟨b, _, none⟩) hB]; exact h.f1
  · rw [hb.frozen (p := ⟨b, _, none⟩) hB]; exact h.f2
  · rw [hb.frozen (p := ⟨b, _, none⟩) hB]; exact h.f3

theorem Box.alloc {w : World} {b : Nat} {v0 v1 v2 v3 : Value} (h : Box w b v0 v1 v2 v3) (o : Obj) : Box (w.alloc o) b v0 v1 v2 v3 :=
  h.below ((Below.refl _ _).alloc (Nat.le_refl _) o) h.lt

theorem Box.other {w : World} {b : Nat} {v0 v1 v2 v3 : Value} (h : Box w b v0 v1 v2 v3) (b' i' : Nat) (hp : b' ≠ b) (u : Value) : Box (w.setCell ⟨b', i', none⟩ u) b v0 v1 v2 v3 := by
  have key : ∀ c, (w.setCell ⟨b', i', none⟩ u).cell? ⟨b, c, none⟩ = w.cell? ⟨b, c, none⟩ := fun c => World.cell?_setCell_other _ _ _ _ (by intro e; exact hp (by injection e))
  refine ⟨by simpa using h.lt, ?_, ?_, ?_, ?_, by simpa using h.f0, by simpa using h.f1, by simpa using h.f2, by simpa using h.f3⟩
  · rw [key]; exact h.c0
  · rw [key]; exact h.c1
  · rw [key]; exact h.c2
  · rw [key]; exact h.c3

theorem cell_set {w : World} {b : Nat} {a c : Nat} {x v : Value} (hv : w.cell? ⟨b, c, none⟩ = some v) : (w.setCell ⟨b, a, none⟩ x).cell? ⟨b, c, none⟩ = some (if a = c then x else v) := by
  by_cases e : a = c
  · subst e; rw [if_pos rfl]; exact World.cell?_setCell_same _ _ _ hv
  · rw [if_neg e, World.cell?_setCell_other _ _ _ _ (by intro h; exact e (by injection h))]; exact hv

theorem Box.set {w : World} {b : Nat} {v0 v1 v2 v3 : Value} (h : Box w b v0 v1 v2 v3) (i : Nat) (u : Value) :
    Box (w.setCell ⟨b, i, none⟩ u) b (if i = 0 then u else v0) (if i = 1 then u else v1) (if i = 2 then u else v2) (if i = 3 then u else v3) :=
  ⟨by simpa using h.lt, cell_set h.c0, cell_set h.c1, cell_set h.c2, cell_set h.c3, by simpa using h.f0, by simpa using h.f1, by simpa using h.f2, by simpa using h.f3⟩

theorem Below.set {B : Nat} {a w : World} (h : Below B a w) (b i : Nat) (hp : B ≤ b) (u : Value) : Below B a (w.setCell ⟨b, i, none⟩ u) := h.setCell (p := ⟨b, i, none⟩) hp u

theorem Box.set0 {w : World} {b : Nat} {v0 v1 v2 v3 : Value} (h : Box w b v0 v1 v2 v3) (u : Value) : Box (w.setCell ⟨b, 0, none⟩ u) b u v1 v2 v3 := by simpa using h.set 0 u
theorem Box.set1 {w : World} {b : Nat} {v0 v1 v2 v3 : Value} (h : Box w b v0 v1 v2 v3) (u : Value) : Box (w.setCell ⟨b, 1, none⟩ u) b v0 u v2 v3 := by simpa using h.set 1 u
theorem Box.set2 {w : World} {b : Nat} {v0 v1 v2 v3 : Value} (h : Box w b v0 v1 v2 v3) (u : Value) : Box (w.setCell ⟨b, 2, none⟩ u) b v0 v1 u v3 := by simpa using h.set 2 u
theorem Box.set3 {w : World} {b : Nat} {v0 v1 v2 v3 : Value} (h : Box w b v0 v1 v2 v3) (u : Value) : Box (w.setCell ⟨b, 3, none⟩ u) b v0 v1 v2 u := by simpa using h.set 3 u

theorem Box.drew {w : World} {b : Nat} {v0 v1 v2 v3 : Value} (h : Box w b v0 v1 v2 v3) : Box w.drew b v0 v1 v2 v3 := h.below ((Below.refl _ _).drew) h.lt
theorem Own.drew {w : World} {b n k : Nat} {l : List (Int × Int)} (h : Own w b n l k) : Own w.drew b n l k := h.below ((Below.refl _ _).drew) h.1

end Go.Proofs.Ytfplloabkceaoaa
