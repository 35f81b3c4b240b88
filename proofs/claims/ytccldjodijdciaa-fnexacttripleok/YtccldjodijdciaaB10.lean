/-
  The contracts of laws.toCmd and laws.toCmdS: a copy of the commands in new blocks.
-/
import Derived.Test.YtccldjodijdciaaChecked
import Derived.Test.YtccldjodijdciaaTo
import Derived.Test.YtccldjodijdciaaCSz
import Derived.Outline
namespace Go.Proofs.Ytccldjodijdciaa
open Go.RowKit

/-- Block b of w is ten cells, none of them frozen. -/
structure B10 (w : World) (b : Nat) (v0 v1 v2 v3 v4 v5 v6 v7 v8 v9 : Value) : Prop where
  lt : b < w.heap.size
  c0 : w.cell? ⟨b, 0, none⟩ = some v0
  c1 : w.cell? ⟨b, 1, none⟩ = some v1
  c2 : w.cell? ⟨b, 2, none⟩ = some v2
  c3 : w.cell? ⟨b, 3, none⟩ = some v3
  c4 : w.cell? ⟨b, 4, none⟩ = some v4
  c5 : w.cell? ⟨b, 5, none⟩ = some v5
  c6 : w.cell? ⟨b, 6, none⟩ = some v6
  c7 : w.cell? ⟨b, 7, none⟩ = some v7
  c8 : w.cell? ⟨b, 8, none⟩ = some v8
  c9 : w.cell? ⟨b, 9, none⟩ = some v9
  f0 : w.frozen? ⟨b, 0, none⟩ = false
  f1 : w.frozen? ⟨b, 1, none⟩ = false
  f2 : w.frozen? ⟨b, 2, none⟩ = false
  f3 : w.frozen? ⟨b, 3, none⟩ = false
  f4 : w.frozen? ⟨b, 4, none⟩ = false
  f5 : w.frozen? ⟨b, 5, none⟩ = false
  f6 : w.frozen? ⟨b, 6, none⟩ = false
  f7 : w.frozen? ⟨b, 7, none⟩ = false
  f8 : w.frozen? ⟨b, 8, none⟩ = false
  f9 : w.frozen? ⟨b, 9, none⟩ = false

theorem B10.new (w : World) (v0 v1 v2 v3 v4 v5 v6 v7 v8 v9 : Value) (t : TypeId) : B10 (w.alloc (.cells #[v0, v1, v2, v3, v4, v5, v6, v7, v8, v9] t)) w.heap.size v0 v1 v2 v3 v4 v5 v6 v7 v8 v9 := by
  constructor <;> simp
theorem B10.below {B : Nat} {w w' : World} {b : Nat} {v0 v1 v2 v3 v4 v5 v6 v7 v8 v9 : Value} (h : B10 w b v0 v1 v2 v3 v4 v5 v6 v7 v8 v9) (hb : Below B w w') (hB : b < B) : B10 w' b v0 v1 v2 v3 v4 v5 v6 v7 v8 v9 := by
  have c : ∀ j, w'.cell? ⟨b, j, none⟩ = w.cell? ⟨b, j, none⟩ := fun j => hb.cell (p := ⟨b, j, none⟩) hB
  have f : ∀ j, w'.frozen? ⟨b, j, none⟩ = w.frozen? ⟨b, j, none⟩ := fun j => hb.frozen (p := ⟨b, j, none⟩) hB
  exact ⟨Nat.lt_of_lt_of_le h.lt hb.size, (c _).trans h.c0, (c _).trans h.c1, (c _).trans h.c2, (c _).trans h.c3, (c _).trans h.c4, (c _).trans h.c5, (c _).trans h.c6, (c _).trans h.c7, (c _).trans h.c8, (c _).trans h.c9, (f _).trans h.f0, (f _).trans h.f1, (f _).trans h.f2, (f _).trans h.f3, (f _).trans h.f4, (f _).trans h.f5, (f _).trans h.f6, (f _).trans h.f7, (f _).trans h.f8, (f _).trans h.f9⟩
theorem B10.alloc {w : World} {b : Nat} {v0 v1 v2 v3 v4 v5 v6 v7 v8 v9 : Value} (h : B10 w b v0 v1 v2 v3 v4 v5 v6 v7 v8 v9) (o : Obj) : B10 (w.alloc o) b v0 v1 v2 v3 v4 v5 v6 v7 v8 v9 :=
  h.below ((Below.refl _ _).alloc (Nat.le_refl _) o) h.lt
theorem B10.other {w : World} {b : Nat} {v0 v1 v2 v3 v4 v5 v6 v7 v8 v9 : Value} (h : B10 w b v0 v1 v2 v3 v4 v5 v6 v7 v8 v9) (b' i' : Nat) (hp : b' ≠ b) (u : Value) : B10 (w.setCell ⟨b', i', none⟩ u) b v0 v1 v2 v3 v4 v5 v6 v7 v8 v9 := by
  have c : ∀ j, (w.setCell ⟨b', i', none⟩ u).cell? ⟨b, j, none⟩ = w.cell? ⟨b, j, none⟩ := fun j => World.cell?_setCell_other _ _ _ _ (by intro e; exact hp (by injection e))
  exact ⟨by simpa using h.lt, (c _).trans h.c0, (c _).trans h.c1, (c _).trans h.c2, (c _).trans h.c3, (c _).trans h.c4, (c _).trans h.c5, (c _).trans h.c6, (c _).trans h.c7, (c _).trans h.c8, (c _).trans h.c9, (by simpa using h.f0), (by simpa using h.f1), (by simpa using h.f2), (by simpa using h.f3), (by simpa using h.f4), (by simpa using h.f5), (by simpa using h.f6), (by simpa using h.f7), (by simpa using h.f8), (by simpa using h.f9)⟩
theorem B10.set0 {w : World} {b : Nat} {v0 v1 v2 v3 v4 v5 v6 v7 v8 v9 : Value} (h : B10 w b v0 v1 v2 v3 v4 v5 v6 v7 v8 v9) (u : Value) : B10 (w.setCell ⟨b, 0, none⟩ u) b u v1 v2 v3 v4 v5 v6 v7 v8 v9 :=
  ⟨by simpa using h.lt, (by simpa using cell_set (a := 0) (x := u) h.c0), (by simpa using cell_set (a := 0) (x := u) h.c1), (by simpa using cell_set (a := 0) (x := u) h.c2), (by simpa using cell_set (a := 0) (x := u) h.c3), (by simpa using cell_set (a := 0) (x := u) h.c4), (by simpa using cell_set (a := 0) (x := u) h.c5), (by simpa using cell_set (a := 0) (x := u) h.c6), (by simpa using cell_set (a := 0) (x := u) h.c7), (by simpa using cell_set (a := 0) (x := u) h.c8), (by simpa using cell_set (a := 0) (x := u) h.c9), (by simpa using h.f0), (by simpa using h.f1), (by simpa using h.f2), (by simpa using h.f3), (by simpa using h.f4), (by simpa using h.f5), (by simpa using h.f6), (by simpa using h.f7), (by simpa using h.f8), (by simpa using h.f9)⟩
theorem B10.set1 {w : World} {b : Nat} {v0 v1 v2 v3 v4 v5 v6 v7 v8 v9 : Value} (h : B10 w b v0 v1 v2 v3 v4 v5 v6 v7 v8 v9) (u : Value) : B10 (w.setCell ⟨b, 1, none⟩ u) b v0 u v2 v3 v4 v5 v6 v7 v8 v9 :=
  ⟨by simpa using h.lt, (by simpa using cell_set (a := 1) (x := u) h.c0), (by simpa using cell_set (a := 1) (x := u) h.c1), (by simpa using cell_set (a := 1) (x := u) h.c2), (by simpa using cell_set (a := 1) (x := u) h.c3), (by simpa using cell_set (a := 1) (x := u) h.c4), (by simpa using cell_set (a := 1) (x := u) h.c5), (by simpa using cell_set (a := 1) (x := u) h.c6), (by simpa using cell_set (a := 1) (x := u) h.c7), (by simpa using cell_set (a := 1) (x := u) h.c8), (by simpa using cell_set (a := 1) (x := u) h.c9), (by simpa using h.f0), (by simpa using h.f1), (by simpa using h.f2), (by simpa using h.f3), (by simpa using h.f4), (by simpa using h.f5), (by simpa using h.f6), (by simpa using h.f7), (by simpa using h.f8), (by simpa using h.f9)⟩
theorem B10.set2 {w : World} {b : Nat} {v0 v1 v2 v3 v4 v5 v6 v7 v8 v9 : Value} (h : B10 w b v0 v1 v2 v3 v4 v5 v6 v7 v8 v9) (u : Value) : B10 (w.setCell ⟨b, 2, none⟩ u) b v0 v1 u v3 v4 v5 v6 v7 v8 v9 :=
  ⟨by simpa using h.lt, (by simpa using cell_set (a := 2) (x := u) h.c0), (by simpa using cell_set (a := 2) (x := u) h.c1), (by simpa using cell_set (a := 2) (x := u) h.c2), (by simpa using cell_set (a := 2) (x := u) h.c3), (by simpa using cell_set (a := 2) (x := u) h.c4), (by simpa using cell_set (a := 2) (x := u) h.c5), (by simpa using cell_set (a := 2) (x := u) h.c6), (by simpa using cell_set (a := 2) (x := u) h.c7), (by simpa using cell_set (a := 2) (x := u) h.c8), (by simpa using cell_set (a := 2) (x := u) h.c9), (by simpa using h.f0), (by simpa using h.f1), (by simpa using h.f2), (by simpa using h.f3), (by simpa using h.f4), (by simpa using h.f5), (by simpa using h.f6), (by simpa using h.f7), (by simpa using h.f8), (by simpa using h.f9)⟩
theorem B10.set3 {w : World} {b : Nat} {v0 v1 v2 v3 v4 v5 v6 v7 v8 v9 : Value} (h : B10 w b v0 v1 v2 v3 v4 v5 v6 v7 v8 v9) (u : Value) : B10 (w.setCell ⟨b, 3, none⟩ u) b v0 v1 v2 u v4 v5 v6 v7 v8 v9 :=
  ⟨by simpa using h.lt, (by simpa using cell_set (a := 3) (x := u) h.c0), (by simpa using cell_set (a := 3) (x := u) h.c1), (by simpa using cell_set (a := 3) (x := u) h.c2), (by simpa using cell_set (a := 3) (x := u) h.c3), (by simpa using cell_set (a := 3) (x := u) h.c4), (by simpa using cell_set (a := 3) (x := u) h.c5), (by simpa using cell_set (a := 3) (x := u) h.c6), (by simpa using cell_set (a := 3) (x := u) h.c7), (by simpa using cell_set (a := 3) (x := u) h.c8), (by simpa using cell_set (a := 3) (x := u) h.c9), (by simpa using h.f0), (by simpa using h.f1), (by simpa using h.f2), (by simpa using h.f3), (by simpa using h.f4), (by simpa using h.f5), (by simpa using h.f6), (by simpa using h.f7), (by simpa using h.f8), (by simpa using h.f9)⟩
theorem B10.set4 {w : World} {b : Nat} {v0 v1 v2 v3 v4 v5 v6 v7 v8 v9 : Value} (h : B10 w b v0 v1 v2 v3 v4 v5 v6 v7 v8 v9) (u : Value) : B10 (w.setCell ⟨b, 4, none⟩ u) b v0 v1 v2 v3 u v5 v6 v7 v8 v9 :=
  ⟨by simpa using h.lt, (by simpa using cell_set (a := 4) (x := u) h.c0), (by simpa using cell_set (a := 4) (x := u) h.c1), (by simpa using cell_set (a := 4) (x := u) h.c2), (by simpa using cell_set (a := 4) (x := u) h.c3), (by simpa using cell_set (a := 4) (x := u) h.c4), (by simpa using cell_set (a := 4) (x := u) h.c5), (by simpa using cell_set (a := 4) (x := u) h.c6), (by simpa using cell_set (a := 4) (x := u) h.c7), (by simpa using cell_set (a := 4) (x := u) h.c8), (by simpa using cell_set (a := 4) (x := u) h.c9), (by simpa using h.f0), (by simpa using h.f1), (by simpa using h.f2), (by simpa using h.f3), (by simpa using h.f4), (by simpa using h.f5), (by simpa using h.f6), (by simpa using h.f7), (by simpa using h.f8), (by simpa using h.f9)⟩
theorem B10.set5 {w : World} {b : Nat} {v0 v1 v2 v3 v4 v5 v6 v7 v8 v9 : Value} (h : B10 w b v0 v1 v2 v3 v4 v5 v6 v7 v8 v9) (u : Value) : B10 (w.setCell ⟨b, 5, none⟩ u) b v0 v1 v2 v3 v4 u v6 v7 v8 v9 :=
  ⟨by simpa using h.lt, (by simpa using cell_set (a := 5) (x := u) h.c0), (by simpa using cell_set (a := 5) (x := u) h.c1), (by simpa using cell_set (a := 5) (x := u) h.c2), (by simpa using cell_set (a := 5) (x := u) h.c3), (by simpa using cell_set (a := 5) (x := u) h.c4), (by simpa using cell_set (a := 5) (x := u) h.c5), (by simpa using cell_set (a := 5) (x := u) h.c6), (by simpa using cell_set (a := 5) (x := u) h.c7), (by simpa using cell_set (a := 5) (x := u) h.c8), (by simpa using cell_set (a := 5) (x := u) h.c9), (by simpa using h.f0), (by simpa using h.f1), (by simpa using h.f2), (by simpa using h.f3), (by simpa using h.f4), (by simpa using h.f5), (by simpa using h.f6), (by simpa using h.f7), (by simpa using h.f8), (by simpa using h.f9)⟩
theorem B10.set6 {w : World} {b : Nat} {v0 v1 v2 v3 v4 v5 v6 v7 v8 v9 : Value} (h : B10 w b v0 v1 v2 v3 v4 v5 v6 v7 v8 v9) (u : Value) : B10 (w.setCell ⟨b, 6, none⟩ u) b v0 v1 v2 v3 v4 v5 u v7 v8 v9 :=
  ⟨by simpa using h.lt, (by simpa using cell_set (a := 6) (x := u) h.c0), (by simpa using cell_set (a := 6) (x := u) h.c1), (by simpa using cell_set (a := 6) (x := u) h.c2), (by simpa using cell_set (a := 6) (x := u) h.c3), (by simpa using cell_set (a := 6) (x := u) h.c4), (by simpa using cell_set (a := 6) (x := u) h.c5), (by simpa using cell_set (a := 6) (x := u) h.c6), (by simpa using cell_set (a := 6) (x := u) h.c7), (by simpa using cell_set (a := 6) (x := u) h.c8), (by simpa using cell_set (a := 6) (x := u) h.c9), (by simpa using h.f0), (by simpa using h.f1), (by simpa using h.f2), (by simpa using h.f3), (by simpa using h.f4), (by simpa using h.f5), (by simpa using h.f6), (by simpa using h.f7), (by simpa using h.f8), (by simpa using h.f9)⟩
theorem B10.set7 {w : World} {b : Nat} {v0 v1 v2 v3 v4 v5 v6 v7 v8 v9 : Value} (h : B10 w b v0 v1 v2 v3 v4 v5 v6 v7 v8 v9) (u : Value) : B10 (w.setCell ⟨b, 7, none⟩ u) b v0 v1 v2 v3 v4 v5 v6 u v8 v9 :=
  ⟨by simpa using h.lt, (by simpa using cell_set (a := 7) (x := u) h.c0), (by simpa using cell_set (a := 7) (x := u) h.c1), (by simpa using cell_set (a := 7) (x := u) h.c2), (by simpa using cell_set (a := 7) (x := u) h.c3), (by simpa using cell_set (a := 7) (x := u) h.c4), (by simpa using cell_set (a := 7) (x := u) h.c5), (by simpa using cell_set (a := 7) (x := u) h.c6), (by simpa using cell_set (a := 7) (x := u) h.c7), (by simpa using cell_set (a := 7) (x := u) h.c8), (by simpa using cell_set (a := 7) (x := u) h.c9), (by simpa using h.f0), (by simpa using h.f1), (by simpa using h.f2), (by simpa using h.f3), (by simpa using h.f4), (by simpa using h.f5), (by simpa using h.f6), (by simpa using h.f7), (by simpa using h.f8), (by simpa using h.f9)⟩
theorem B10.set8 {w : World} {b : Nat} {v0 v1 v2 v3 v4 v5 v6 v7 v8 v9 : Value} (h : B10 w b v0 v1 v2 v3 v4 v5 v6 v7 v8 v9) (u : Value) : B10 (w.setCell ⟨b, 8, none⟩ u) b v0 v1 v2 v3 v4 v5 v6 v7 u v9 :=
  ⟨by simpa using h.lt, (by simpa using cell_set (a := 8) (x := u) h.c0), (by simpa using cell_set (a := 8) (x := u) h.c1), (by simpa using cell_set (a := 8) (x := u) h.c2), (by simpa using cell_set (a := 8) (x := u) h.c3), (by simpa using cell_set (a := 8) (x := u) h.c4), (by simpa using cell_set (a := 8) (x := u) h.c5), (by simpa using cell_set (a := 8) (x := u) h.c6), (by simpa using cell_set (a := 8) (x := u) h.c7), (by simpa using cell_set (a := 8) (x := u) h.c8), (by simpa using cell_set (a := 8) (x := u) h.c9), (by simpa using h.f0), (by simpa using h.f1), (by simpa using h.f2), (by simpa using h.f3), (by simpa using h.f4), (by simpa using h.f5), (by simpa using h.f6), (by simpa using h.f7), (by simpa using h.f8), (by simpa using h.f9)⟩
theorem B10.set9 {w : World} {b : Nat} {v0 v1 v2 v3 v4 v5 v6 v7 v8 v9 : Value} (h : B10 w b v0 v1 v2 v3 v4 v5 v6 v7 v8 v9) (u : Value) : B10 (w.setCell ⟨b, 9, none⟩ u) b v0 v1 v2 v3 v4 v5 v6 v7 v8 u :=
  ⟨by simpa using h.lt, (by simpa using cell_set (a := 9) (x := u) h.c0), (by simpa using cell_set (a := 9) (x := u) h.c1), (by simpa using cell_set (a := 9) (x := u) h.c2), (by simpa using cell_set (a := 9) (x := u) h.c3), (by simpa using cell_set (a := 9) (x := u) h.c4), (by simpa using cell_set (a := 9) (x := u) h.c5), (by simpa using cell_set (a := 9) (x := u) h.c6), (by simpa using cell_set (a := 9) (x := u) h.c7), (by simpa using cell_set (a := 9) (x := u) h.c8), (by simpa using cell_set (a := 9) (x := u) h.c9), (by simpa using h.f0), (by simpa using h.f1), (by simpa using h.f2), (by simpa using h.f3), (by simpa using h.f4), (by simpa using h.f5), (by simpa using h.f6), (by simpa using h.f7), (by simpa using h.f8), (by simpa using h.f9)⟩

end Go.Proofs.Ytccldjodijdciaa
