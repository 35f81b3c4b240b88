/-
  What Normal calls in one statement, in whatever order Go does it: words for the variable and the rows.
-/
import Derived.Test.YtmiiebmnjijhoaaCu
import Derived.Test.YtmiiebmnjijhoaaIn
import Derived.Test.YtmiiebmnjijhoaaLk
import Derived.Test.YtmiiebmnjijhoaaL3
import Derived.Test.YtmiiebmnjijhoaaCl
import Derived.Test.YtmiiebmnjijhoaaSSubst
import Derived.Test.YtmiiebmnjijhoaaBh
namespace Go.Proofs.Ytmiiebmnjijhoaa
open Go.RowKit
set_option linter.unusedVariables false

theorem tK {cur W u : World} {N A : Nat} {v0 v1 v2 v3 : Value} (h : Below cur.heap.size cur W ∧ N ≤ W.heap.size ∧ W.cell? ⟨A, 0, none⟩ = some v0 ∧ W.cell? ⟨A, 1, none⟩ = some v1 ∧ W.cell? ⟨A, 2, none⟩ = some v2 ∧ W.cell? ⟨A, 3, none⟩ = some v3) (hb : Below W.heap.size W u) : Below cur.heap.size cur u ∧ N ≤ u.heap.size ∧ u.cell? ⟨A, 0, none⟩ = some v0 ∧ u.cell? ⟨A, 1, none⟩ = some v1 ∧ u.cell? ⟨A, 2, none⟩ = some v2 ∧ u.cell? ⟨A, 3, none⟩ = some v3 := by
  obtain ⟨h0, h1, c0, c1, c2, c3⟩ := h
  have key : ∀ (b o : Nat) (v : Value), W.cell? ⟨b, o, none⟩ = some v → u.cell? ⟨b, o, none⟩ = some v := fun b o v hc => by rw [hb.cell (p := ⟨b, o, none⟩) (World.block_lt_of_cell? _ _ hc)]; exact hc
  exact ⟨Below.link h0 hb, Nat.le_trans h1 hb.size, key _ _ _ c0, key _ _ _ c1, key _ _ _ c2, key _ _ _ c3⟩
theorem tAl {cur W : World} {N A : Nat} {v0 v1 v2 v3 : Value} (o : Obj) (h : Below cur.heap.size cur W ∧ N ≤ W.heap.size ∧ W.cell? ⟨A, 0, none⟩ = some v0 ∧ W.cell? ⟨A, 1, none⟩ = some v1 ∧ W.cell? ⟨A, 2, none⟩ = some v2 ∧ W.cell? ⟨A, 3, none⟩ = some v3) : Below cur.heap.size cur (W.alloc o) ∧ N ≤ (W.alloc o).heap.size ∧ (W.alloc o).cell? ⟨A, 0, none⟩ = some v0 ∧ (W.alloc o).cell? ⟨A, 1, none⟩ = some v1 ∧ (W.alloc o).cell? ⟨A, 2, none⟩ = some v2 ∧ (W.alloc o).cell? ⟨A, 3, none⟩ = some v3 := tK h ((Below.refl _ _).alloc (Nat.le_refl _) o)
theorem tAd {cur W : World} {N A : Nat} {v0 v1 v2 v3 : Value} (o : Obj) (h : Below cur.heap.size cur W.drew ∧ N ≤ W.drew.heap.size ∧ W.drew.cell? ⟨A, 0, none⟩ = some v0 ∧ W.drew.cell? ⟨A, 1, none⟩ = some v1 ∧ W.drew.cell? ⟨A, 2, none⟩ = some v2 ∧ W.drew.cell? ⟨A, 3, none⟩ = some v3) : Below cur.heap.size cur (W.alloc o).drew ∧ N ≤ (W.alloc o).drew.heap.size ∧ (W.alloc o).drew.cell? ⟨A, 0, none⟩ = some v0 ∧ (W.alloc o).drew.cell? ⟨A, 1, none⟩ = some v1 ∧ (W.alloc o).drew.cell? ⟨A, 2, none⟩ = some v2 ∧ (W.alloc o).drew.cell? ⟨A, 3, none⟩ = some v3 := tAl o h
theorem tSt {cur W : World} {N A : Nat} {v0 v1 v2 v3 : Value} (y0 y1 y2 y3 : Value) (Z : Nat) (hz : cur.heap.size ≤ Z) (ha : A < cur.heap.size) (h : Below cur.heap.size cur W ∧ N ≤ W.heap.size ∧ W.cell? ⟨A, 0, none⟩ = some v0 ∧ W.cell? ⟨A, 1, none⟩ = some v1 ∧ W.cell? ⟨A, 2, none⟩ = some v2 ∧ W.cell? ⟨A, 3, none⟩ = some v3) : Below cur.heap.size cur ((((W.setCell ⟨Z, 0, none⟩ y0).setCell ⟨Z, 1, none⟩ y1).setCell ⟨Z, 2, none⟩ y2).setCell ⟨Z, 3, none⟩ y3) ∧ N ≤ ((((W.setCell ⟨Z, 0, none⟩ y0).setCell ⟨Z, 1, none⟩ y1).setCell ⟨Z, 2, none⟩ y2).setCell ⟨Z, 3, none⟩ y3).heap.size ∧ ((((W.setCell ⟨Z, 0, none⟩ y0).setCell ⟨Z, 1, none⟩ y1).setCell ⟨Z, 2, none⟩ y2).setCell ⟨Z, 3, none⟩ y3).cell? ⟨A, 0, none⟩ = some v0 ∧ ((((W.setCell ⟨Z, 0, none⟩ y0).setCell ⟨Z, 1, none⟩ y1).setCell ⟨Z, 2, none⟩ y2).setCell ⟨Z, 3, none⟩ y3).cell? ⟨A, 1, none⟩ = some v1 ∧ ((((W.setCell ⟨Z, 0, none⟩ y0).setCell ⟨Z, 1, none⟩ y1).setCell ⟨Z, 2, none⟩ y2).setCell ⟨Z, 3, none⟩ y3).cell? ⟨A, 2, none⟩ = some v2 ∧ ((((W.setCell ⟨Z, 0, none⟩ y0).setCell ⟨Z, 1, none⟩ y1).setCell ⟨Z, 2, none⟩ y2).setCell ⟨Z, 3, none⟩ y3).cell? ⟨A, 3, none⟩ = some v3 := by
  obtain ⟨h0, h1, c0, c1, c2, c3⟩ := h
  have key : ∀ (V : World) (i o : Nat) (u : Value), (V.setCell ⟨Z, i, none⟩ u).cell? ⟨A, o, none⟩ = V.cell? ⟨A, o, none⟩ := fun V i o u => World.cell?_setCell_other _ _ _ _ (by intro e; injection e with e1; omega)
  refine ⟨Below.set (Below.set (Below.set (Below.set h0 _ _ hz _) _ _ hz _) _ _ hz _) _ _ hz _, by simpa using h1, ?_, ?_, ?_, ?_⟩
  all_goals (rw [key, key, key, key]; assumption)

/-- A row of pairs in a block from lo on, not in block Z. -/
def RowNe (w : World) (lo Z : Nat) (a : Option Addr) (n : Nat) (l : List (Int × Int)) : Prop := l.length = n ∧ (n = 0 ∨ ∃ b, a = some ⟨b, 0, none⟩ ∧ lo ≤ b ∧ b ≠ Z ∧ Own w b n l n)
theorem RowNe.of {w : World} {lo hi lo' Z n : Nat} {a : Option Addr} {l : List (Int × Int)} (h : RowIn w lo' hi a n l) (h1 : lo ≤ lo') (h2 : Z < lo' ∨ hi ≤ Z) : RowNe w lo Z a n l := by
  obtain ⟨hl, h0 | ⟨b, rfl, h3, h4, h5⟩⟩ := h
  · exact ⟨hl, .inl h0⟩
  · exact ⟨hl, .inr ⟨b, rfl, by omega, by omega, h5⟩⟩
theorem RowNe.below {w w' : World} {lo Z n : Nat} {a : Option Addr} {l : List (Int × Int)} (h : RowNe w lo Z a n l) (hb : Below w.heap.size w w') : RowNe w' lo Z a n l := by
  obtain ⟨hl, h0 | ⟨b, rfl, h3, h4, h5⟩⟩ := h
  · exact ⟨hl, .inl h0⟩
  · exact ⟨hl, .inr ⟨b, rfl, h3, h4, h5.below hb h5.1⟩⟩
theorem RowNe.grown {w w' : World} {lo Z n g : Nat} {a : Option Addr} {l : List (Int × Int)} {row : Option Nat} (h : RowNe w lo Z a n l) (hg : w.grownBy w' row) (hr : ∀ b, row = some b → ∀ b', a = some ⟨b', 0, none⟩ → b' ≠ b) : RowNe w' lo Z a n l := by
  obtain ⟨hl, h0 | ⟨b, rfl, h3, h4, h5⟩⟩ := h
  · exact ⟨hl, .inl h0⟩
  · refine ⟨hl, .inr ⟨b, rfl, h3, h4, ?_⟩⟩
    have hne : some b ≠ row := fun e => hr b e.symm b rfl rfl
    obtain ⟨g1, g2, g3⟩ := h5
    refine ⟨Nat.lt_of_lt_of_le g1 hg.size, fun j hj => ?_, fun i hi => ?_⟩
    · rw [hg.cell_far ⟨b, j, none⟩ g1 hne, hg.frozen_far ⟨b, j, none⟩ g1 hne]; exact g2 j hj
    · rw [hg.cell_far ⟨b, _, none⟩ g1 hne, hg.cell_far ⟨b, _, none⟩ g1 hne]; exact g3 i hi
theorem RowNe.set {w : World} {lo Z n i : Nat} {a : Option Addr} {l : List (Int × Int)} (h : RowNe w lo Z a n l) (u : Value) : RowNe (w.setCell ⟨Z, i, none⟩ u) lo Z a n l := by
  obtain ⟨hl, h0 | ⟨b, rfl, h3, h4, h5⟩⟩ := h
  · exact ⟨hl, .inl h0⟩
  · exact ⟨hl, .inr ⟨b, rfl, h3, h4, h5.other Z i (fun e => h4 e.symm) u⟩⟩
theorem RowNe.row {w : World} {lo Z n : Nat} {a : Option Addr} {l : List (Int × Int)} (h : RowNe w lo Z a n l) : RowIn w lo w.heap.size a n l := by
  obtain ⟨hl, h0 | ⟨b, rfl, h3, h4, h5⟩⟩ := h
  · exact ⟨hl, .inl h0⟩
  · exact RowIn.ofOwn h5 hl h3 h5.1

/-- The variable lies in a new block; its first row is empty, the other three are in blocks from cur on. -/
def RelN (cur : World) (U1 U2 U3 : List (Int × Int)) (v6 : Value) (wz : World) : Prop :=
  ∃ Z p1 p2 p3 q1 q2 q3, v6 = .pointer (some ⟨Z, 0, none⟩) ∧ Box wz Z (.slice none 0 0) (.slice p1 U1.length q1) (.slice p2 U2.length q2) (.slice p3 U3.length q3) ∧ RowNe wz cur.heap.size Z p1 U1.length U1 ∧ RowNe wz cur.heap.size Z p2 U2.length U2 ∧ RowNe wz cur.heap.size Z p3 U3.length U3 ∧ Below cur.heap.size cur wz ∧ cur.heap.size ≤ Z

theorem relN_alloc {cur w3 : World} {U1 U2 U3 : List (Int × Int)} {p1 p2 p3 : Option Addr} {q1 q2 q3 : Nat} (hX : Below cur.heap.size cur w3) (T1 : RowIn w3 cur.heap.size w3.heap.size p1 U1.length U1) (T2 : RowIn w3 cur.heap.size w3.heap.size p2 U2.length U2) (T3 : RowIn w3 cur.heap.size w3.heap.size p3 U3.length U3) :
    RelN cur U1 U2 U3 (.pointer (some ⟨w3.heap.size, 0, none⟩)) (w3.alloc (.cells #[.slice none 0 0, .slice p1 U1.length q1, .slice p2 U2.length q2, .slice p3 U3.length q3] 28)) := by
  have al : Below w3.heap.size w3 (w3.alloc (.cells #[.slice none 0 0, .slice p1 U1.length q1, .slice p2 U2.length q2, .slice p3 U3.length q3] 28)) := (Below.refl _ _).alloc (Nat.le_refl _) _
  exact ⟨w3.heap.size, p1, p2, p3, q1, q2, q3, rfl, Box.new w3 (.slice none 0 0) (.slice p1 U1.length q1) (.slice p2 U2.length q2) (.slice p3 U3.length q3) 28, (RowNe.of T1 (Nat.le_refl _) (.inr (Nat.le_refl _))).below al, (RowNe.of T2 (Nat.le_refl _) (.inr (Nat.le_refl _))).below al, (RowNe.of T3 (Nat.le_refl _) (.inr (Nat.le_refl _))).below al, Below.link hX al, hX.size⟩

theorem relN_fill {cur w3 : World} {Z : Nat} {U1 U2 U3 : List (Int × Int)} {p1 p2 p3 : Option Addr} {q1 q2 q3 : Nat} (bx : Box w3 Z (.slice none 0 0) (.slice none 0 0) (.slice none 0 0) (.slice none 0 0)) (hX : Below cur.heap.size cur w3) (hz : cur.heap.size ≤ Z) (T1 : RowNe w3 cur.heap.size Z p1 U1.length U1) (T2 : RowNe w3 cur.heap.size Z p2 U2.length U2) (T3 : RowNe w3 cur.heap.size Z p3 U3.length U3) :
    RelN cur U1 U2 U3 (.pointer (some ⟨Z, 0, none⟩)) ((((w3.setCell ⟨Z, 0, none⟩ (.slice none 0 0)).setCell ⟨Z, 1, none⟩ (.slice p1 U1.length q1)).setCell ⟨Z, 2, none⟩ (.slice p2 U2.length q2)).setCell ⟨Z, 3, none⟩ (.slice p3 U3.length q3)) := by
  obtain ⟨F, FO⟩ := bx.fill (.slice none 0 0) (.slice p1 U1.length q1) (.slice p2 U2.length q2) (.slice p3 U3.length q3)
  exact ⟨Z, p1, p2, p3, q1, q2, q3, rfl, F, (((T1.set _).set _).set _).set _, (((T2.set _).set _).set _).set _, (((T3.set _).set _).set _).set _, hX.trans (FO.below hz hX.size), hz⟩

end Go.Proofs.Ytmiiebmnjijhoaa
