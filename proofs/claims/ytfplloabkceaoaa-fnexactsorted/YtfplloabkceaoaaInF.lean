/-
  Pairs put in order, one after the other: as a function.
-/
import Derived.Test.YtfplloabkceaoaaBase
namespace Go.Proofs.Ytfplloabkceaoaa
open Go.RowKit

def lessP (x y : Int × Int) : Bool := decide (x.1 < y.1 ∨ (x.1 = y.1 ∧ x.2 < y.2))
/-- Where x goes among those of l ahead of a place, from behind. -/
def posG (l : List (Int × Int)) (x : Int × Int) : Nat → Nat
  | 0 => 0
  | i + 1 => if lessP x (l.getD i (0, 0)) = true then posG l x i else i + 1
def insP (l : List (Int × Int)) (x : Int × Int) : List (Int × Int) := l.take (posG l x l.length) ++ x :: l.drop (posG l x l.length)
def sortG (l : List (Int × Int)) : Nat → List (Int × Int)
  | 0 => []
  | k + 1 => insP (sortG l k) (l.getD k (0, 0))
def sortP (l : List (Int × Int)) : List (Int × Int) := sortG l l.length

theorem posG_le (l : List (Int × Int)) (x : Int × Int) : ∀ i, posG l x i ≤ i
  | 0 => Nat.le_refl _
  | i + 1 => by
    unfold posG
    split
    · exact Nat.le_succ_of_le (posG_le l x i)
    · exact Nat.le_refl _
theorem posG_on {l : List (Int × Int)} {x : Int × Int} {i : Nat} (h : lessP x (l.getD i (0, 0)) = true) : posG l x (i + 1) = posG l x i := by
  rw [posG, if_pos h]
theorem posG_end {l : List (Int × Int)} {x : Int × Int} {i : Nat} (h : lessP x (l.getD i (0, 0)) = false) : posG l x (i + 1) = i + 1 := by
  rw [posG, if_neg (by rw [h]; decide)]
theorem insP_length (l : List (Int × Int)) (x : Int × Int) : (insP l x).length = l.length + 1 := by
  have := posG_le l x l.length
  unfold insP
  simp only [List.length_append, List.length_take, List.length_cons, List.length_drop]
  omega
theorem sortG_length (l : List (Int × Int)) : ∀ k, (sortG l k).length = k
  | 0 => rfl
  | k + 1 => by rw [sortG, insP_length, sortG_length l k]
theorem sortP_length (l : List (Int × Int)) : (sortP l).length = l.length := sortG_length l _

/-- Cells of pairs, one set. -/
theorem Own.put {w : World} {b n : Nat} {l : List (Int × Int)} (h : Own w b n l n) {j : Nat} (hl : l.length = n) (x : Int × Int) :
    Own ((w.setCell ⟨b, j * 2, none⟩ (.int .i64 x.1)).setCell ⟨b, j * 2 + 1, none⟩ (.int .i64 x.2)) b n (l.set j x) n := by
  obtain ⟨h1, h2, h3⟩ := h
  have hc : ∀ o v, w.cell? ⟨b, o, none⟩ = some v → ((w.setCell ⟨b, j * 2, none⟩ (.int .i64 x.1)).setCell ⟨b, j * 2 + 1, none⟩ (.int .i64 x.2)).cell? ⟨b, o, none⟩ = some (if j * 2 + 1 = o then .int .i64 x.2 else if j * 2 = o then .int .i64 x.1 else v) := by
    intro o v hv
    rw [cell_set (cell_set hv)]
  refine ⟨by simpa using h1, fun k hk => ⟨?_, by simpa using (h2 k hk).2⟩, fun i hi => ?_⟩
  · obtain ⟨v, hv⟩ := (h2 k hk).1
    exact ⟨_, hc _ v hv⟩
  · obtain ⟨e1, e2⟩ := h3 i hi
    have hset : (l.set j x).getD i (0, 0) = if j = i then x else l.getD i (0, 0) := by
      rw [List.getD_eq_getElem?_getD, List.getElem?_set]
      by_cases e : j = i
      · rw [if_pos e, if_pos (by omega), if_pos e]; rfl
      · rw [if_neg e, if_neg e, ← List.getD_eq_getElem?_getD]
    rw [hc _ _ e1, hc _ _ e2, hset]
    by_cases e : j = i
    · have e2 : (if j = i then x else l.getD i (0, 0)) = x := if_pos e
      rw [e2]
      constructor
      · rw [if_neg (by omega), if_pos (by omega)]
      · rw [if_pos (by omega)]
    · rw [if_neg e]
      constructor
      · rw [if_neg (by omega), if_neg (by omega)]
      · rw [if_neg (by omega), if_neg (by omega)]

end Go.Proofs.Ytfplloabkceaoaa
