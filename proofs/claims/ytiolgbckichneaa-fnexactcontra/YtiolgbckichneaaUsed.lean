/-
  The contracts of spec.l1mark and spec.l1used: which terms are in the lists.
-/
import Derived.Test.YtiolgbckichneaaOkI
namespace Go.Proofs.Ytiolgbckichneaa
open Go.RowKit

/-- w' is w but for block b and new blocks. -/
structure Kept (b : Nat) (w w' : World) : Prop where
  os : w'.os = w.os
  tape : w'.tape = w.tape
  output : w'.output = w.output
  size : w.heap.size ≤ w'.heap.size
  block : ∀ k, k ≠ b → k < w.heap.size → w'.heap[k]? = w.heap[k]?

theorem Kept.refl (b : Nat) (w : World) : Kept b w w := ⟨rfl, rfl, rfl, Nat.le_refl _, fun _ _ _ => rfl⟩
theorem Kept.below {b B : Nat} {w w' : World} (h : Kept b w w') (hB : B ≤ b) (hs : B ≤ w.heap.size) : Below B w w' :=
  ⟨h.os, h.tape, h.output, h.size, fun k hk => h.block k (by omega) (by omega)⟩
theorem Kept.set {b : Nat} {a w : World} (h : Kept b a w) (i : Nat) (u : Value) : Kept b a (w.setCell ⟨b, i, none⟩ u) :=
  ⟨h.os, h.tape, h.output, by simpa using h.size, fun k hk hs => (Below.heap_setCell _ _ _ _ (by simpa using hk)).trans (h.block k hk hs)⟩
theorem Kept.cell {b : Nat} {w w' : World} (h : Kept b w w') {c o : Nat} (hc : c ≠ b) (hs : c < w.heap.size) : w'.cell? ⟨c, o, none⟩ = w.cell? ⟨c, o, none⟩ := World.cell?_of_block (w := w) (h.block c hc hs)
theorem Kept.frozen {b : Nat} {w w' : World} (h : Kept b w w') {c o : Nat} (hc : c ≠ b) (hs : c < w.heap.size) : w'.frozen? ⟨c, o, none⟩ = w.frozen? ⟨c, o, none⟩ := World.frozen?_of_block (w := w) (h.block c hc hs)

theorem Box.kept {c : Nat} {w w' : World} {b : Nat} {v0 v1 v2 v3 : Value} (h : Box w b v0 v1 v2 v3) (hk : Kept c w w') (hc : b ≠ c) : Box w' b v0 v1 v2 v3 := by
  refine ⟨Nat.lt_of_lt_of_le h.lt hk.size, ?_, ?_, ?_, ?_, ?_, ?_, ?_, ?_⟩
  · rw [hk.cell hc h.lt]; exact h.c0
  · rw [hk.cell hc h.lt]; exact h.c1
  · rw [hk.cell hc h.lt]; exact h.c2
  · rw [hk.cell hc h.lt]; exact h.c3
  · rw [hk.frozen hc h.lt]; exact h.f0
  · rw [hk.frozen hc h.lt]; exact h.f1
  · rw [hk.frozen hc h.lt]; exact h.f2
  · rw [hk.frozen hc h.lt]; exact h.f3

/-- Block b holds sixteen flags. -/
def BRow (w : World) (b : Nat) (f : Nat → Bool) : Prop := b < w.heap.size ∧ ∀ j, j < 16 → w.cell? ⟨b, j, none⟩ = some (.bool (f j)) ∧ w.frozen? ⟨b, j, none⟩ = false

theorem BRow.below {B : Nat} {w w' : World} {b : Nat} {f : Nat → Bool} (h : BRow w b f) (hb : Below B w w') (hB : b < B) : BRow w' b f :=
  ⟨Nat.lt_of_lt_of_le h.1 hb.size, fun j hj => by rw [hb.cell (p := ⟨b, j, none⟩) hB, hb.frozen (p := ⟨b, j, none⟩) hB]; exact h.2 j hj⟩

theorem BRow.set {w : World} {b : Nat} {f : Nat → Bool} (h : BRow w b f) (i : Nat) : BRow (w.setCell ⟨b, i, none⟩ (.bool true)) b (fun j => f j || j == i) := by
  refine ⟨by simpa using h.1, fun j hj => ⟨?_, by simpa using (h.2 j hj).2⟩⟩
  rw [cell_set (h.2 j hj).1]
  by_cases e : i = j
  · subst e; simp
  · rw [if_neg e]; simp [show ¬ j = i from fun x => e x.symm]

theorem BRow.other {w : World} {b : Nat} {f : Nat → Bool} (h : BRow w b f) (b' i' : Nat) (hp : b' ≠ b) (u : Value) : BRow (w.setCell ⟨b', i', none⟩ u) b f := by
  refine ⟨by simpa using h.1, fun j hj => ⟨?_, by simpa using (h.2 j hj).2⟩⟩
  rw [World.cell?_setCell_other _ _ _ _ (by intro e; exact hp (by injection e))]
  exact (h.2 j hj).1

theorem BRow.congr {w : World} {b : Nat} {f g : Nat → Bool} (h : BRow w b f) (e : ∀ j, j < 16 → f j = g j) : BRow w b g := ⟨h.1, fun j hj => by rw [← e j hj]; exact h.2 j hj⟩

def inL (l : List (Int × Int)) (j : Nat) : Bool := l.any fun p => p.1 == (j : Int) || p.2 == (j : Int)
def usedV (l0 l1 l2 l3 : List (Int × Int)) (j : Nat) : Bool := inL l0 j || inL l1 j || inL l2 j || inL l3 j

theorem inL_step {l : List (Int × Int)} {k : Nat} (hk : k < l.length) (j : Nat) : inL (l.take (k + 1)) j = (inL (l.take k) j || ((l[k]?.getD (0, 0)).1 == (j : Int) || (l[k]?.getD (0, 0)).2 == (j : Int))) := by
  unfold inL
  rw [List.take_succ_eq_append_getElem hk, List.any_append]
  simp [hk]

theorem toks_at {l : List (Int × Int)} (h : toks l = true) {k : Nat} (hk : k < l.length) : (0 ≤ (l[k]?.getD (0, 0)).1 ∧ (l[k]?.getD (0, 0)).1 < 16) ∧ 0 ≤ (l[k]?.getD (0, 0)).2 ∧ (l[k]?.getD (0, 0)).2 < 16 := by
  unfold toks at h
  rw [List.all_eq_true] at h
  have := h l[k] (List.getElem_mem hk)
  simpa [tok, hk] using this

/-- The slice at 'a' does not lie in block b. -/
def Off (a : Option Addr) (l : List (Int × Int)) (b : Nat) : Prop := l = [] ∨ ∀ x, a = some x → x.block ≠ b

theorem PRow.off {w : World} {a : Option Addr} {l : List (Int × Int)} (h : PRow w a l) {b : Nat} (hb : w.heap.size ≤ b) : Off a l b := by
  rcases h with h | ⟨c, off, rfl, hlt, _⟩
  · exact .inl h
  · exact .inr fun x hx => by injection hx with hx; subst hx; show c ≠ b; omega

end Go.Proofs.Ytiolgbckichneaa
