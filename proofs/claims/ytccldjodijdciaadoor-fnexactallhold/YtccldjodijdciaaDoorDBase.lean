/-
  Plain lemmas for the other texts of this seat: rows in memory, read and kept. No statement is proved here.
-/
import Derived.WalkKit
import Derived.Below
namespace Go.Proofs.YtccldjodijdciaaDoor
open Go.RowKit

theorem ret_int {k : IntKind} {a b : Int} (h : a = b) : Ending.returned (.int k a) = .returned (.int k b) := by rw [h]
theorem ret_bool {a b : Bool} (h : a = b) : Ending.returned (.bool a) = .returned (.bool b) := by rw [h]

theorem bcell {W w1 : World} (hb : Below W.heap.size W w1) : (∀ b o, b < W.heap.size → w1.cell? ⟨b, o, none⟩ = W.cell? ⟨b, o, none⟩) ∧ (∀ b o, b < W.heap.size → w1.frozen? ⟨b, o, none⟩ = W.frozen? ⟨b, o, none⟩) :=
  ⟨fun b o h => hb.cell (p := ⟨b, o, none⟩) h, fun b o h => hb.frozen (p := ⟨b, o, none⟩) h⟩

theorem cell_set {w : World} {b : Nat} {a c : Nat} {x v : Value} (hv : w.cell? ⟨b, c, none⟩ = some v) : (w.setCell ⟨b, a, none⟩ x).cell? ⟨b, c, none⟩ = some (if a = c then x else v) := by
  by_cases e : a = c
  · subst e; rw [if_pos rfl]; exact World.cell?_setCell_same _ _ _ hv
  · rw [if_neg e, World.cell?_setCell_other _ _ _ _ (by intro h; exact e (by injection h))]; exact hv

theorem Below.set {B : Nat} {a w : World} (h : Below B a w) (b i : Nat) (hp : B ≤ b) (u : Value) : Below B a (w.setCell ⟨b, i, none⟩ u) := h.setCell (p := ⟨b, i, none⟩) hp u

/-- w' is w but for block b and new blocks. -/
structure Kept (b : Nat) (w w' : World) : Prop where
  os : w'.os = w.os
  tape : w'.tape = w.tape
  output : w'.output = w.output
  size : w.heap.size ≤ w'.heap.size
  block : ∀ k, k ≠ b → k < w.heap.size → w'.heap[k]? = w.heap[k]?

theorem Kept.refl (b : Nat) (w : World) : Kept b w w := ⟨rfl, rfl, rfl, Nat.le_refl _, fun _ _ _ => rfl⟩
theorem Kept.below {b B : Nat} {w w' : World} (h : Kept b w w') (hB : B ≤ b) (hs : B ≤ w.heap.size) : Below B w w' :=
  ⟨h.os, h.tape, h.output, h.size, fun k hk => h.block k (by omega) (by omega)⟩
theorem Kept.set {b : Nat} {a w : World} (h : Kept b a w) (i : Nat) (u : Value) : Kept b a (w.setCell ⟨b, i, none⟩ u) :=
  ⟨h.os, h.tape, h.output, by simpa using h.size, fun k hk hs => (Below.heap_setCell _ _ _ _ (by simpa using hk)).trans (h.block k hk hs)⟩
theorem Kept.cell {b : Nat} {w w' : World} (h : Kept b w w') {c o : Nat} (hc : c ≠ b) (hs : c < w.heap.size) : w'.cell? ⟨c, o, none⟩ = w.cell? ⟨c, o, none⟩ := World.cell?_of_block (w := w) (h.block c hc hs)
theorem Kept.frozen {b : Nat} {w w' : World} (h : Kept b w w') {c o : Nat} (hc : c ≠ b) (hs : c < w.heap.size) : w'.frozen? ⟨c, o, none⟩ = w.frozen? ⟨c, o, none⟩ := World.frozen?_of_block (w := w) (h.block c hc hs)

/-- Outside the blocks from lo to hi, what was there is as it was. -/
structure Out (lo hi : Nat) (w w' : World) : Prop where
  os : w'.os = w.os
  tape : w'.tape = w.tape
  output : w'.output = w.output
  size : w.heap.size ≤ w'.heap.size
  block : ∀ k, k < w.heap.size → k < lo ∨ hi ≤ k → w'.heap[k]? = w.heap[k]?

theorem Out.refl (lo hi : Nat) (w : World) : Out lo hi w w := ⟨rfl, rfl, rfl, Nat.le_refl _, fun _ _ _ => rfl⟩
theorem Out.trans {lo hi : Nat} {a b c : World} (h : Out lo hi a b) (k : Out lo hi b c) : Out lo hi a c :=
  ⟨k.os.trans h.os, k.tape.trans h.tape, k.output.trans h.output, Nat.le_trans h.size k.size, fun i hi' hr => (k.block i (Nat.lt_of_lt_of_le hi' h.size) hr).trans (h.block i hi' hr)⟩
theorem Out.mono {lo hi lo' hi' : Nat} {w w' : World} (h : Out lo hi w w') (h1 : lo' ≤ lo) (h2 : hi ≤ hi') : Out lo' hi' w w' :=
  ⟨h.os, h.tape, h.output, h.size, fun k hk hr => h.block k hk (by omega)⟩
theorem Out.below {B lo hi : Nat} {w w' : World} (h : Out lo hi w w') (hB : B ≤ lo) (hs : B ≤ w.heap.size) : Below B w w' :=
  ⟨h.os, h.tape, h.output, h.size, fun k hk => h.block k (by omega) (by omega)⟩
theorem Out.ofBelow {lo hi : Nat} {w w' : World} (h : Below w.heap.size w w') : Out lo hi w w' := ⟨h.os, h.tape, h.output, h.size, fun k hk _ => h.block k hk⟩
theorem Kept.out {b lo hi : Nat} {w w' : World} (h : Kept b w w') (h1 : lo ≤ b) (h2 : b < hi) : Out lo hi w w' := ⟨h.os, h.tape, h.output, h.size, fun k hk hr => h.block k (by omega) hk⟩

/-- Block b of w is a row of n integers of the call's own, the first k of which are those of l. -/
def OwnY (w : World) (b n : Nat) (l : List Int) (k : Nat) : Prop :=
  b < w.heap.size ∧ (∀ j, j < n → (∃ v, w.cell? ⟨b, j, none⟩ = some v) ∧ w.frozen? ⟨b, j, none⟩ = false) ∧ ∀ i, i < k → w.cell? ⟨b, i, none⟩ = some (.int .u8 (l.getD i 0))

theorem OwnY.below {B : Nat} {w w' : World} {b n k : Nat} {l : List Int} (h : OwnY w b n l k) (hb : Below B w w') (hB : b < B) : OwnY w' b n l k := by
  obtain ⟨h1, h2, h3⟩ := h
  refine ⟨Nat.lt_of_lt_of_le h1 hb.size, fun j hj => ?_, fun i hi => ?_⟩
  · rw [hb.cell (p := ⟨b, j, none⟩) hB, hb.frozen (p := ⟨b, j, none⟩) hB]; exact h2 j hj
  · rw [hb.cell (p := ⟨b, _, none⟩) hB]; exact h3 i hi

theorem OwnY.out {lo hi : Nat} {w w' : World} {b n k : Nat} {l : List Int} (h : OwnY w b n l k) (ho : Out lo hi w w') (hr : b < lo ∨ hi ≤ b) : OwnY w' b n l k := by
  obtain ⟨h1, h2, h3⟩ := h
  have e : ∀ o, w'.cell? ⟨b, o, none⟩ = w.cell? ⟨b, o, none⟩ := fun o => World.cell?_of_block (w := w) (ho.block b h1 hr)
  have f : ∀ o, w'.frozen? ⟨b, o, none⟩ = w.frozen? ⟨b, o, none⟩ := fun o => World.frozen?_of_block (w := w) (ho.block b h1 hr)
  refine ⟨Nat.lt_of_lt_of_le h1 ho.size, fun j hj => ?_, fun i hi => ?_⟩
  · rw [e, f]; exact h2 j hj
  · rw [e]; exact h3 i hi

theorem OwnY.step {w : World} {b n k : Nat} {l : List Int} (h : OwnY w b n l k) (hk : k < n) : OwnY (w.setCell ⟨b, k, none⟩ (.int .u8 (l.getD k 0))) b n l (k + 1) := by
  obtain ⟨h1, h2, h3⟩ := h
  refine ⟨by simpa using h1, fun j hj => ⟨?_, by simpa using (h2 j hj).2⟩, fun i hi => ?_⟩
  · obtain ⟨v, hv⟩ := (h2 j hj).1
    exact ⟨_, cell_set hv⟩
  · by_cases e : i = k
    · subst e
      obtain ⟨v, hv⟩ := (h2 i (by omega)).1
      rw [cell_set hv, if_pos rfl]
    · rw [cell_set (h3 i (by omega)), if_neg (by omega)]

theorem OwnY.zero {w : World} {b n k : Nat} {l m : List Int} (h : OwnY w b n l k) : OwnY w b n m 0 := ⟨h.1, h.2.1, fun i hi => by omega⟩

/-- A slice of n integers that reads as l, in a block of the call's own from lo to hi. -/
def ByteIn (w : World) (lo hi : Nat) (a : Option Addr) (n : Nat) (l : List Int) : Prop :=
  l.length = n ∧ (n = 0 ∨ ∃ b, a = some ⟨b, 0, none⟩ ∧ lo ≤ b ∧ b < hi ∧ OwnY w b n l n)

theorem ByteIn.out {lo hi lo' hi' : Nat} {w w' : World} {a : Option Addr} {n : Nat} {l : List Int} (h : ByteIn w lo hi a n l) (ho : Out lo' hi' w w') (hr : hi ≤ lo' ∨ hi' ≤ lo) : ByteIn w' lo hi a n l := by
  obtain ⟨hl, h0 | ⟨b, rfl, h1, h2, h3⟩⟩ := h
  · exact ⟨hl, .inl h0⟩
  · exact ⟨hl, .inr ⟨b, rfl, h1, h2, h3.out ho (by omega)⟩⟩

theorem ByteIn.below {lo hi B : Nat} {w w' : World} {a : Option Addr} {n : Nat} {l : List Int} (h : ByteIn w lo hi a n l) (ho : Below B w w') (hr : hi ≤ B) : ByteIn w' lo hi a n l := by
  obtain ⟨hl, h0 | ⟨b, rfl, h1, h2, h3⟩⟩ := h
  · exact ⟨hl, .inl h0⟩
  · exact ⟨hl, .inr ⟨b, rfl, h1, h2, h3.below ho (by omega)⟩⟩

theorem ByteIn.mono {lo hi lo' hi' : Nat} {w : World} {a : Option Addr} {n : Nat} {l : List Int} (h : ByteIn w lo hi a n l) (h1 : lo' ≤ lo) (h2 : hi ≤ hi') : ByteIn w lo' hi' a n l := by
  obtain ⟨hl, h0 | ⟨b, rfl, h3, h4, h5⟩⟩ := h
  · exact ⟨hl, .inl h0⟩
  · exact ⟨hl, .inr ⟨b, rfl, by omega, by omega, h5⟩⟩

def ic (l : List Int) : List Value := l.map fun x => Value.int .u8 x
theorem ic_length (l : List Int) : (ic l).length = l.length * 1 := by simp [ic]

theorem OwnY.ofOwns {w : World} {base n g cap : Nat} {l : List Int} (h : w.ownsRow base 5 1 (.slice (some ⟨g, 0, none⟩) n cap) n (ic l)) : l.length = n ∧ base ≤ g ∧ OwnY w g n l n := by
  have hl : l.length = n := by have := h.1; rw [ic_length] at this; omega
  obtain ⟨hb, hlt⟩ := h.lt g rfl
  refine ⟨hl, hb, hlt, fun j hj => ⟨?_, h.frozenAt j⟩, fun i hi => ?_⟩
  · rw [h.cellAt j (by omega)]
    exact ⟨(ic l)[j]'(by rw [ic_length]; omega), by rw [List.getElem?_eq_getElem]⟩
  · rw [h.cellAt _ (by omega)]
    have hi' : i < l.length := by omega
    simp [ic, hi']

theorem ByteIn.ofOwns {w : World} {base n : Nat} {v : Value} {l : List Int} (h : w.ownsRow base 5 1 v n (ic l)) : ∃ a cap, v = .slice a n cap ∧ ByteIn w base w.heap.size a n l := by
  rcases h.2 with ⟨rfl, rfl⟩ | ⟨g, cap, cur, rfl, _⟩
  · exact ⟨none, 0, rfl, by have := h.1; rw [ic_length] at this; omega, .inl rfl⟩
  · obtain ⟨hl, hb, ho⟩ := OwnY.ofOwns h
    exact ⟨_, _, rfl, hl, .inr ⟨g, rfl, hb, ho.1, ho⟩⟩

def imarks (k : Int) (n : Nat) : List Int := (List.range n).map fun (i : Nat) => k + 1 * i
theorem imarks_length (k : Int) (n : Nat) : (imarks k n).length = n := by simp [imarks]
theorem imarks_at (k : Int) (n : Nat) {i : Nat} (h : i < n) : (imarks k n).getD i 0 = k + i := by simp [imarks, h]


end Go.Proofs.YtccldjodijdciaaDoor
