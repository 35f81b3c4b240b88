/-
  Plain lemmas for the other texts of this seat: rows of integers in memory, read and kept; boxes of two cells. No statement is proved here.
-/
import Derived.WalkKit
import Derived.Below
namespace Go.Proofs.Ytanihlecenmdcaa.S
open Go.RowKit

theorem ret_int {k : IntKind} {a b : Int} (h : a = b) : Ending.returned (.int k a) = .returned (.int k b) := by rw [h]
theorem ret_bool {a b : Bool} (h : a = b) : Ending.returned (.bool a) = .returned (.bool b) := by rw [h]

/-- The slice that begins at 'a' reads as the integers of l. -/
def IRow (w : World) (a : Option Addr) (l : List Int) : Prop :=
  l = [] ∨ ∃ b off, a = some ⟨b, off, none⟩ ∧ b < w.heap.size ∧ ∀ i, i < l.length → w.cell? ⟨b, off + i, none⟩ = some (.int .i64 (l.getD i 0))

theorem IRow.below {B : Nat} {w w' : World} {a : Option Addr} {l : List Int} (h : IRow w a l) (hb : Below B w w') (hB : w.heap.size ≤ B) : IRow w' a l := by
  rcases h with h | ⟨b, off, rfl, hlt, hc⟩
  · exact .inl h
  · refine .inr ⟨b, off, rfl, Nat.lt_of_lt_of_le hlt hb.size, fun i hi => ?_⟩
    rw [hb.cell (p := ⟨b, _, none⟩) (Nat.lt_of_lt_of_le hlt hB)]
    exact hc i hi

theorem cell_set {w : World} {b : Nat} {a c : Nat} {x v : Value} (hv : w.cell? ⟨b, c, none⟩ = some v) : (w.setCell ⟨b, a, none⟩ x).cell? ⟨b, c, none⟩ = some (if a = c then x else v) := by
  by_cases e : a = c
  · subst e; rw [if_pos rfl]; exact World.cell?_setCell_same _ _ _ hv
  · rw [if_neg e, World.cell?_setCell_other _ _ _ _ (by intro h; exact e (by injection h))]; exact hv

theorem Below.set {B : Nat} {a w : World} (h : Below B a w) (b i : Nat) (hp : B ≤ b) (u : Value) : Below B a (w.setCell ⟨b, i, none⟩ u) := h.setCell (p := ⟨b, i, none⟩) hp u
theorem Below.grows {w w' : World} (h : Below w.heap.size w w') : w.grownBy w' none := ⟨h.os, h.tape, h.output, h.size, fun k hk _ => h.block k hk⟩

/-- Outside the blocks from lo to hi, what was there is as it was. -/
structure Out (lo hi : Nat) (w w' : World) : Prop where
  os : w'.os = w.os
  tape : w'.tape = w.tape
  output : w'.output = w.output
  size : w.heap.size ≤ w'.heap.size
  block : ∀ k, k < w.heap.size → k < lo ∨ hi ≤ k → w'.heap[k]? = w.heap[k]?

theorem Out.refl (lo hi : Nat) (w : World) : Out lo hi w w := ⟨rfl, rfl, rfl, Nat.le_refl _, fun _ _ _ => rfl⟩
theorem Out.trans {lo hi : Nat} {a b c : World} (h : Out lo hi a b) (k : Out lo hi b c) : Out lo hi a c :=
  ⟨k.os.trans h.os, k.tape.trans h.tape, k.output.trans h.output, Nat.le_trans h.size k.size, fun i hi' hr => (k.block i (Nat.lt_of_lt_of_le hi' h.size) hr).trans (h.block i hi' hr)⟩
theorem Out.mono {lo hi lo' hi' : Nat} {w w' : World} (h : Out lo hi w w') (h1 : lo' ≤ lo) (h2 : hi ≤ hi') : Out lo' hi' w w' :=
  ⟨h.os, h.tape, h.output, h.size, fun k hk hr => h.block k hk (by omega)⟩
theorem Out.below {B lo hi : Nat} {w w' : World} (h : Out lo hi w w') (hB : B ≤ lo) (hs : B ≤ w.heap.size) : Below B w w' :=
  ⟨h.os, h.tape, h.output, h.size, fun k hk => h.block k (by omega) (by omega)⟩
theorem Out.ofBelow {lo hi : Nat} {w w' : World} (h : Below w.heap.size w w') : Out lo hi w w' := ⟨h.os, h.tape, h.output, h.size, fun k hk _ => h.block k hk⟩
theorem Out.set (b i : Nat) (w : World) (u : Value) : Out b (b + 1) w (w.setCell ⟨b, i, none⟩ u) :=
  ⟨rfl, rfl, rfl, by simp, fun k _ hr => Below.heap_setCell _ _ _ _ (by simp; omega)⟩

/-- n zeros. -/
def irow (n : Nat) : Array Value := madeCells #[.int .i64 0] n
theorem size_irow (n : Nat) : (irow n).size = n := size_madeCells _ _

/-- Block b of w is a row of n integers of the call's own, the first k of which are those of l. -/
def OwnI (w : World) (b n : Nat) (l : List Int) (k : Nat) : Prop :=
  b < w.heap.size ∧ (∀ j, j < n → (∃ v, w.cell? ⟨b, j, none⟩ = some v) ∧ w.frozen? ⟨b, j, none⟩ = false) ∧ ∀ i, i < k → w.cell? ⟨b, i, none⟩ = some (.int .i64 (l.getD i 0))

theorem OwnI.start (w : World) (n : Nat) (l : List Int) : OwnI (w.alloc (.cells (irow n) 3)) w.heap.size n l 0 := by
  refine ⟨by simp, fun j hj => ⟨?_, by simp⟩, fun i hi => by omega⟩
  rw [World.cell?_alloc_new]
  exact ⟨(irow n)[j]'(by rw [size_irow]; exact hj), by simp [size_irow, hj]⟩

theorem OwnI.below {B : Nat} {w w' : World} {b n k : Nat} {l : List Int} (h : OwnI w b n l k) (hb : Below B w w') (hB : b < B) : OwnI w' b n l k := by
  obtain ⟨h1, h2, h3⟩ := h
  refine ⟨Nat.lt_of_lt_of_le h1 hb.size, fun j hj => ?_, fun i hi => ?_⟩
  · rw [hb.cell (p := ⟨b, j, none⟩) hB, hb.frozen (p := ⟨b, j, none⟩) hB]; exact h2 j hj
  · rw [hb.cell (p := ⟨b, _, none⟩) hB]; exact h3 i hi

theorem OwnI.keep {w w' : World} {b n k : Nat} {l : List Int} (h : OwnI w b n l k) (hb : Below w.heap.size w w') : OwnI w' b n l k := h.below hb h.1

theorem OwnI.out {lo hi : Nat} {w w' : World} {b n k : Nat} {l : List Int} (h : OwnI w b n l k) (ho : Out lo hi w w') (hr : b < lo ∨ hi ≤ b) : OwnI w' b n l k := by
  obtain ⟨h1, h2, h3⟩ := h
  have e : ∀ o, w'.cell? ⟨b, o, none⟩ = w.cell? ⟨b, o, none⟩ := fun o => World.cell?_of_block (w := w) (ho.block b h1 hr)
  have f : ∀ o, w'.frozen? ⟨b, o, none⟩ = w.frozen? ⟨b, o, none⟩ := fun o => World.frozen?_of_block (w := w) (ho.block b h1 hr)
  refine ⟨Nat.lt_of_lt_of_le h1 ho.size, fun j hj => ?_, fun i hi => ?_⟩
  · rw [e, f]; exact h2 j hj
  · rw [e]; exact h3 i hi

theorem OwnI.put {w : World} {b n k : Nat} {l : List Int} (h : OwnI w b n l k) (j : Nat) (x : Int) (m : List Int) (hm : ∀ i, i < k → m.getD i 0 = if i = j then x else l.getD i 0) : OwnI (w.setCell ⟨b, j, none⟩ (.int .i64 x)) b n m k := by
  obtain ⟨h1, h2, h3⟩ := h
  refine ⟨by simpa using h1, fun i hi => ⟨?_, by simpa using (h2 i hi).2⟩, fun i hi => ?_⟩
  · obtain ⟨v, hv⟩ := (h2 i hi).1
    exact ⟨_, cell_set hv⟩
  · rw [cell_set (h3 i hi), hm i hi]
    by_cases e : i = j
    · subst e; simp
    · rw [if_neg (by omega), if_neg e]

theorem OwnI.step {w : World} {b n k : Nat} {l : List Int} (h : OwnI w b n l k) (hk : k < n) : OwnI (w.setCell ⟨b, k, none⟩ (.int .i64 (l.getD k 0))) b n l (k + 1) := by
  obtain ⟨h1, h2, h3⟩ := h
  refine ⟨by simpa using h1, fun j hj => ⟨?_, by simpa using (h2 j hj).2⟩, fun i hi => ?_⟩
  · obtain ⟨v, hv⟩ := (h2 j hj).1
    exact ⟨_, cell_set hv⟩
  · by_cases e : i = k
    · subst e
      obtain ⟨v, hv⟩ := (h2 i (by omega)).1
      rw [cell_set hv, if_pos rfl]
    · rw [cell_set (h3 i (by omega)), if_neg (by omega)]

theorem OwnI.zero {w : World} {b n k : Nat} {l m : List Int} (h : OwnI w b n l k) : OwnI w b n m 0 := ⟨h.1, h.2.1, fun i hi => by omega⟩
theorem OwnI.alloc {w : World} {b n k : Nat} {l : List Int} (h : OwnI w b n l k) (o : Obj) : OwnI (w.alloc o) b n l k := h.below ((Below.refl _ _).alloc (Nat.le_refl _) o) h.1
theorem OwnI.drew {w : World} {b n k : Nat} {l : List Int} (h : OwnI w b n l k) : OwnI w.drew b n l k := h.below ((Below.refl _ _).drew) h.1
theorem OwnI.other {w : World} {b n k : Nat} {l : List Int} (h : OwnI w b n l k) (b' i' : Nat) (hp : b' ≠ b) (u : Value) : OwnI (w.setCell ⟨b', i', none⟩ u) b n l k :=
  h.out (Out.set b' i' w u) (by omega)
theorem OwnI.row {w : World} {b n : Nat} {l : List Int} (h : OwnI w b n l l.length) : IRow w (some ⟨b, 0, none⟩) l :=
  .inr ⟨b, 0, rfl, h.1, fun i hi => by have := h.2.2 i hi; simpa using this⟩

/-- A slice of n integers that reads as l, in a block of the call's own from lo to hi. -/
def IntIn (w : World) (lo hi : Nat) (a : Option Addr) (n : Nat) (l : List Int) : Prop :=
  l.length = n ∧ (n = 0 ∨ ∃ b, a = some ⟨b, 0, none⟩ ∧ lo ≤ b ∧ b < hi ∧ OwnI w b n l n)

theorem IntIn.ofOwn {w : World} {lo hi b n : Nat} {l : List Int} (h : OwnI w b n l n) (hl : l.length = n) (h1 : lo ≤ b) (h2 : b < hi) : IntIn w lo hi (some ⟨b, 0, none⟩) n l := ⟨hl, .inr ⟨b, rfl, h1, h2, h⟩⟩

theorem IntIn.out {lo hi lo' hi' : Nat} {w w' : World} {a : Option Addr} {n : Nat} {l : List Int} (h : IntIn w lo hi a n l) (ho : Out lo' hi' w w') (hr : hi ≤ lo' ∨ hi' ≤ lo) : IntIn w' lo hi a n l := by
  obtain ⟨hl, h0 | ⟨b, rfl, h1, h2, h3⟩⟩ := h
  · exact ⟨hl, .inl h0⟩
  · exact ⟨hl, .inr ⟨b, rfl, h1, h2, h3.out ho (by omega)⟩⟩

theorem IntIn.below {lo hi B : Nat} {w w' : World} {a : Option Addr} {n : Nat} {l : List Int} (h : IntIn w lo hi a n l) (ho : Below B w w') (hr : hi ≤ B) : IntIn w' lo hi a n l := by
  obtain ⟨hl, h0 | ⟨b, rfl, h1, h2, h3⟩⟩ := h
  · exact ⟨hl, .inl h0⟩
  · exact ⟨hl, .inr ⟨b, rfl, h1, h2, h3.below ho (by omega)⟩⟩

theorem IntIn.mono {lo hi lo' hi' : Nat} {w : World} {a : Option Addr} {n : Nat} {l : List Int} (h : IntIn w lo hi a n l) (h1 : lo' ≤ lo) (h2 : hi ≤ hi') : IntIn w lo' hi' a n l := by
  obtain ⟨hl, h0 | ⟨b, rfl, h3, h4, h5⟩⟩ := h
  · exact ⟨hl, .inl h0⟩
  · exact ⟨hl, .inr ⟨b, rfl, by omega, by omega, h5⟩⟩

def ic (l : List Int) : List Value := l.map fun x => Value.int .i64 x
theorem ic_length (l : List Int) : (ic l).length = l.length * 1 := by simp [ic]
theorem ic_append (l m : List Int) : ic (l ++ m) = ic l ++ ic m := by simp [ic]
theorem ic_one {l : List Int} : ∀ u ∈ ic l, u.oneCell' = true := by
  intro u hu
  simp [ic] at hu
  obtain ⟨x, _, rfl⟩ := hu
  rfl

theorem addr_add (b o j : Nat) : (⟨b, o, none⟩ : Addr).add j = ⟨b, o + j, none⟩ := by unfold Addr.add; split <;> simp_all

theorem OwnI.news {w : World} {b n : Nat} {l : List Int} (h : OwnI w b n l l.length) : ∀ j u, (ic l)[j]? = some u → w.cell? ((⟨b, 0, none⟩ : Addr).add j) = some u := by
  intro j u hu
  rw [addr_add, Nat.zero_add]
  have hj : j < l.length := by
    by_cases e : j < l.length
    · exact e
    · rw [List.getElem?_eq_none (by rw [ic_length]; omega)] at hu; cases hu
  rw [h.2.2 j hj]
  simp [ic, hj] at hu
  simp [hj, hu]

theorem OwnI.ofOwns {w : World} {base n g cap : Nat} {l : List Int} (h : w.ownsRow base 3 1 (.slice (some ⟨g, 0, none⟩) n cap) n (ic l)) : l.length = n ∧ base ≤ g ∧ OwnI w g n l n := by
  have hl : l.length = n := by have := h.1; rw [ic_length] at this; omega
  obtain ⟨hb, hlt⟩ := h.lt g rfl
  refine ⟨hl, hb, hlt, fun j hj => ⟨?_, h.frozenAt j⟩, fun i hi => ?_⟩
  · rw [h.cellAt j (by omega)]
    exact ⟨(ic l)[j]'(by rw [ic_length]; omega), by rw [List.getElem?_eq_getElem]⟩
  · rw [h.cellAt _ (by omega)]
    have hi' : i < l.length := by omega
    simp [ic, hi']

theorem IntIn.ofOwns {w : World} {base n : Nat} {v : Value} {l : List Int} (h : w.ownsRow base 3 1 v n (ic l)) : ∃ a cap, v = .slice a n cap ∧ IntIn w base w.heap.size a n l := by
  rcases h.2 with ⟨rfl, rfl⟩ | ⟨g, cap, cur, rfl, _⟩
  · exact ⟨none, 0, rfl, by have := h.1; rw [ic_length] at this; omega, .inl rfl⟩
  · obtain ⟨hl, hb, ho⟩ := OwnI.ofOwns h
    exact ⟨_, _, rfl, hl, .inr ⟨g, rfl, hb, ho.1, ho⟩⟩

theorem owns_below {w w' : World} {base n : Nat} {v : Value} {xs : List Value} (h : w.ownsRow base 3 1 v n xs) (hb : Below w.heap.size w w') : w'.ownsRow base 3 1 v n xs :=
  h.kept (Below.grows hb) (by cases e : v.ownBlock <;> simp)

def imarks (k : Int) (n : Nat) : List Int := (List.range n).map fun (i : Nat) => k + 1 * i
theorem imarks_length (k : Int) (n : Nat) : (imarks k n).length = n := by simp [imarks]
theorem imarks_at (k : Int) (n : Nat) {i : Nat} (h : i < n) : (imarks k n).getD i 0 = k + i := by simp [imarks, h]

/-- Block b of w holds two cells, none of them frozen. -/
structure Box (w : World) (b : Nat) (v0 v1 : Value) : Prop where
  lt : b < w.heap.size
  c0 : w.cell? ⟨b, 0, none⟩ = some v0
  c1 : w.cell? ⟨b, 1, none⟩ = some v1
  f0 : w.frozen? ⟨b, 0, none⟩ = false
  f1 : w.frozen? ⟨b, 1, none⟩ = false

theorem Box.new (w : World) (v0 v1 : Value) (t : TypeId) : Box (w.alloc (.cells #[v0, v1] t)) w.heap.size v0 v1 := by
  constructor <;> simp

theorem Box.below {B : Nat} {w w' : World} {b : Nat} {v0 v1 : Value} (h : Box w b v0 v1) (hb : Below B w w') (hB : b < B) : Box w' b v0 v1 := by
  refine ⟨Nat.lt_of_lt_of_le h.lt hb.size, ?_, ?_, ?_, ?_⟩
  · rw [hb.cell (p := ⟨b, _, none⟩) hB]; exact h.c0
  · rw [hb.cell (p := ⟨b, _, none⟩) hB]; exact h.c1
  · rw [hb.frozen (p := ⟨b, _, none⟩) hB]; exact h.f0
  · rw [hb.frozen (p := ⟨b, _, none⟩) hB]; exact h.f1

theorem Box.keep {w w' : World} {b : Nat} {v0 v1 : Value} (h : Box w b v0 v1) (hb : Below w.heap.size w w') : Box w' b v0 v1 := h.below hb h.lt
theorem Box.alloc {w : World} {b : Nat} {v0 v1 : Value} (h : Box w b v0 v1) (o : Obj) : Box (w.alloc o) b v0 v1 := h.below ((Below.refl _ _).alloc (Nat.le_refl _) o) h.lt
theorem Box.drew {w : World} {b : Nat} {v0 v1 : Value} (h : Box w b v0 v1) : Box w.drew b v0 v1 := h.below ((Below.refl _ _).drew) h.lt

theorem Box.out {lo hi : Nat} {w w' : World} {b : Nat} {v0 v1 : Value} (h : Box w b v0 v1) (ho : Out lo hi w w') (hr : b < lo ∨ hi ≤ b) : Box w' b v0 v1 := by
  have e : ∀ o, w'.cell? ⟨b, o, none⟩ = w.cell? ⟨b, o, none⟩ := fun o => World.cell?_of_block (w := w) (ho.block b h.lt hr)
  have f : ∀ o, w'.frozen? ⟨b, o, none⟩ = w.frozen? ⟨b, o, none⟩ := fun o => World.frozen?_of_block (w := w) (ho.block b h.lt hr)
  exact ⟨Nat.lt_of_lt_of_le h.lt ho.size, by rw [e]; exact h.c0, by rw [e]; exact h.c1, by rw [f]; exact h.f0, by rw [f]; exact h.f1⟩

theorem Box.other {w : World} {b : Nat} {v0 v1 : Value} (h : Box w b v0 v1) (b' i' : Nat) (hp : b' ≠ b) (u : Value) : Box (w.setCell ⟨b', i', none⟩ u) b v0 v1 :=
  h.out (Out.set b' i' w u) (by omega)
theorem Box.set0 {w : World} {b : Nat} {v0 v1 : Value} (h : Box w b v0 v1) (u : Value) : Box (w.setCell ⟨b, 0, none⟩ u) b u v1 :=
  ⟨by simpa using h.lt, by simpa using cell_set (a := 0) (x := u) h.c0, by simpa using cell_set (a := 0) (x := u) h.c1, by simpa using h.f0, by simpa using h.f1⟩
theorem Box.set1 {w : World} {b : Nat} {v0 v1 : Value} (h : Box w b v0 v1) (u : Value) : Box (w.setCell ⟨b, 1, none⟩ u) b v0 u :=
  ⟨by simpa using h.lt, by simpa using cell_set (a := 1) (x := u) h.c0, by simpa using cell_set (a := 1) (x := u) h.c1, by simpa using h.f0, by simpa using h.f1⟩

end Go.Proofs.Ytanihlecenmdcaa.S
