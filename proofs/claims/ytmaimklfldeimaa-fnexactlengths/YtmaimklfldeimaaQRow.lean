/-
  Rows of pairs in blocks of the call's own, and what is appended onto an empty slice literal, as one step of a region that draws its order.
-/
import Derived.Test.YtmaimklfldeimaaQTo
import Derived.Laws.AppendOwnNone
import Derived.Deep.RegionLawGrows
import Derived.Deep.RegionHeld3
namespace Go.Proofs.Ytmaimklfldeimaa.Q
open Go.RowKit

/-- Outside the blocks from lo to hi, what was there is as it was. -/
structure Out (lo hi : Nat) (w w' : World) : Prop where
  os : w'.os = w.os
  tape : w'.tape = w.tape
  output : w'.output = w.output
  size : w.heap.size ≤ w'.heap.size
  block : ∀ k, k < w.heap.size → k < lo ∨ hi ≤ k → w'.heap[k]? = w.heap[k]?

theorem Out.refl (lo hi : Nat) (w : World) : Out lo hi w w := ⟨rfl, rfl, rfl, Nat.le_refl _, fun _ _ _ => rfl⟩
theorem Out.trans {lo hi : Nat} {a b c : World} (h : Out lo hi a b) (k : Out lo hi b c) : Out lo hi a c :=
  ⟨k.os.trans h.os, k.tape.trans h.tape, k.output.trans h.output, Nat.le_trans h.size k.size, fun i hi' hr => (k.block i (Nat.lt_of_lt_of_le hi' h.size) hr).trans (h.block i hi' hr)⟩
theorem Out.mono {lo hi lo' hi' : Nat} {w w' : World} (h : Out lo hi w w') (h1 : lo' ≤ lo) (h2 : hi ≤ hi') : Out lo' hi' w w' :=
  ⟨h.os, h.tape, h.output, h.size, fun k hk hr => h.block k hk (by omega)⟩
theorem Out.below {B lo hi : Nat} {w w' : World} (h : Out lo hi w w') (hB : B ≤ lo) (hs : B ≤ w.heap.size) : Below B w w' :=
  ⟨h.os, h.tape, h.output, h.size, fun k hk => h.block k (by omega) (by omega)⟩
theorem Out.ofBelow {lo hi : Nat} {w w' : World} (h : Below w.heap.size w w') : Out lo hi w w' := ⟨h.os, h.tape, h.output, h.size, fun k hk _ => h.block k hk⟩
theorem Own.out {lo hi : Nat} {w w' : World} {b n k : Nat} {l : List (Int × Int)} (h : Own w b n l k) (ho : Out lo hi w w') (hr : b < lo ∨ hi ≤ b) : Own w' b n l k := by
  obtain ⟨h1, h2, h3⟩ := h
  have e : ∀ o, w'.cell? ⟨b, o, none⟩ = w.cell? ⟨b, o, none⟩ := fun o => World.cell?_of_block (w := w) (ho.block b h1 hr)
  have f : ∀ o, w'.frozen? ⟨b, o, none⟩ = w.frozen? ⟨b, o, none⟩ := fun o => World.frozen?_of_block (w := w) (ho.block b h1 hr)
  refine ⟨Nat.lt_of_lt_of_le h1 ho.size, fun j hj => ?_, fun i hi => ?_⟩
  · rw [e, f]; exact h2 j hj
  · rw [e, e]; exact h3 i hi

theorem Box.out {lo hi : Nat} {w w' : World} {b : Nat} {v0 v1 v2 v3 : Value} (h : Box w b v0 v1 v2 v3) (ho : Out lo hi w w') (hr : b < lo ∨ hi ≤ b) : Box w' b v0 v1 v2 v3 := by
  have e : ∀ o, w'.cell? ⟨b, o, none⟩ = w.cell? ⟨b, o, none⟩ := fun o => World.cell?_of_block (w := w) (ho.block b h.lt hr)
  have f : ∀ o, w'.frozen? ⟨b, o, none⟩ = w.frozen? ⟨b, o, none⟩ := fun o => World.frozen?_of_block (w := w) (ho.block b h.lt hr)
  exact ⟨Nat.lt_of_lt_of_le h.lt ho.size, by rw [e]; exact h.c0, by rw [e]; exact h.c1, by rw [e]; exact h.c2, by rw [e]; exact h.c3, by rw [f]; exact h.f0, by rw [f]; exact h.f1, by rw [f]; exact h.f2, by rw [f]; exact h.f3⟩

theorem Out.set (b i : Nat) (w : World) (u : Value) : Out b (b + 1) w (w.setCell ⟨b, i, none⟩ u) := ⟨rfl, rfl, rfl, by simp, fun k _ hr => Below.heap_setCell _ _ _ _ (by simp; omega)⟩

/-- A box of four cells, filled anew. -/
theorem Box.fill {w : World} {b : Nat} {v0 v1 v2 v3 : Value} (h : Box w b v0 v1 v2 v3) (u0 u1 u2 u3 : Value) :
    Box ((((w.setCell ⟨b, 0, none⟩ u0).setCell ⟨b, 1, none⟩ u1).setCell ⟨b, 2, none⟩ u2).setCell ⟨b, 3, none⟩ u3) b u0 u1 u2 u3 ∧ Out b (b + 1) w ((((w.setCell ⟨b, 0, none⟩ u0).setCell ⟨b, 1, none⟩ u1).setCell ⟨b, 2, none⟩ u2).setCell ⟨b, 3, none⟩ u3) :=
  ⟨(((h.set0 u0).set1 u1).set2 u2).set3 u3, (((Out.set b 0 w u0).trans (Out.set b 1 _ u1)).trans (Out.set b 2 _ u2)).trans (Out.set b 3 _ u3)⟩

/-- A slice of n pairs that reads as l, in a block of the call's own from lo to hi. -/
def RowIn (w : World) (lo hi : Nat) (a : Option Addr) (n : Nat) (l : List (Int × Int)) : Prop :=
  l.length = n ∧ (n = 0 ∨ ∃ b, a = some ⟨b, 0, none⟩ ∧ lo ≤ b ∧ b < hi ∧ Own w b n l n)

theorem RowIn.row {w : World} {lo hi : Nat} {a : Option Addr} {n : Nat} {l : List (Int × Int)} (h : RowIn w lo hi a n l) : PRow w a l := by
  obtain ⟨rfl, h0 | ⟨b, rfl, _, _, ho⟩⟩ := h
  · exact .inl (List.eq_nil_of_length_eq_zero h0)
  · exact ho.row

theorem RowIn.ofOwn {w : World} {lo hi b n : Nat} {l : List (Int × Int)} (h : Own w b n l n) (hl : l.length = n) (h1 : lo ≤ b) (h2 : b < hi) : RowIn w lo hi (some ⟨b, 0, none⟩) n l := ⟨hl, .inr ⟨b, rfl, h1, h2, h⟩⟩

theorem RowIn.out {lo hi lo' hi' : Nat} {w w' : World} {a : Option Addr} {n : Nat} {l : List (Int × Int)} (h : RowIn w lo hi a n l) (ho : Out lo' hi' w w') (hr : hi ≤ lo' ∨ hi' ≤ lo) : RowIn w' lo hi a n l := by
  obtain ⟨hl, h0 | ⟨b, rfl, h1, h2, h3⟩⟩ := h
  · exact ⟨hl, .inl h0⟩
  · exact ⟨hl, .inr ⟨b, rfl, h1, h2, h3.out ho (by omega)⟩⟩

theorem RowIn.below {lo hi B : Nat} {w w' : World} {a : Option Addr} {n : Nat} {l : List (Int × Int)} (h : RowIn w lo hi a n l) (ho : Below B w w') (hr : hi ≤ B) : RowIn w' lo hi a n l := by
  obtain ⟨hl, h0 | ⟨b, rfl, h1, h2, h3⟩⟩ := h
  · exact ⟨hl, .inl h0⟩
  · exact ⟨hl, .inr ⟨b, rfl, h1, h2, h3.below ho (by omega)⟩⟩

theorem RowIn.mono {lo hi lo' hi' : Nat} {w : World} {a : Option Addr} {n : Nat} {l : List (Int × Int)} (h : RowIn w lo hi a n l) (h1 : lo' ≤ lo) (h2 : hi ≤ hi') : RowIn w lo' hi' a n l := by
  obtain ⟨hl, h0 | ⟨b, rfl, h3, h4, h5⟩⟩ := h
  · exact ⟨hl, .inl h0⟩
  · exact ⟨hl, .inr ⟨b, rfl, by omega, by omega, h5⟩⟩

/-- The cells of a row of pairs. -/
def pc (l : List (Int × Int)) : List Value := l.flatMap fun p => [Value.int .i64 p.1, Value.int .i64 p.2]

theorem pc_length (l : List (Int × Int)) : (pc l).length = l.length * 2 := by
  unfold pc
  induction l with
  | nil => rfl
  | cons p l ih => rw [List.flatMap_cons, List.length_append, ih]; simp; omega

theorem pc_append (l m : List (Int × Int)) : pc (l ++ m) = pc l ++ pc m := by simp [pc]

theorem pc_one {l : List (Int × Int)} : ∀ u ∈ pc l, u.oneCell' = true := by
  intro u hu
  unfold pc at hu
  obtain ⟨p, _, hp⟩ := List.mem_flatMap.1 hu
  simp at hp
  rcases hp with rfl | rfl <;> rfl

theorem pc_get (l : List (Int × Int)) : ∀ i, i < l.length → (pc l)[i * 2]? = some (.int .i64 (l.getD i (0, 0)).1) ∧ (pc l)[i * 2 + 1]? = some (.int .i64 (l.getD i (0, 0)).2) := by
  induction l with
  | nil => intro i hi; simp at hi
  | cons p l ih =>
    intro i hi
    have e : pc (p :: l) = Value.int .i64 p.1 :: Value.int .i64 p.2 :: pc l := rfl
    rw [e]
    match i with
    | 0 => exact ⟨rfl, rfl⟩
    | i + 1 =>
      have := ih i (by simpa using hi)
      rw [show (i + 1) * 2 = i * 2 + 1 + 1 by omega]
      simpa using this

theorem pc_inv {l : List (Int × Int)} {j : Nat} {u : Value} (h : (pc l)[j]? = some u) : ∃ i, i < l.length ∧ ((j = i * 2 ∧ u = .int .i64 (l.getD i (0, 0)).1) ∨ (j = i * 2 + 1 ∧ u = .int .i64 (l.getD i (0, 0)).2)) := by
  have hj : j < (pc l).length := by
    by_cases e : j < (pc l).length
    · exact e
    · rw [List.getElem?_eq_none (by omega)] at h; cases h
  rw [pc_length] at hj
  refine ⟨j / 2, by omega, ?_⟩
  have g := pc_get l (j / 2) (by omega)
  by_cases e : j % 2 = 0
  · left
    rw [show j / 2 * 2 = j by omega] at g
    rw [g.1] at h
    exact ⟨by omega, by injection h with h; exact h.symm⟩
  · right
    rw [show j / 2 * 2 + 1 = j by omega] at g
    rw [g.2] at h
    exact ⟨by omega, by injection h with h; exact h.symm⟩

theorem addr_add (b o j : Nat) : (⟨b, o, none⟩ : Addr).add j = ⟨b, o + j, none⟩ := by unfold Addr.add; split <;> simp_all

/-- What the source of an append wants to know. -/
theorem Own.news {w : World} {b n : Nat} {l : List (Int × Int)} (h : Own w b n l l.length) : ∀ j u, (pc l)[j]? = some u → w.cell? ((⟨b, 0, none⟩ : Addr).add j) = some u := by
  intro j u hu
  rw [addr_add, Nat.zero_add]
  obtain ⟨i, hi, ⟨rfl, rfl⟩ | ⟨rfl, rfl⟩⟩ := pc_inv hu
  · exact (h.2.2 i hi).1
  · exact (h.2.2 i hi).2

theorem Own.ofOwns {w : World} {base n g cap : Nat} {l : List (Int × Int)} (h : w.ownsRow base 81 2 (.slice (some ⟨g, 0, none⟩) n cap) n (pc l)) : l.length = n ∧ base ≤ g ∧ Own w g n l n := by
  have hl : l.length = n := by have := h.1; rw [pc_length] at this; omega
  obtain ⟨hb, hlt⟩ := h.lt g rfl
  refine ⟨hl, hb, hlt, fun j hj => ⟨?_, h.frozenAt j⟩, fun i hi => ?_⟩
  · rw [h.cellAt j hj]
    exact ⟨(pc l)[j]'(by rw [pc_length]; omega), by rw [List.getElem?_eq_getElem]⟩
  · rw [h.cellAt _ (by omega), h.cellAt _ (by omega)]
    exact pc_get l i (by omega)

theorem RowIn.ofOwns {w : World} {base n : Nat} {v : Value} {l : List (Int × Int)} (h : w.ownsRow base 81 2 v n (pc l)) : ∃ a cap, v = .slice a n cap ∧ RowIn w base w.heap.size a n l := by
  rcases h.2 with ⟨rfl, rfl⟩ | ⟨g, cap, cur, rfl, _⟩
  · exact ⟨none, 0, rfl, by have := h.1; rw [pc_length] at this; omega, .inl rfl⟩
  · obtain ⟨hl, hb, ho⟩ := Own.ofOwns h
    exact ⟨_, _, rfl, RowIn.ofOwn ho hl hb ho.1⟩

theorem Below.grows {w w' : World} (h : Below w.heap.size w w') : w.grownBy w' none := ⟨h.os, h.tape, h.output, h.size, fun k hk _ => h.block k hk⟩

theorem owns_below {w w' : World} {base n : Nat} {v : Value} {xs : List Value} (h : w.ownsRow base 81 2 v n xs) (hb : Below w.heap.size w w') : w'.ownsRow base 81 2 v n xs :=
  h.kept (Below.grows hb) (by cases e : v.ownBlock <;> simp)

theorem Try.i57 : ∃ i, Try.prog.info? 81 = some i ∧ i.zero = some (.agg #[.int .i64 0, .int .i64 0]) ∧ i.size = 2 ∧ i.bytes = 16 := by
  have h : (Try.prog.info? 81).map (fun i => (i.zero, i.size, i.bytes)) = some (some (.agg #[.int .i64 0, .int .i64 0]), 2, 16) := by kernel_rfl
  cases hi : Try.prog.info? 81 with
  | none => rw [hi] at h; simp at h
  | some i =>
    rw [hi] at h
    simp only [Option.map_some, Option.some.injEq, Prod.mk.injEq] at h
    exact ⟨i, rfl, h.1, h.2.1, h.2.2⟩

/-- A slice of n pairs that reads as l and may be appended to: an empty one without room, or a row of the call's own, in a block from lo to hi. -/
def RoomIn (w : World) (lo hi : Nat) (a : Option Addr) (n c : Nat) (l : List (Int × Int)) : Prop :=
  l.length = n ∧ ((n = 0 ∧ c = 0 ∧ ∃ Z, a = some ⟨Z, 0, none⟩) ∨ ∃ b, a = some ⟨b, 0, none⟩ ∧ lo ≤ b ∧ b < hi ∧ w.ownsRow lo 81 2 (.slice a n c) n (pc l))

theorem owns_mono {w : World} {base base' n : Nat} {v : Value} {xs : List Value} (h : w.ownsRow base 81 2 v n xs) (hb : base' ≤ base) : w.ownsRow base' 81 2 v n xs := by
  obtain ⟨h1, h2 | ⟨g, cap, cur, e1, e2, e3⟩⟩ := h
  · exact ⟨h1, .inl h2⟩
  · exact ⟨h1, .inr ⟨g, cap, cur, e1, Nat.le_trans hb e2, e3⟩⟩

theorem RoomIn.row {w : World} {lo hi n c : Nat} {a : Option Addr} {l : List (Int × Int)} (h : RoomIn w lo hi a n c l) : RowIn w lo hi a n l := by
  obtain ⟨hl, ⟨h0, _⟩ | ⟨b, rfl, h1, h2, h3⟩⟩ := h
  · exact ⟨hl, .inl h0⟩
  · exact RowIn.ofOwn (Own.ofOwns h3).2.2 hl h1 h2

theorem RoomIn.below {lo hi B n c : Nat} {w w' : World} {a : Option Addr} {l : List (Int × Int)} (h : RoomIn w lo hi a n c l) (ho : Below B w w') (hr : hi ≤ B) : RoomIn w' lo hi a n c l := by
  obtain ⟨hl, h0 | ⟨b, rfl, h1, h2, h3, h4 | ⟨g, cap, cur, e1, e2, e3, e4⟩⟩⟩ := h
  · exact ⟨hl, .inl h0⟩
  · cases h4.1
  · injection e1 with e1; injection e1 with e1; injection e1 with e1; subst e1
    exact ⟨hl, .inr ⟨b, rfl, h1, h2, h3, .inr ⟨b, c, cur, rfl, e2, by rw [ho.block b (by omega)]; exact e3, by simp_all⟩⟩⟩

theorem RoomIn.out {lo hi lo' hi' n c : Nat} {w w' : World} {a : Option Addr} {l : List (Int × Int)} (h : RoomIn w lo hi a n c l) (ho : Out lo' hi' w w') (hr : hi ≤ lo' ∨ hi' ≤ lo) : RoomIn w' lo hi a n c l := by
  obtain ⟨hl, h0 | ⟨b, rfl, h1, h2, h3⟩⟩ := h
  · exact ⟨hl, .inl h0⟩
  · have hlt := (h3.lt b rfl).2
    obtain ⟨h3, h4 | ⟨g, cap, cur, e1, e2, e3, e4⟩⟩ := h3
    · cases h4.1
    · injection e1 with e1; injection e1 with e1; injection e1 with e1; subst e1
      exact ⟨hl, .inr ⟨b, rfl, h1, h2, h3, .inr ⟨b, c, cur, rfl, e2, by rw [ho.block b hlt (by omega)]; exact e3, by simp_all⟩⟩⟩

theorem RoomIn.mono {lo hi lo' hi' n c : Nat} {w : World} {a : Option Addr} {l : List (Int × Int)} (h : RoomIn w lo hi a n c l) (h1 : lo' ≤ lo) (h2 : hi ≤ hi') : RoomIn w lo' hi' a n c l := by
  obtain ⟨hl, h0 | ⟨b, rfl, h3, h4, h5⟩⟩ := h
  · exact ⟨hl, .inl h0⟩
  · exact ⟨hl, .inr ⟨b, rfl, by omega, by omega, owns_mono h5 h1⟩⟩

theorem RoomIn.ofOwns {w : World} {base n : Nat} {v : Value} {l : List (Int × Int)} (h : w.ownsRow base 81 2 v n (pc l)) (hp : 0 < n) : ∃ a cap, v = .slice a n cap ∧ RoomIn w base w.heap.size a n cap l := by
  rcases h.2 with ⟨rfl, rfl⟩ | ⟨g, cap, cur, rfl, _⟩
  · omega
  · obtain ⟨hl, hb, ho⟩ := Own.ofOwns h
    exact ⟨_, _, rfl, hl, .inr ⟨g, rfl, hb, ho.1, h⟩⟩

theorem step_fresh {ops : Array Oper} {o : Oper} {a : Act} {w : World} {K : Act → World → Prop} {Q : Exit → Act → World → Prop} {E : Prop}
    (hg : o.guard = none) (s x : Operand) (hop : o.op = Op.call { callee := Callee.builtin Builtin.append, args := #[s, x], argTypes := #[26, 26] })
    (Z b m c : Nat) (l : List (Int × Int)) (hs : a.eval s = .slice (some ⟨Z, 0, none⟩) 0 0) (hx : a.eval x = .slice (some ⟨b, 0, none⟩) m c) (hl : l.length = m) (ho : Own w b m l m) (hm : m ≤ 1048576)
    (hK : ∀ a' c' w', RoomIn w' w.heap.size w'.heap.size a' m c' l → Below w.heap.size w w' → K (a.put o.dst (.slice a' m c')) w') :
    if Region.wanted o (yielded ops a.tmps) = true then Oper.wp Try.prog o a w K Q else E := by
  obtain ⟨i0, hi, hz0, hz1, hz2⟩ := Try.i57
  subst hl
  by_cases e : l.length = 0
  · have el : l = [] := List.eq_nil_of_length_eq_zero e
    subst el
    refine step_append_room hg s x 26 hop 81 i0 2 Try.underlying26 hi hz1 Z 0 0 0 hs ⟨b, 0, none⟩ 0 c [] hx rfl (by intro j u h; cases h) (by intro u h; cases h) (Nat.le_refl _) (by intro j h; exact absurd h (Nat.not_lt_zero _)) ?_
    exact hK _ _ _ ⟨rfl, .inl ⟨rfl, rfl, _, rfl⟩⟩ (Below.refl _ _)
  · refine step_append_grows hg s x 26 hop 81 i0 (.agg #[.int .i64 0, .int .i64 0]) 2 16 Try.underlying26 hi hz0 hz1 hz2 rfl (by decide) (some ⟨Z, 0, none⟩) 0 0 [] hs (by intro h; cases h) rfl (by intro b h j u hu; cases hu) ⟨b, 0, none⟩ l.length c (pc l) hx (pc_length l) ho.news pc_one (by omega) (by unfold maxLen; omega) (by omega) ?_
    intro v' w' hown hgr
    rw [Nat.zero_add, List.nil_append] at hown
    obtain ⟨a', c', rfl, hr⟩ := RoomIn.ofOwns hown (by omega)
    exact hK _ _ _ hr ((Below.refl _ _).grown hgr (Nat.le_refl _) (by intro k hk; cases hk))

theorem step_lit {ops : Array Oper} {o : Oper} {a : Act} {w : World} {K : Act → World → Prop} {Q : Exit → Act → World → Prop} {E : Prop}
    (hg : o.guard = none) (hop : o.op = Op.buildSlice 26 0 #[])
    (hK : ∀ Z w', Below w.heap.size w w' → K (a.put o.dst (.slice (some ⟨Z, 0, none⟩) 0 0)) w') :
    if Region.wanted o (yielded ops a.tmps) = true then Oper.wp Try.prog o a w K Q else E := by
  obtain ⟨dst, op, type, pos, after, guard⟩ := o
  dsimp only at hg hop hK
  subst hg hop
  replace hK : Shut (∀ Z w', Below w.heap.size w w' → K (a.put dst (.slice (some ⟨Z, 0, none⟩) 0 0)) w') := hK
  go_simp
  refine hK.out _ _ ?_
  exact (Below.refl _ _).alloc (Nat.le_refl _) _

end Go.Proofs.Ytmaimklfldeimaa.Q
