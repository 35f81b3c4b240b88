/-
  Plain lemmas and contracts of functions for the other texts of this seat: Room, Ow, Swap, Subst, SSubst, Pairs.
-/
import Derived.Test.YtphchdjbhbmnbaaGab
import Derived.Deep.RegionLawGrows
import Derived.Deep.RegionHeld3
import Derived.Outline
namespace Go.Proofs.Ytphchdjbhbmnbaa
open Go.RowKit

/-- A slice of n pairs that reads as l and may be appended to: an empty one without room, or a row of the call's own, in a block from lo to hi. -/
def RoomIn (w : World) (lo hi : Nat) (a : Option Addr) (n c : Nat) (l : List (Int × Int)) : Prop :=
  l.length = n ∧ ((n = 0 ∧ c = 0 ∧ ∃ Z, a = some ⟨Z, 0, none⟩) ∨ ∃ b, a = some ⟨b, 0, none⟩ ∧ lo ≤ b ∧ b < hi ∧ w.ownsRow lo 69 2 (.slice a n c) n (pc l))

theorem owns_mono {w : World} {base base' n : Nat} {v : Value} {xs : List Value} (h : w.ownsRow base 69 2 v n xs) (hb : base' ≤ base) : w.ownsRow base' 69 2 v n xs := by
  obtain ⟨h1, h2 | ⟨g, cap, cur, e1, e2, e3⟩⟩ := h
  · exact ⟨h1, .inl h2⟩
  · exact ⟨h1, .inr ⟨g, cap, cur, e1, Nat.le_trans hb e2, e3⟩⟩

theorem RoomIn.row {w : World} {lo hi n c : Nat} {a : Option Addr} {l : List (Int × Int)} (h : RoomIn w lo hi a n c l) : RowIn w lo hi a n l := by
  obtain ⟨hl, ⟨h0, _⟩ | ⟨b, rfl, h1, h2, h3⟩⟩ := h
  · exact ⟨hl, .inl h0⟩
  · exact RowIn.ofOwn (Own.ofOwns h3).2.2 hl h1 h2

theorem RoomIn.below {lo hi B n c : Nat} {w w' : World} {a : Option Addr} {l : List (Int × Int)} (h : RoomIn w lo hi a n c l) (ho : Below B w w') (hr : hi ≤ B) : RoomIn w' lo hi a n c l := by
  obtain ⟨hl, h0 | ⟨b, rfl, h1, h2, h3, h4 | ⟨g, cap, cur, e1, e2, e3, e4⟩⟩⟩ := h
  · exact ⟨hl, .inl h0⟩
  · cases h4.1
  · injection e1 with e1; injection e1 with e1; injection e1 with e1; subst e1
    exact ⟨hl, .inr ⟨b, rfl, h1, h2, h3, .inr ⟨b, c, cur, rfl, e2, by rw [ho.block b (by omega)]; exact e3, by simp_all⟩⟩⟩

theorem RoomIn.out {lo hi lo' hi' n c : Nat} {w w' : World} {a : Option Addr} {l : List (Int × Int)} (h : RoomIn w lo hi a n c l) (ho : Out lo' hi' w w') (hr : hi ≤ lo' ∨ hi' ≤ lo) : RoomIn w' lo hi a n c l := by
  obtain ⟨hl, h0 | ⟨b, rfl, h1, h2, h3⟩⟩ := h
  · exact ⟨hl, .inl h0⟩
  · have hlt := (h3.lt b rfl).2
    obtain ⟨h3, h4 | ⟨g, cap, cur, e1, e2, e3, e4⟩⟩ := h3
    · cases h4.1
    · injection e1 with e1; injection e1 with e1; injection e1 with e1; subst e1
      exact ⟨hl, .inr ⟨b, rfl, h1, h2, h3, .inr ⟨b, c, cur, rfl, e2, by rw [ho.block b hlt (by omega)]; exact e3, by simp_all⟩⟩⟩

theorem RoomIn.mono {lo hi lo' hi' n c : Nat} {w : World} {a : Option Addr} {l : List (Int × Int)} (h : RoomIn w lo hi a n c l) (h1 : lo' ≤ lo) (h2 : hi ≤ hi') : RoomIn w lo' hi' a n c l := by
  obtain ⟨hl, h0 | ⟨b, rfl, h3, h4, h5⟩⟩ := h
  · exact ⟨hl, .inl h0⟩
  · exact ⟨hl, .inr ⟨b, rfl, by omega, by omega, owns_mono h5 h1⟩⟩

theorem RoomIn.ofOwns {w : World} {base n : Nat} {v : Value} {l : List (Int × Int)} (h : w.ownsRow base 69 2 v n (pc l)) (hp : 0 < n) : ∃ a cap, v = .slice a n cap ∧ RoomIn w base w.heap.size a n cap l := by
  rcases h.2 with ⟨rfl, rfl⟩ | ⟨g, cap, cur, rfl, _⟩
  · omega
  · obtain ⟨hl, hb, ho⟩ := Own.ofOwns h
    exact ⟨_, _, rfl, hl, .inr ⟨g, rfl, hb, ho.1, h⟩⟩

theorem step_fresh {ops : Array Oper} {o : Oper} {a : Act} {w : World} {K : Act → World → Prop} {Q : Exit → Act → World → Prop} {E : Prop}
    (hg : o.guard = none) (s x : Operand) (hop : o.op = Op.call { callee := Callee.builtin Builtin.append, args := #[s, x], argTypes := #[26, 26] })
    (Z b m c : Nat) (l : List (Int × Int)) (hs : a.eval s = .slice (some ⟨Z, 0, none⟩) 0 0) (hx : a.eval x = .slice (some ⟨b, 0, none⟩) m c) (hl : l.length = m) (ho : Own w b m l m) (hm : m ≤ 1048576)
    (hK : ∀ a' c' w', RoomIn w' w.heap.size w'.heap.size a' m c' l → Below w.heap.size w w' → K (a.put o.dst (.slice a' m c')) w') :
    if Region.wanted o (yielded ops a.tmps) = true then Oper.wp Try.prog o a w K Q else E := by
  obtain ⟨i0, hi, hz0, hz1, hz2⟩ := Try.i57
  subst hl
  by_cases e : l.length = 0
  · have el : l = [] := List.eq_nil_of_length_eq_zero e
    subst el
    refine step_append_room hg s x 26 hop 69 i0 2 Try.underlying26 hi hz1 Z 0 0 0 hs ⟨b, 0, none⟩ 0 c [] hx rfl (by intro j u h; cases h) (by intro u h; cases h) (Nat.le_refl _) (by intro j h; exact absurd h (Nat.not_lt_zero _)) ?_
    exact hK _ _ _ ⟨rfl, .inl ⟨rfl, rfl, _, rfl⟩⟩ (Below.refl _ _)
  · refine step_append_grows hg s x 26 hop 69 i0 (.agg #[.int .i64 0, .int .i64 0]) 2 16 Try.underlying26 hi hz0 hz1 hz2 rfl (by decide) (some ⟨Z, 0, none⟩) 0 0 [] hs (by intro h; cases h) rfl (by intro b h j u hu; cases hu) ⟨b, 0, none⟩ l.length c (pc l) hx (pc_length l) ho.news pc_one (by omega) (by unfold maxLen; omega) (by omega) ?_
    intro v' w' hown hgr
    rw [Nat.zero_add, List.nil_append] at hown
    obtain ⟨a', c', rfl, hr⟩ := RoomIn.ofOwns hown (by omega)
    exact hK _ _ _ hr ((Below.refl _ _).grown hgr (Nat.le_refl _) (by intro k hk; cases hk))

theorem step_lit {ops : Array Oper} {o : Oper} {a : Act} {w : World} {K : Act → World → Prop} {Q : Exit → Act → World → Prop} {E : Prop}
    (hg : o.guard = none) (hop : o.op = Op.buildSlice 26 0 #[])
    (hK : ∀ Z w', Below w.heap.size w w' → K (a.put o.dst (.slice (some ⟨Z, 0, none⟩) 0 0)) w') :
    if Region.wanted o (yielded ops a.tmps) = true then Oper.wp Try.prog o a w K Q else E := by
  obtain ⟨dst, op, type, pos, after, guard⟩ := o
  dsimp only at hg hop hK
  subst hg hop
  replace hK : Shut (∀ Z w', Below w.heap.size w w' → K (a.put dst (.slice (some ⟨Z, 0, none⟩) 0 0)) w') := hK
  go_simp
  refine hK.out _ _ ?_
  exact (Below.refl _ _).alloc (Nat.le_refl _) _

end Go.Proofs.Ytphchdjbhbmnbaa
namespace Go.Proofs.Ytphchdjbhbmnbaa
open Go.RowKit
set_option linter.unusedVariables false

def ownS (w : World) (v0 v1 v2 v3 : Value) (W : World) : Prop := Below w.heap.size w W ∧ Own W (w.heap.size + 1) 2 [] 0 ∧ W.cell? ⟨w.heap.size, 0, none⟩ = some v0 ∧ W.cell? ⟨w.heap.size, 1, none⟩ = some v1 ∧ W.cell? ⟨w.heap.size, 2, none⟩ = some v2 ∧ W.cell? ⟨w.heap.size, 3, none⟩ = some v3

theorem ownS_keep {w W u : World} {v0 v1 v2 v3 : Value} (h : ownS w v0 v1 v2 v3 W) (hb : Below W.heap.size W u) : ownS w v0 v1 v2 v3 u := by
  obtain ⟨h0, h5, h1, h2, h3, h4⟩ := h
  have z := World.block_lt_of_cell? _ _ h1
  exact ⟨h0.trans (hb.mono h0.size), h5.below hb h5.1, by rw [hb.cell (p := ⟨w.heap.size, 0, none⟩) z]; exact h1, by rw [hb.cell (p := ⟨w.heap.size, 1, none⟩) z]; exact h2, by rw [hb.cell (p := ⟨w.heap.size, 2, none⟩) z]; exact h3, by rw [hb.cell (p := ⟨w.heap.size, 3, none⟩) z]; exact h4⟩

theorem ownS_ge {w W : World} {v0 v1 v2 v3 : Value} (h : ownS w v0 v1 v2 v3 W) : w.heap.size + 2 ≤ W.heap.size := h.2.1.1

theorem Own.zset {w : World} {b n : Nat} {l : List (Int × Int)} (h : Own w b n l 0) (i : Nat) (u : Value) : Own (w.setCell ⟨b, i, none⟩ u) b n l 0 :=
  ⟨by simpa using h.1, fun j hj => ⟨by obtain ⟨v, hv⟩ := (h.2.1 j hj).1; exact ⟨_, cell_set hv⟩, by simpa using (h.2.1 j hj).2⟩, fun i hi => by omega⟩

theorem Own.fill {w : World} {b : Nat} (h : Own w b 2 [] 0) (y0 y1 y2 y3 : Value) :
    Box ((((w.setCell ⟨b, 0, none⟩ y0).setCell ⟨b, 1, none⟩ y1).setCell ⟨b, 2, none⟩ y2).setCell ⟨b, 3, none⟩ y3) b y0 y1 y2 y3 ∧ Out b (b + 1) w ((((w.setCell ⟨b, 0, none⟩ y0).setCell ⟨b, 1, none⟩ y1).setCell ⟨b, 2, none⟩ y2).setCell ⟨b, 3, none⟩ y3) := by
  obtain ⟨x0, hx0⟩ := (h.2.1 0 (by omega)).1
  obtain ⟨x1, hx1⟩ := (h.2.1 1 (by omega)).1
  obtain ⟨x2, hx2⟩ := (h.2.1 2 (by omega)).1
  obtain ⟨x3, hx3⟩ := (h.2.1 3 (by omega)).1
  exact Box.fill ⟨h.1, hx0, hx1, hx2, hx3, (h.2.1 0 (by omega)).2, (h.2.1 1 (by omega)).2, (h.2.1 2 (by omega)).2, (h.2.1 3 (by omega)).2⟩ y0 y1 y2 y3

theorem ownS_store {w W : World} {v0 v1 v2 v3 : Value} (y0 y1 y2 y3 : Value) (h : ownS w v0 v1 v2 v3 W) : ownS w v0 v1 v2 v3 ((((W.setCell ⟨w.heap.size + 1, 0, none⟩ y0).setCell ⟨w.heap.size + 1, 1, none⟩ y1).setCell ⟨w.heap.size + 1, 2, none⟩ y2).setCell ⟨w.heap.size + 1, 3, none⟩ y3) := by
  obtain ⟨h0, h5, h1, h2, h3, h4⟩ := h
  have key : ∀ (V : World) (i o : Nat) (u : Value), (V.setCell ⟨w.heap.size + 1, i, none⟩ u).cell? ⟨w.heap.size, o, none⟩ = V.cell? ⟨w.heap.size, o, none⟩ := fun V i o u => World.cell?_setCell_other _ _ _ _ (by intro e; injection e with e1; omega)
  refine ⟨Below.set (Below.set (Below.set (Below.set h0 _ _ (by omega) _) _ _ (by omega) _) _ _ (by omega) _) _ _ (by omega) _, (((h5.zset _ _).zset _ _).zset _ _).zset _ _, ?_, ?_, ?_, ?_⟩
  all_goals (rw [key, key, key, key]; assumption)

def ownOp0 : Oper := { dst := some 3, op := Op.buildSlice 26 0 #[], type := 26, pos := "l01_asn.go:137", after := #[], guard := none }
def ownOp1 : Oper := { dst := some 4, op := Op.fieldAddr 28 (Operand.tmp 1) 0, type := 0, pos := "l01_asn.go:137", after := #[], guard := none }
def ownOp2 : Oper := { dst := some 5, op := Op.load 26 (Operand.tmp 4), type := 26, pos := "l01_asn.go:137", after := #[{ on := 1, ground := Ground.data }], guard := none }
def ownOp3 : Oper := { dst := some 6, op := Op.call { callee := Callee.builtin Builtin.append, args := #[Operand.tmp 3, Operand.tmp 5], argTypes := #[26, 26] }, type := 26, pos := "l01_asn.go:137", after := #[{ on := 0, ground := Ground.data }, { on := 2, ground := Ground.data }], guard := none }
def ownOp4 : Oper := { dst := some 7, op := Op.buildSlice 26 0 #[], type := 26, pos := "l01_asn.go:137", after := #[], guard := none }
def ownOp5 : Oper := { dst := some 8, op := Op.fieldAddr 28 (Operand.tmp 1) 1, type := 0, pos := "l01_asn.go:137", after := #[], guard := none }
def ownOp6 : Oper := { dst := some 9, op := Op.load 26 (Operand.tmp 8), type := 26, pos := "l01_asn.go:137", after := #[{ on := 5, ground := Ground.data }], guard := none }
def ownOp7 : Oper := { dst := some 10, op := Op.call { callee := Callee.builtin Builtin.append, args := #[Operand.tmp 7, Operand.tmp 9], argTypes := #[26, 26] }, type := 26, pos := "l01_asn.go:137", after := #[{ on := 4, ground := Ground.data }, { on := 6, ground := Ground.data }, { on := 3, ground := Ground.chain }], guard := none }
def ownOp8 : Oper := { dst := some 11, op := Op.buildSlice 26 0 #[], type := 26, pos := "l01_asn.go:137", after := #[], guard := none }
def ownOp9 : Oper := { dst := some 12, op := Op.fieldAddr 28 (Operand.tmp 1) 2, type := 0, pos := "l01_asn.go:137", after := #[], guard := none }
def ownOp10 : Oper := { dst := some 13, op := Op.load 26 (Operand.tmp 12), type := 26, pos := "l01_asn.go:137", after := #[{ on := 9, ground := Ground.data }], guard := none }
def ownOp11 : Oper := { dst := some 14, op := Op.call { callee := Callee.builtin Builtin.append, args := #[Operand.tmp 11, Operand.tmp 13], argTypes := #[26, 26] }, type := 26, pos := "l01_asn.go:137", after := #[{ on := 8, ground := Ground.data }, { on := 10, ground := Ground.data }, { on := 7, ground := Ground.chain }], guard := none }
def ownOp12 : Oper := { dst := some 15, op := Op.buildSlice 26 0 #[], type := 26, pos := "l01_asn.go:137", after := #[], guard := none }
def ownOp13 : Oper := { dst := some 16, op := Op.fieldAddr 28 (Operand.tmp 1) 3, type := 0, pos := "l01_asn.go:137", after := #[], guard := none }
def ownOp14 : Oper := { dst := some 17, op := Op.load 26 (Operand.tmp 16), type := 26, pos := "l01_asn.go:137", after := #[{ on := 13, ground := Ground.data }], guard := none }
def ownOp15 : Oper := { dst := some 18, op := Op.call { callee := Callee.builtin Builtin.append, args := #[Operand.tmp 15, Operand.tmp 17], argTypes := #[26, 26] }, type := 26, pos := "l01_asn.go:137", after := #[{ on := 12, ground := Ground.data }, { on := 14, ground := Ground.data }, { on := 11, ground := Ground.chain }], guard := none }
def ownOp16 : Oper := { dst := some 19, op := Op.build 28 #[(0, Operand.tmp 6), (1, Operand.tmp 10), (2, Operand.tmp 14), (3, Operand.tmp 18)], type := 28, pos := "l01_asn.go:137", after := #[{ on := 3, ground := Ground.data }, { on := 7, ground := Ground.data }, { on := 11, ground := Ground.data }, { on := 15, ground := Ground.data }], guard := none }
def ownOp17 : Oper := { dst := none, op := Op.store 28 (Operand.tmp 2) (Operand.tmp 19), type := 0, pos := "l01_asn.go:137", after := #[{ on := 16, ground := Ground.data }, { on := 15, ground := Ground.chain }, { on := 0, ground := Ground.phase }, { on := 1, ground := Ground.phase }, { on := 2, ground := Ground.phase }, { on := 3, ground := Ground.phase }, { on := 4, ground := Ground.phase }, { on := 5, ground := Ground.phase }, { on := 6, ground := Ground.phase }, { on := 7, ground := Ground.phase }, { on := 8, ground := Ground.phase }, { on := 9, ground := Ground.phase }, { on := 10, ground := Ground.phase }, { on := 11, ground := Ground.phase }, { on := 12, ground := Ground.phase }, { on := 13, ground := Ground.phase }, { on := 14, ground := Ground.phase }, { on := 15, ground := Ground.phase }, { on := 16, ground := Ground.phase }], guard := none }
def ownOps : Array Oper := #[{ dst := some 3, op := Op.buildSlice 26 0 #[], type := 26, pos := "l01_asn.go:137", after := #[], guard := none }, { dst := some 4, op := Op.fieldAddr 28 (Operand.tmp 1) 0, type := 0, pos := "l01_asn.go:137", after := #[], guard := none }, { dst := some 5, op := Op.load 26 (Operand.tmp 4), type := 26, pos := "l01_asn.go:137", after := #[{ on := 1, ground := Ground.data }], guard := none }, { dst := some 6, op := Op.call { callee := Callee.builtin Builtin.append, args := #[Operand.tmp 3, Operand.tmp 5], argTypes := #[26, 26] }, type := 26, pos := "l01_asn.go:137", after := #[{ on := 0, ground := Ground.data }, { on := 2, ground := Ground.data }], guard := none }, { dst := some 7, op := Op.buildSlice 26 0 #[], type := 26, pos := "l01_asn.go:137", after := #[], guard := none }, { dst := some 8, op := Op.fieldAddr 28 (Operand.tmp 1) 1, type := 0, pos := "l01_asn.go:137", after := #[], guard := none }, { dst := some 9, op := Op.load 26 (Operand.tmp 8), type := 26, pos := "l01_asn.go:137", after := #[{ on := 5, ground := Ground.data }], guard := none }, { dst := some 10, op := Op.call { callee := Callee.builtin Builtin.append, args := #[Operand.tmp 7, Operand.tmp 9], argTypes := #[26, 26] }, type := 26, pos := "l01_asn.go:137", after := #[{ on := 4, ground := Ground.data }, { on := 6, ground := Ground.data }, { on := 3, ground := Ground.chain }], guard := none }, { dst := some 11, op := Op.buildSlice 26 0 #[], type := 26, pos := "l01_asn.go:137", after := #[], guard := none }, { dst := some 12, op := Op.fieldAddr 28 (Operand.tmp 1) 2, type := 0, pos := "l01_asn.go:137", after := #[], guard := none }, { dst := some 13, op := Op.load 26 (Operand.tmp 12), type := 26, pos := "l01_asn.go:137", after := #[{ on := 9, ground := Ground.data }], guard := none }, { dst := some 14, op := Op.call { callee := Callee.builtin Builtin.append, args := #[Operand.tmp 11, Operand.tmp 13], argTypes := #[26, 26] }, type := 26, pos := "l01_asn.go:137", after := #[{ on := 8, ground := Ground.data }, { on := 10, ground := Ground.data }, { on := 7, ground := Ground.chain }], guard := none }, { dst := some 15, op := Op.buildSlice 26 0 #[], type := 26, pos := "l01_asn.go:137", after := #[], guard := none }, { dst := some 16, op := Op.fieldAddr 28 (Operand.tmp 1) 3, type := 0, pos := "l01_asn.go:137", after := #[], guard := none }, { dst := some 17, op := Op.load 26 (Operand.tmp 16), type := 26, pos := "l01_asn.go:137", after := #[{ on := 13, ground := Ground.data }], guard := none }, { dst := some 18, op := Op.call { callee := Callee.builtin Builtin.append, args := #[Operand.tmp 15, Operand.tmp 17], argTypes := #[26, 26] }, type := 26, pos := "l01_asn.go:137", after := #[{ on := 12, ground := Ground.data }, { on := 14, ground := Ground.data }, { on := 11, ground := Ground.chain }], guard := none }, { dst := some 19, op := Op.build 28 #[(0, Operand.tmp 6), (1, Operand.tmp 10), (2, Operand.tmp 14), (3, Operand.tmp 18)], type := 28, pos := "l01_asn.go:137", after := #[{ on := 3, ground := Ground.data }, { on := 7, ground := Ground.data }, { on := 11, ground := Ground.data }, { on := 15, ground := Ground.data }], guard := none }, { dst := none, op := Op.store 28 (Operand.tmp 2) (Operand.tmp 19), type := 0, pos := "l01_asn.go:137", after := #[{ on := 16, ground := Ground.data }, { on := 15, ground := Ground.chain }, { on := 0, ground := Ground.phase }, { on := 1, ground := Ground.phase }, { on := 2, ground := Ground.phase }, { on := 3, ground := Ground.phase }, { on := 4, ground := Ground.phase }, { on := 5, ground := Ground.phase }, { on := 6, ground := Ground.phase }, { on := 7, ground := Ground.phase }, { on := 8, ground := Ground.phase }, { on := 9, ground := Ground.phase }, { on := 10, ground := Ground.phase }, { on := 11, ground := Ground.phase }, { on := 12, ground := Ground.phase }, { on := 13, ground := Ground.phase }, { on := 14, ground := Ground.phase }, { on := 15, ground := Ground.phase }, { on := 16, ground := Ground.phase }], guard := none }]

set_option maxRecDepth 20000 in
set_option maxHeartbeats 4000000 in
theorem own_nd4_n {b0 b1 b2 b3 c0 c1 c2 c3 : Nat} {l0 l1 l2 l3 : List (Int × Int)} {w : World} {Q : Exit → Act → World → Prop} (n0 : l0.length ≤ 1048576) (n1 : l1.length ≤ 1048576) (n2 : l2.length ≤ 1048576) (n3 : l3.length ≤ 1048576) (o0 : Own w b0 l0.length l0 l0.length) (o1 : Own w b1 l1.length l1 l1.length) (o2 : Own w b2 l2.length l2 l2.length) (o3 : Own w b3 l3.length l3 l3.length)
    (hQ : ∀ (W : World) (hS : ownS w (.slice (some ⟨b0, 0, none⟩) l0.length c0) (.slice (some ⟨b1, 0, none⟩) l1.length c1) (.slice (some ⟨b2, 0, none⟩) l2.length c2) (.slice (some ⟨b3, 0, none⟩) l3.length c3) W) (z0 z1 z2 z3 : Nat) (a0 : Option Addr) (e0 m1 : Nat) (t0 : RoomIn W (w.heap.size + 2) m1 a0 l0.length e0 l0) (g1 : m1 ≤ W.heap.size) (k1 : (w.heap.size + 2) ≤ m1) (a1 : Option Addr) (e1 m2 : Nat) (t1 : RoomIn W m1 m2 a1 l1.length e1 l1) (g2 : m2 ≤ W.heap.size) (k2 : m1 ≤ m2) (a2 : Option Addr) (e2 m3 : Nat) (t2 : RoomIn W m2 m3 a2 l2.length e2 l2) (g3 : m3 ≤ W.heap.size) (k3 : m2 ≤ m3) (a3 : Option Addr) (e3 m4 : Nat) (t3 : RoomIn W m3 m4 a3 l3.length e3 l3) (g4 : m4 ≤ W.heap.size) (k4 : m3 ≤ m4), Q .normal { tmps := #[.agg #[.slice (some ⟨b0, 0, none⟩) l0.length c0, .slice (some ⟨b1, 0, none⟩) l1.length c1, .slice (some ⟨b2, 0, none⟩) l2.length c2, .slice (some ⟨b3, 0, none⟩) l3.length c3], .pointer (some ⟨w.heap.size, 0, none⟩), .pointer (some ⟨w.heap.size + 1, 0, none⟩), .slice (some ⟨z0, 0, none⟩) 0 0, .pointer (some ⟨w.heap.size, 0, none⟩), .slice (some ⟨b0, 0, none⟩) l0.length c0, .slice a0 l0.length e0, .slice (some ⟨z1, 0, none⟩) 0 0, .pointer (some ⟨w.heap.size, 1, none⟩), .slice (some ⟨b1, 0, none⟩) l1.length c1, .slice a1 l1.length e1, .slice (some ⟨z2, 0, none⟩) 0 0, .pointer (some ⟨w.heap.size, 2, none⟩), .slice (some ⟨b2, 0, none⟩) l2.length c2, .slice a2 l2.length e2, .slice (some ⟨z3, 0, none⟩) 0 0, .pointer (some ⟨w.heap.size, 3, none⟩), .slice (some ⟨b3, 0, none⟩) l3.length c3, .slice a3 l3.length e3, .agg #[.slice a0 l0.length e0, .slice a1 l1.length e1, .slice a2 l2.length e2, .slice a3 l3.length e3]], defers := [] } ((((W.setCell ⟨w.heap.size + 1, 0, none⟩ (.slice a0 l0.length e0)).setCell ⟨w.heap.size + 1, 1, none⟩ (.slice a1 l1.length e1)).setCell ⟨w.heap.size + 1, 2, none⟩ (.slice a2 l2.length e2)).setCell ⟨w.heap.size + 1, 3, none⟩ (.slice a3 l3.length e3)))
    (W : World) (hS : ownS w (.slice (some ⟨b0, 0, none⟩) l0.length c0) (.slice (some ⟨b1, 0, none⟩) l1.length c1) (.slice (some ⟨b2, 0, none⟩) l2.length c2) (.slice (some ⟨b3, 0, none⟩) l3.length c3) W) (z0 z1 z2 z3 : Nat) (a0 : Option Addr) (e0 m1 : Nat) (t0 : RoomIn W (w.heap.size + 2) m1 a0 l0.length e0 l0) (g1 : m1 ≤ W.heap.size) (k1 : (w.heap.size + 2) ≤ m1) (a1 : Option Addr) (e1 m2 : Nat) (t1 : RoomIn W m1 m2 a1 l1.length e1 l1) (g2 : m2 ≤ W.heap.size) (k2 : m1 ≤ m2) (a2 : Option Addr) (e2 m3 : Nat) (t2 : RoomIn W m2 m3 a2 l2.length e2 l2) (g3 : m3 ≤ W.heap.size) (k3 : m2 ≤ m3) (a3 : Option Addr) (e3 m4 : Nat) (t3 : RoomIn W m3 m4 a3 l3.length e3 l3) (g4 : m4 ≤ W.heap.size) (k4 : m3 ≤ m4) :
    wpAnyH Try.prog .any ownOps Q (ownS w (.slice (some ⟨b0, 0, none⟩) l0.length c0) (.slice (some ⟨b1, 0, none⟩) l1.length c1) (.slice (some ⟨b2, 0, none⟩) l2.length c2) (.slice (some ⟨b3, 0, none⟩) l3.length c3)) 2 #[true, true, true, true, true, true, true, true, true, true, true, true, true, true, true, true, false, false] { tmps := #[.agg #[.slice (some ⟨b0, 0, none⟩) l0.length c0, .slice (some ⟨b1, 0, none⟩) l1.length c1, .slice (some ⟨b2, 0, none⟩) l2.length c2, .slice (some ⟨b3, 0, none⟩) l3.length c3], .pointer (some ⟨w.heap.size, 0, none⟩), .pointer (some ⟨w.heap.size + 1, 0, none⟩), .slice (some ⟨z0, 0, none⟩) 0 0, .pointer (some ⟨w.heap.size, 0, none⟩), .slice (some ⟨b0, 0, none⟩) l0.length c0, .slice a0 l0.length e0, .slice (some ⟨z1, 0, none⟩) 0 0, .pointer (some ⟨w.heap.size, 1, none⟩), .slice (some ⟨b1, 0, none⟩) l1.length c1, .slice a1 l1.length e1, .slice (some ⟨z2, 0, none⟩) 0 0, .pointer (some ⟨w.heap.size, 2, none⟩), .slice (some ⟨b2, 0, none⟩) l2.length c2, .slice a2 l2.length e2, .slice (some ⟨z3, 0, none⟩) 0 0, .pointer (some ⟨w.heap.size, 3, none⟩), .slice (some ⟨b3, 0, none⟩) l3.length c3, .slice a3 l3.length e3, undef], defers := [] } W := by
  refine wpAnyH_ready (rs := [16]) (by kernel_rfl) (by simp) ?_
  refine AllReadyH.cons (o := { dst := some 19, op := Op.build 28 #[(0, Operand.tmp 6), (1, Operand.tmp 10), (2, Operand.tmp 14), (3, Operand.tmp 18)], type := 28, pos := "l01_asn.go:137", after := #[{ on := 3, ground := Ground.data }, { on := 7, ground := Ground.data }, { on := 11, ground := Ground.data }, { on := 15, ground := Ground.data }], guard := none }) rfl (fun K hK => ?_) AllReadyH.nil
  go_simp
  refine hK.out _ _ hS (fun _ => ?_)
  show wpAnyH Try.prog .any ownOps Q (ownS w (.slice (some ⟨b0, 0, none⟩) l0.length c0) (.slice (some ⟨b1, 0, none⟩) l1.length c1) (.slice (some ⟨b2, 0, none⟩) l2.length c2) (.slice (some ⟨b3, 0, none⟩) l3.length c3)) 1 #[true, true, true, true, true, true, true, true, true, true, true, true, true, true, true, true, true, false] { tmps := #[.agg #[.slice (some ⟨b0, 0, none⟩) l0.length c0, .slice (some ⟨b1, 0, none⟩) l1.length c1, .slice (some ⟨b2, 0, none⟩) l2.length c2, .slice (some ⟨b3, 0, none⟩) l3.length c3], .pointer (some ⟨w.heap.size, 0, none⟩), .pointer (some ⟨w.heap.size + 1, 0, none⟩), .slice (some ⟨z0, 0, none⟩) 0 0, .pointer (some ⟨w.heap.size, 0, none⟩), .slice (some ⟨b0, 0, none⟩) l0.length c0, .slice a0 l0.length e0, .slice (some ⟨z1, 0, none⟩) 0 0, .pointer (some ⟨w.heap.size, 1, none⟩), .slice (some ⟨b1, 0, none⟩) l1.length c1, .slice a1 l1.length e1, .slice (some ⟨z2, 0, none⟩) 0 0, .pointer (some ⟨w.heap.size, 2, none⟩), .slice (some ⟨b2, 0, none⟩) l2.length c2, .slice a2 l2.length e2, .slice (some ⟨z3, 0, none⟩) 0 0, .pointer (some ⟨w.heap.size, 3, none⟩), .slice (some ⟨b3, 0, none⟩) l3.length c3, .slice a3 l3.length e3, .agg #[.slice a0 l0.length e0, .slice a1 l1.length e1, .slice a2 l2.length e2, .slice a3 l3.length e3]], defers := [] } W
  refine wpAnyH_ready (rs := [17]) (by kernel_rfl) (by simp) ?_
  refine AllReadyH.cons (o := { dst := none, op := Op.store 28 (Operand.tmp 2) (Operand.tmp 19), type := 0, pos := "l01_asn.go:137", after := #[{ on := 16, ground := Ground.data }, { on := 15, ground := Ground.chain }, { on := 0, ground := Ground.phase }, { on := 1, ground := Ground.phase }, { on := 2, ground := Ground.phase }, { on := 3, ground := Ground.phase }, { on := 4, ground := Ground.phase }, { on := 5, ground := Ground.phase }, { on := 6, ground := Ground.phase }, { on := 7, ground := Ground.phase }, { on := 8, ground := Ground.phase }, { on := 9, ground := Ground.phase }, { on := 10, ground := Ground.phase }, { on := 11, ground := Ground.phase }, { on := 12, ground := Ground.phase }, { on := 13, ground := Ground.phase }, { on := 14, ground := Ground.phase }, { on := 15, ground := Ground.phase }, { on := 16, ground := Ground.phase }], guard := none }) rfl (fun K hK => ?_) AllReadyH.nil
  obtain ⟨x0, hx0⟩ := (hS.2.1.2.1 0 (by omega)).1; obtain ⟨x1, hx1⟩ := (hS.2.1.2.1 1 (by omega)).1; obtain ⟨x2, hx2⟩ := (hS.2.1.2.1 2 (by omega)).1; obtain ⟨x3, hx3⟩ := (hS.2.1.2.1 3 (by omega)).1
  have f0 := (hS.2.1.2.1 0 (by omega)).2; have f1 := (hS.2.1.2.1 1 (by omega)).2; have f2 := (hS.2.1.2.1 2 (by omega)).2; have f3 := (hS.2.1.2.1 3 (by omega)).2
  go_simp
  refine hK.out _ _ (ownS_store _ _ _ _ hS) (fun _ => ?_)
  refine wpAnyH_done (by kernel_rfl) ?_ _
  exact hQ W hS z0 z1 z2 z3 a0 e0 m1 t0 g1 k1 a1 e1 m2 t1 g2 k2 a2 e2 m3 t2 g3 k3 a3 e3 m4 t3 g4 k4

set_option maxRecDepth 20000 in
set_option maxHeartbeats 4000000 in
theorem own_nd3_3 {b0 b1 b2 b3 c0 c1 c2 c3 : Nat} {l0 l1 l2 l3 : List (Int × Int)} {w : World} {Q : Exit → Act → World → Prop} (n0 : l0.length ≤ 1048576) (n1 : l1.length ≤ 1048576) (n2 : l2.length ≤ 1048576) (n3 : l3.length ≤ 1048576) (o0 : Own w b0 l0.length l0 l0.length) (o1 : Own w b1 l1.length l1 l1.length) (o2 : Own w b2 l2.length l2 l2.length) (o3 : Own w b3 l3.length l3 l3.length)
    (hQ : ∀ (W : World) (hS : ownS w (.slice (some ⟨b0, 0, none⟩) l0.length c0) (.slice (some ⟨b1, 0, none⟩) l1.length c1) (.slice (some ⟨b2, 0, none⟩) l2.length c2) (.slice (some ⟨b3, 0, none⟩) l3.length c3) W) (z0 z1 z2 z3 : Nat) (a0 : Option Addr) (e0 m1 : Nat) (t0 : RoomIn W (w.heap.size + 2) m1 a0 l0.length e0 l0) (g1 : m1 ≤ W.heap.size) (k1 : (w.heap.size + 2) ≤ m1) (a1 : Option Addr) (e1 m2 : Nat) (t1 : RoomIn W m1 m2 a1 l1.length e1 l1) (g2 : m2 ≤ W.heap.size) (k2 : m1 ≤ m2) (a2 : Option Addr) (e2 m3 : Nat) (t2 : RoomIn W m2 m3 a2 l2.length e2 l2) (g3 : m3 ≤ W.heap.size) (k3 : m2 ≤ m3) (a3 : Option Addr) (e3 m4 : Nat) (t3 : RoomIn W m3 m4 a3 l3.length e3 l3) (g4 : m4 ≤ W.heap.size) (k4 : m3 ≤ m4), Q .normal { tmps := #[.agg #[.slice (some ⟨b0, 0, none⟩) l0.length c0, .slice (some ⟨b1, 0, none⟩) l1.length c1, .slice (some ⟨b2, 0, none⟩) l2.length c2, .slice (some ⟨b3, 0, none⟩) l3.length c3], .pointer (some ⟨w.heap.size, 0, none⟩), .pointer (some ⟨w.heap.size + 1, 0, none⟩), .slice (some ⟨z0, 0, none⟩) 0 0, .pointer (some ⟨w.heap.size, 0, none⟩), .slice (some ⟨b0, 0, none⟩) l0.length c0, .slice a0 l0.length e0, .slice (some ⟨z1, 0, none⟩) 0 0, .pointer (some ⟨w.heap.size, 1, none⟩), .slice (some ⟨b1, 0, none⟩) l1.length c1, .slice a1 l1.length e1, .slice (some ⟨z2, 0, none⟩) 0 0, .pointer (some ⟨w.heap.size, 2, none⟩), .slice (some ⟨b2, 0, none⟩) l2.length c2, .slice a2 l2.length e2, .slice (some ⟨z3, 0, none⟩) 0 0, .pointer (some ⟨w.heap.size, 3, none⟩), .slice (some ⟨b3, 0, none⟩) l3.length c3, .slice a3 l3.length e3, .agg #[.slice a0 l0.length e0, .slice a1 l1.length e1, .slice a2 l2.length e2, .slice a3 l3.length e3]], defers := [] } ((((W.setCell ⟨w.heap.size + 1, 0, none⟩ (.slice a0 l0.length e0)).setCell ⟨w.heap.size + 1, 1, none⟩ (.slice a1 l1.length e1)).setCell ⟨w.heap.size + 1, 2, none⟩ (.slice a2 l2.length e2)).setCell ⟨w.heap.size + 1, 3, none⟩ (.slice a3 l3.length e3)))
    (W : World) (hS : ownS w (.slice (some ⟨b0, 0, none⟩) l0.length c0) (.slice (some ⟨b1, 0, none⟩) l1.length c1) (.slice (some ⟨b2, 0, none⟩) l2.length c2) (.slice (some ⟨b3, 0, none⟩) l3.length c3) W) (z0 z1 z2 z3 : Nat) (a0 : Option Addr) (e0 m1 : Nat) (t0 : RoomIn W (w.heap.size + 2) m1 a0 l0.length e0 l0) (g1 : m1 ≤ W.heap.size) (k1 : (w.heap.size + 2) ≤ m1) (a1 : Option Addr) (e1 m2 : Nat) (t1 : RoomIn W m1 m2 a1 l1.length e1 l1) (g2 : m2 ≤ W.heap.size) (k2 : m1 ≤ m2) (a2 : Option Addr) (e2 m3 : Nat) (t2 : RoomIn W m2 m3 a2 l2.length e2 l2) (g3 : m3 ≤ W.heap.size) (k3 : m2 ≤ m3) :
    wpAnyH Try.prog .any ownOps Q (ownS w (.slice (some ⟨b0, 0, none⟩) l0.length c0) (.slice (some ⟨b1, 0, none⟩) l1.length c1) (.slice (some ⟨b2, 0, none⟩) l2.length c2) (.slice (some ⟨b3, 0, none⟩) l3.length c3)) 3 #[true, true, true, true, true, true, true, true, true, true, true, true, true, true, true, false, false, false] { tmps := #[.agg #[.slice (some ⟨b0, 0, none⟩) l0.length c0, .slice (some ⟨b1, 0, none⟩) l1.length c1, .slice (some ⟨b2, 0, none⟩) l2.length c2, .slice (some ⟨b3, 0, none⟩) l3.length c3], .pointer (some ⟨w.heap.size, 0, none⟩), .pointer (some ⟨w.heap.size + 1, 0, none⟩), .slice (some ⟨z0, 0, none⟩) 0 0, .pointer (some ⟨w.heap.size, 0, none⟩), .slice (some ⟨b0, 0, none⟩) l0.length c0, .slice a0 l0.length e0, .slice (some ⟨z1, 0, none⟩) 0 0, .pointer (some ⟨w.heap.size, 1, none⟩), .slice (some ⟨b1, 0, none⟩) l1.length c1, .slice a1 l1.length e1, .slice (some ⟨z2, 0, none⟩) 0 0, .pointer (some ⟨w.heap.size, 2, none⟩), .slice (some ⟨b2, 0, none⟩) l2.length c2, .slice a2 l2.length e2, .slice (some ⟨z3, 0, none⟩) 0 0, .pointer (some ⟨w.heap.size, 3, none⟩), .slice (some ⟨b3, 0, none⟩) l3.length c3, undef, undef], defers := [] } W := by
  refine wpAnyH_ready (rs := [15]) (by kernel_rfl) (by simp) ?_
  refine AllReadyH.cons (o := ownOp15) rfl (fun K hK => ?_) ?_
  · refine step_fresh (by rfl) (Operand.tmp 15) (Operand.tmp 17) (by rfl) z3 b3 l3.length c3 l3 (by rfl) (by rfl) rfl (o3.below hS.1 o3.1) n3 ?_
    intro a3 e3 W' hr hb
    have hS' := ownS_keep hS hb
    refine hK.out _ _ hS' (fun _ => ?_)
    exact own_nd4_n n0 n1 n2 n3 o0 o1 o2 o3 hQ W' hS' z0 z1 z2 z3 a0 e0 m1 (t0.below hb g1) (Nat.le_trans g1 hb.size) k1 a1 e1 m2 (t1.below hb g2) (Nat.le_trans g2 hb.size) k2 a2 e2 m3 (t2.below hb g3) (Nat.le_trans g3 hb.size) k3 a3 e3 W'.heap.size (hr.mono g3 (Nat.le_refl _)) (Nat.le_refl _) (Nat.le_trans g3 hb.size)
  exact AllReadyH.nil

set_option maxRecDepth 20000 in
set_option maxHeartbeats 4000000 in
theorem own_nd3_n {b0 b1 b2 b3 c0 c1 c2 c3 : Nat} {l0 l1 l2 l3 : List (Int × Int)} {w : World} {Q : Exit → Act → World → Prop} (n0 : l0.length ≤ 1048576) (n1 : l1.length ≤ 1048576) (n2 : l2.length ≤ 1048576) (n3 : l3.length ≤ 1048576) (o0 : Own w b0 l0.length l0 l0.length) (o1 : Own w b1 l1.length l1 l1.length) (o2 : Own w b2 l2.length l2 l2.length) (o3 : Own w b3 l3.length l3 l3.length)
    (hQ : ∀ (W : World) (hS : ownS w (.slice (some ⟨b0, 0, none⟩) l0.length c0) (.slice (some ⟨b1, 0, none⟩) l1.length c1) (.slice (some ⟨b2, 0, none⟩) l2.length c2) (.slice (some ⟨b3, 0, none⟩) l3.length c3) W) (z0 z1 z2 z3 : Nat) (a0 : Option Addr) (e0 m1 : Nat) (t0 : RoomIn W (w.heap.size + 2) m1 a0 l0.length e0 l0) (g1 : m1 ≤ W.heap.size) (k1 : (w.heap.size + 2) ≤ m1) (a1 : Option Addr) (e1 m2 : Nat) (t1 : RoomIn W m1 m2 a1 l1.length e1 l1) (g2 : m2 ≤ W.heap.size) (k2 : m1 ≤ m2) (a2 : Option Addr) (e2 m3 : Nat) (t2 : RoomIn W m2 m3 a2 l2.length e2 l2) (g3 : m3 ≤ W.heap.size) (k3 : m2 ≤ m3) (a3 : Option Addr) (e3 m4 : Nat) (t3 : RoomIn W m3 m4 a3 l3.length e3 l3) (g4 : m4 ≤ W.heap.size) (k4 : m3 ≤ m4), Q .normal { tmps := #[.agg #[.slice (some ⟨b0, 0, none⟩) l0.length c0, .slice (some ⟨b1, 0, none⟩) l1.length c1, .slice (some ⟨b2, 0, none⟩) l2.length c2, .slice (some ⟨b3, 0, none⟩) l3.length c3], .pointer (some ⟨w.heap.size, 0, none⟩), .pointer (some ⟨w.heap.size + 1, 0, none⟩), .slice (some ⟨z0, 0, none⟩) 0 0, .pointer (some ⟨w.heap.size, 0, none⟩), .slice (some ⟨b0, 0, none⟩) l0.length c0, .slice a0 l0.length e0, .slice (some ⟨z1, 0, none⟩) 0 0, .pointer (some ⟨w.heap.size, 1, none⟩), .slice (some ⟨b1, 0, none⟩) l1.length c1, .slice a1 l1.length e1, .slice (some ⟨z2, 0, none⟩) 0 0, .pointer (some ⟨w.heap.size, 2, none⟩), .slice (some ⟨b2, 0, none⟩) l2.length c2, .slice a2 l2.length e2, .slice (some ⟨z3, 0, none⟩) 0 0, .pointer (some ⟨w.heap.size, 3, none⟩), .slice (some ⟨b3, 0, none⟩) l3.length c3, .slice a3 l3.length e3, .agg #[.slice a0 l0.length e0, .slice a1 l1.length e1, .slice a2 l2.length e2, .slice a3 l3.length e3]], defers := [] } ((((W.setCell ⟨w.heap.size + 1, 0, none⟩ (.slice a0 l0.length e0)).setCell ⟨w.heap.size + 1, 1, none⟩ (.slice a1 l1.length e1)).setCell ⟨w.heap.size + 1, 2, none⟩ (.slice a2 l2.length e2)).setCell ⟨w.heap.size + 1, 3, none⟩ (.slice a3 l3.length e3)))
    (W : World) (hS : ownS w (.slice (some ⟨b0, 0, none⟩) l0.length c0) (.slice (some ⟨b1, 0, none⟩) l1.length c1) (.slice (some ⟨b2, 0, none⟩) l2.length c2) (.slice (some ⟨b3, 0, none⟩) l3.length c3) W) (z0 z1 z2 : Nat) (a0 : Option Addr) (e0 m1 : Nat) (t0 : RoomIn W (w.heap.size + 2) m1 a0 l0.length e0 l0) (g1 : m1 ≤ W.heap.size) (k1 : (w.heap.size + 2) ≤ m1) (a1 : Option Addr) (e1 m2 : Nat) (t1 : RoomIn W m1 m2 a1 l1.length e1 l1) (g2 : m2 ≤ W.heap.size) (k2 : m1 ≤ m2) (a2 : Option Addr) (e2 m3 : Nat) (t2 : RoomIn W m2 m3 a2 l2.length e2 l2) (g3 : m3 ≤ W.heap.size) (k3 : m2 ≤ m3) :
    wpAnyH Try.prog .any ownOps Q (ownS w (.slice (some ⟨b0, 0, none⟩) l0.length c0) (.slice (some ⟨b1, 0, none⟩) l1.length c1) (.slice (some ⟨b2, 0, none⟩) l2.length c2) (.slice (some ⟨b3, 0, none⟩) l3.length c3)) 4 #[true, true, true, true, true, true, true, true, true, true, true, true, false, true, true, false, false, false] { tmps := #[.agg #[.slice (some ⟨b0, 0, none⟩) l0.length c0, .slice (some ⟨b1, 0, none⟩) l1.length c1, .slice (some ⟨b2, 0, none⟩) l2.length c2, .slice (some ⟨b3, 0, none⟩) l3.length c3], .pointer (some ⟨w.heap.size, 0, none⟩), .pointer (some ⟨w.heap.size + 1, 0, none⟩), .slice (some ⟨z0, 0, none⟩) 0 0, .pointer (some ⟨w.heap.size, 0, none⟩), .slice (some ⟨b0, 0, none⟩) l0.length c0, .slice a0 l0.length e0, .slice (some ⟨z1, 0, none⟩) 0 0, .pointer (some ⟨w.heap.size, 1, none⟩), .slice (some ⟨b1, 0, none⟩) l1.length c1, .slice a1 l1.length e1, .slice (some ⟨z2, 0, none⟩) 0 0, .pointer (some ⟨w.heap.size, 2, none⟩), .slice (some ⟨b2, 0, none⟩) l2.length c2, .slice a2 l2.length e2, undef, .pointer (some ⟨w.heap.size, 3, none⟩), .slice (some ⟨b3, 0, none⟩) l3.length c3, undef, undef], defers := [] } W := by
  refine wpAnyH_ready (rs := [12]) (by kernel_rfl) (by simp) ?_
  refine AllReadyH.cons (o := ownOp12) rfl (fun K hK => ?_) ?_
  · refine step_lit (by rfl) (by rfl) ?_
    intro z3 W' hb
    have hS' := ownS_keep hS hb
    refine hK.out _ _ hS' (fun _ => ?_)
    exact own_nd3_3 n0 n1 n2 n3 o0 o1 o2 o3 hQ W' hS' z0 z1 z2 z3 a0 e0 m1 (t0.below hb g1) (Nat.le_trans g1 hb.size) k1 a1 e1 m2 (t1.below hb g2) (Nat.le_trans g2 hb.size) k2 a2 e2 m3 (t2.below hb g3) (Nat.le_trans g3 hb.size) k3
  exact AllReadyH.nil

set_option maxRecDepth 20000 in
set_option maxHeartbeats 4000000 in
theorem own_nd2_23 {b0 b1 b2 b3 c0 c1 c2 c3 : Nat} {l0 l1 l2 l3 : List (Int × Int)} {w : World} {Q : Exit → Act → World → Prop} (n0 : l0.length ≤ 1048576) (n1 : l1.length ≤ 1048576) (n2 : l2.length ≤ 1048576) (n3 : l3.length ≤ 1048576) (o0 : Own w b0 l0.length l0 l0.length) (o1 : Own w b1 l1.length l1 l1.length) (o2 : Own w b2 l2.length l2 l2.length) (o3 : Own w b3 l3.length l3 l3.length)
    (hQ : ∀ (W : World) (hS : ownS w (.slice (some ⟨b0, 0, none⟩) l0.length c0) (.slice (some ⟨b1, 0, none⟩) l1.length c1) (.slice (some ⟨b2, 0, none⟩) l2.length c2) (.slice (some ⟨b3, 0, none⟩) l3.length c3) W) (z0 z1 z2 z3 : Nat) (a0 : Option Addr) (e0 m1 : Nat) (t0 : RoomIn W (w.heap.size + 2) m1 a0 l0.length e0 l0) (g1 : m1 ≤ W.heap.size) (k1 : (w.heap.size + 2) ≤ m1) (a1 : Option Addr) (e1 m2 : Nat) (t1 : RoomIn W m1 m2 a1 l1.length e1 l1) (g2 : m2 ≤ W.heap.size) (k2 : m1 ≤ m2) (a2 : Option Addr) (e2 m3 : Nat) (t2 : RoomIn W m2 m3 a2 l2.length e2 l2) (g3 : m3 ≤ W.heap.size) (k3 : m2 ≤ m3) (a3 : Option Addr) (e3 m4 : Nat) (t3 : RoomIn W m3 m4 a3 l3.length e3 l3) (g4 : m4 ≤ W.heap.size) (k4 : m3 ≤ m4), Q .normal { tmps := #[.agg #[.slice (some ⟨b0, 0, none⟩) l0.length c0, .slice (some ⟨b1, 0, none⟩) l1.length c1, .slice (some ⟨b2, 0, none⟩) l2.length c2, .slice (some ⟨b3, 0, none⟩) l3.length c3], .pointer (some ⟨w.heap.size, 0, none⟩), .pointer (some ⟨w.heap.size + 1, 0, none⟩), .slice (some ⟨z0, 0, none⟩) 0 0, .pointer (some ⟨w.heap.size, 0, none⟩), .slice (some ⟨b0, 0, none⟩) l0.length c0, .slice a0 l0.length e0, .slice (some ⟨z1, 0, none⟩) 0 0, .pointer (some ⟨w.heap.size, 1, none⟩), .slice (some ⟨b1, 0, none⟩) l1.length c1, .slice a1 l1.length e1, .slice (some ⟨z2, 0, none⟩) 0 0, .pointer (some ⟨w.heap.size, 2, none⟩), .slice (some ⟨b2, 0, none⟩) l2.length c2, .slice a2 l2.length e2, .slice (some ⟨z3, 0, none⟩) 0 0, .pointer (some ⟨w.heap.size, 3, none⟩), .slice (some ⟨b3, 0, none⟩) l3.length c3, .slice a3 l3.length e3, .agg #[.slice a0 l0.length e0, .slice a1 l1.length e1, .slice a2 l2.length e2, .slice a3 l3.length e3]], defers := [] } ((((W.setCell ⟨w.heap.size + 1, 0, none⟩ (.slice a0 l0.length e0)).setCell ⟨w.heap.size + 1, 1, none⟩ (.slice a1 l1.length e1)).setCell ⟨w.heap.size + 1, 2, none⟩ (.slice a2 l2.length e2)).setCell ⟨w.heap.size + 1, 3, none⟩ (.slice a3 l3.length e3)))
    (W : World) (hS : ownS w (.slice (some ⟨b0, 0, none⟩) l0.length c0) (.slice (some ⟨b1, 0, none⟩) l1.length c1) (.slice (some ⟨b2, 0, none⟩) l2.length c2) (.slice (some ⟨b3, 0, none⟩) l3.length c3) W) (z0 z1 z2 z3 : Nat) (a0 : Option Addr) (e0 m1 : Nat) (t0 : RoomIn W (w.heap.size + 2) m1 a0 l0.length e0 l0) (g1 : m1 ≤ W.heap.size) (k1 : (w.heap.size + 2) ≤ m1) (a1 : Option Addr) (e1 m2 : Nat) (t1 : RoomIn W m1 m2 a1 l1.length e1 l1) (g2 : m2 ≤ W.heap.size) (k2 : m1 ≤ m2) :
    wpAnyH Try.prog .any ownOps Q (ownS w (.slice (some ⟨b0, 0, none⟩) l0.length c0) (.slice (some ⟨b1, 0, none⟩) l1.length c1) (.slice (some ⟨b2, 0, none⟩) l2.length c2) (.slice (some ⟨b3, 0, none⟩) l3.length c3)) 4 #[true, true, true, true, true, true, true, true, true, true, true, false, true, true, true, false, false, false] { tmps := #[.agg #[.slice (some ⟨b0, 0, none⟩) l0.length c0, .slice (some ⟨b1, 0, none⟩) l1.length c1, .slice (some ⟨b2, 0, none⟩) l2.length c2, .slice (some ⟨b3, 0, none⟩) l3.length c3], .pointer (some ⟨w.heap.size, 0, none⟩), .pointer (some ⟨w.heap.size + 1, 0, none⟩), .slice (some ⟨z0, 0, none⟩) 0 0, .pointer (some ⟨w.heap.size, 0, none⟩), .slice (some ⟨b0, 0, none⟩) l0.length c0, .slice a0 l0.length e0, .slice (some ⟨z1, 0, none⟩) 0 0, .pointer (some ⟨w.heap.size, 1, none⟩), .slice (some ⟨b1, 0, none⟩) l1.length c1, .slice a1 l1.length e1, .slice (some ⟨z2, 0, none⟩) 0 0, .pointer (some ⟨w.heap.size, 2, none⟩), .slice (some ⟨b2, 0, none⟩) l2.length c2, undef, .slice (some ⟨z3, 0, none⟩) 0 0, .pointer (some ⟨w.heap.size, 3, none⟩), .slice (some ⟨b3, 0, none⟩) l3.length c3, undef, undef], defers := [] } W := by
  refine wpAnyH_ready (rs := [11]) (by kernel_rfl) (by simp) ?_
  refine AllReadyH.cons (o := ownOp11) rfl (fun K hK => ?_) ?_
  · refine step_fresh (by rfl) (Operand.tmp 11) (Operand.tmp 13) (by rfl) z2 b2 l2.length c2 l2 (by rfl) (by rfl) rfl (o2.below hS.1 o2.1) n2 ?_
    intro a2 e2 W' hr hb
    have hS' := ownS_keep hS hb
    refine hK.out _ _ hS' (fun _ => ?_)
    exact own_nd3_3 n0 n1 n2 n3 o0 o1 o2 o3 hQ W' hS' z0 z1 z2 z3 a0 e0 m1 (t0.below hb g1) (Nat.le_trans g1 hb.size) k1 a1 e1 m2 (t1.below hb g2) (Nat.le_trans g2 hb.size) k2 a2 e2 W'.heap.size (hr.mono g2 (Nat.le_refl _)) (Nat.le_refl _) (Nat.le_trans g2 hb.size)
  exact AllReadyH.nil

set_option maxRecDepth 20000 in
set_option maxHeartbeats 4000000 in
theorem own_nd2_2 {b0 b1 b2 b3 c0 c1 c2 c3 : Nat} {l0 l1 l2 l3 : List (Int × Int)} {w : World} {Q : Exit → Act → World → Prop} (n0 : l0.length ≤ 1048576) (n1 : l1.length ≤ 1048576) (n2 : l2.length ≤ 1048576) (n3 : l3.length ≤ 1048576) (o0 : Own w b0 l0.length l0 l0.length) (o1 : Own w b1 l1.length l1 l1.length) (o2 : Own w b2 l2.length l2 l2.length) (o3 : Own w b3 l3.length l3 l3.length)
    (hQ : ∀ (W : World) (hS : ownS w (.slice (some ⟨b0, 0, none⟩) l0.length c0) (.slice (some ⟨b1, 0, none⟩) l1.length c1) (.slice (some ⟨b2, 0, none⟩) l2.length c2) (.slice (some ⟨b3, 0, none⟩) l3.length c3) W) (z0 z1 z2 z3 : Nat) (a0 : Option Addr) (e0 m1 : Nat) (t0 : RoomIn W (w.heap.size + 2) m1 a0 l0.length e0 l0) (g1 : m1 ≤ W.heap.size) (k1 : (w.heap.size + 2) ≤ m1) (a1 : Option Addr) (e1 m2 : Nat) (t1 : RoomIn W m1 m2 a1 l1.length e1 l1) (g2 : m2 ≤ W.heap.size) (k2 : m1 ≤ m2) (a2 : Option Addr) (e2 m3 : Nat) (t2 : RoomIn W m2 m3 a2 l2.length e2 l2) (g3 : m3 ≤ W.heap.size) (k3 : m2 ≤ m3) (a3 : Option Addr) (e3 m4 : Nat) (t3 : RoomIn W m3 m4 a3 l3.length e3 l3) (g4 : m4 ≤ W.heap.size) (k4 : m3 ≤ m4), Q .normal { tmps := #[.agg #[.slice (some ⟨b0, 0, none⟩) l0.length c0, .slice (some ⟨b1, 0, none⟩) l1.length c1, .slice (some ⟨b2, 0, none⟩) l2.length c2, .slice (some ⟨b3, 0, none⟩) l3.length c3], .pointer (some ⟨w.heap.size, 0, none⟩), .pointer (some ⟨w.heap.size + 1, 0, none⟩), .slice (some ⟨z0, 0, none⟩) 0 0, .pointer (some ⟨w.heap.size, 0, none⟩), .slice (some ⟨b0, 0, none⟩) l0.length c0, .slice a0 l0.length e0, .slice (some ⟨z1, 0, none⟩) 0 0, .pointer (some ⟨w.heap.size, 1, none⟩), .slice (some ⟨b1, 0, none⟩) l1.length c1, .slice a1 l1.length e1, .slice (some ⟨z2, 0, none⟩) 0 0, .pointer (some ⟨w.heap.size, 2, none⟩), .slice (some ⟨b2, 0, none⟩) l2.length c2, .slice a2 l2.length e2, .slice (some ⟨z3, 0, none⟩) 0 0, .pointer (some ⟨w.heap.size, 3, none⟩), .slice (some ⟨b3, 0, none⟩) l3.length c3, .slice a3 l3.length e3, .agg #[.slice a0 l0.length e0, .slice a1 l1.length e1, .slice a2 l2.length e2, .slice a3 l3.length e3]], defers := [] } ((((W.setCell ⟨w.heap.size + 1, 0, none⟩ (.slice a0 l0.length e0)).setCell ⟨w.heap.size + 1, 1, none⟩ (.slice a1 l1.length e1)).setCell ⟨w.heap.size + 1, 2, none⟩ (.slice a2 l2.length e2)).setCell ⟨w.heap.size + 1, 3, none⟩ (.slice a3 l3.length e3)))
    (W : World) (hS : ownS w (.slice (some ⟨b0, 0, none⟩) l0.length c0) (.slice (some ⟨b1, 0, none⟩) l1.length c1) (.slice (some ⟨b2, 0, none⟩) l2.length c2) (.slice (some ⟨b3, 0, none⟩) l3.length c3) W) (z0 z1 z2 : Nat) (a0 : Option Addr) (e0 m1 : Nat) (t0 : RoomIn W (w.heap.size + 2) m1 a0 l0.length e0 l0) (g1 : m1 ≤ W.heap.size) (k1 : (w.heap.size + 2) ≤ m1) (a1 : Option Addr) (e1 m2 : Nat) (t1 : RoomIn W m1 m2 a1 l1.length e1 l1) (g2 : m2 ≤ W.heap.size) (k2 : m1 ≤ m2) :
    wpAnyH Try.prog .any ownOps Q (ownS w (.slice (some ⟨b0, 0, none⟩) l0.length c0) (.slice (some ⟨b1, 0, none⟩) l1.length c1) (.slice (some ⟨b2, 0, none⟩) l2.length c2) (.slice (some ⟨b3, 0, none⟩) l3.length c3)) 5 #[true, true, true, true, true, true, true, true, true, true, true, false, false, true, true, false, false, false] { tmps := #[.agg #[.slice (some ⟨b0, 0, none⟩) l0.length c0, .slice (some ⟨b1, 0, none⟩) l1.length c1, .slice (some ⟨b2, 0, none⟩) l2.length c2, .slice (some ⟨b3, 0, none⟩) l3.length c3], .pointer (some ⟨w.heap.size, 0, none⟩), .pointer (some ⟨w.heap.size + 1, 0, none⟩), .slice (some ⟨z0, 0, none⟩) 0 0, .pointer (some ⟨w.heap.size, 0, none⟩), .slice (some ⟨b0, 0, none⟩) l0.length c0, .slice a0 l0.length e0, .slice (some ⟨z1, 0, none⟩) 0 0, .pointer (some ⟨w.heap.size, 1, none⟩), .slice (some ⟨b1, 0, none⟩) l1.length c1, .slice a1 l1.length e1, .slice (some ⟨z2, 0, none⟩) 0 0, .pointer (some ⟨w.heap.size, 2, none⟩), .slice (some ⟨b2, 0, none⟩) l2.length c2, undef, undef, .pointer (some ⟨w.heap.size, 3, none⟩), .slice (some ⟨b3, 0, none⟩) l3.length c3, undef, undef], defers := [] } W := by
  refine wpAnyH_ready (rs := [11, 12]) (by kernel_rfl) (by simp) ?_
  refine AllReadyH.cons (o := ownOp11) rfl (fun K hK => ?_) ?_
  · refine step_fresh (by rfl) (Operand.tmp 11) (Operand.tmp 13) (by rfl) z2 b2 l2.length c2 l2 (by rfl) (by rfl) rfl (o2.below hS.1 o2.1) n2 ?_
    intro a2 e2 W' hr hb
    have hS' := ownS_keep hS hb
    refine hK.out _ _ hS' (fun _ => ?_)
    exact own_nd3_n n0 n1 n2 n3 o0 o1 o2 o3 hQ W' hS' z0 z1 z2 a0 e0 m1 (t0.below hb g1) (Nat.le_trans g1 hb.size) k1 a1 e1 m2 (t1.below hb g2) (Nat.le_trans g2 hb.size) k2 a2 e2 W'.heap.size (hr.mono g2 (Nat.le_refl _)) (Nat.le_refl _) (Nat.le_trans g2 hb.size)
  refine AllReadyH.cons (o := ownOp12) rfl (fun K hK => ?_) ?_
  · refine step_lit (by rfl) (by rfl) ?_
    intro z3 W' hb
    have hS' := ownS_keep hS hb
    refine hK.out _ _ hS' (fun _ => ?_)
    exact own_nd2_23 n0 n1 n2 n3 o0 o1 o2 o3 hQ W' hS' z0 z1 z2 z3 a0 e0 m1 (t0.below hb g1) (Nat.le_trans g1 hb.size) k1 a1 e1 m2 (t1.below hb g2) (Nat.le_trans g2 hb.size) k2
  exact AllReadyH.nil

set_option maxRecDepth 20000 in
set_option maxHeartbeats 4000000 in
theorem own_nd2_3 {b0 b1 b2 b3 c0 c1 c2 c3 : Nat} {l0 l1 l2 l3 : List (Int × Int)} {w : World} {Q : Exit → Act → World → Prop} (n0 : l0.length ≤ 1048576) (n1 : l1.length ≤ 1048576) (n2 : l2.length ≤ 1048576) (n3 : l3.length ≤ 1048576) (o0 : Own w b0 l0.length l0 l0.length) (o1 : Own w b1 l1.length l1 l1.length) (o2 : Own w b2 l2.length l2 l2.length) (o3 : Own w b3 l3.length l3 l3.length)
    (hQ : ∀ (W : World) (hS : ownS w (.slice (some ⟨b0, 0, none⟩) l0.length c0) (.slice (some ⟨b1, 0, none⟩) l1.length c1) (.slice (some ⟨b2, 0, none⟩) l2.length c2) (.slice (some ⟨b3, 0, none⟩) l3.length c3) W) (z0 z1 z2 z3 : Nat) (a0 : Option Addr) (e0 m1 : Nat) (t0 : RoomIn W (w.heap.size + 2) m1 a0 l0.length e0 l0) (g1 : m1 ≤ W.heap.size) (k1 : (w.heap.size + 2) ≤ m1) (a1 : Option Addr) (e1 m2 : Nat) (t1 : RoomIn W m1 m2 a1 l1.length e1 l1) (g2 : m2 ≤ W.heap.size) (k2 : m1 ≤ m2) (a2 : Option Addr) (e2 m3 : Nat) (t2 : RoomIn W m2 m3 a2 l2.length e2 l2) (g3 : m3 ≤ W.heap.size) (k3 : m2 ≤ m3) (a3 : Option Addr) (e3 m4 : Nat) (t3 : RoomIn W m3 m4 a3 l3.length e3 l3) (g4 : m4 ≤ W.heap.size) (k4 : m3 ≤ m4), Q .normal { tmps := #[.agg #[.slice (some ⟨b0, 0, none⟩) l0.length c0, .slice (some ⟨b1, 0, none⟩) l1.length c1, .slice (some ⟨b2, 0, none⟩) l2.length c2, .slice (some ⟨b3, 0, none⟩) l3.length c3], .pointer (some ⟨w.heap.size, 0, none⟩), .pointer (some ⟨w.heap.size + 1, 0, none⟩), .slice (some ⟨z0, 0, none⟩) 0 0, .pointer (some ⟨w.heap.size, 0, none⟩), .slice (some ⟨b0, 0, none⟩) l0.length c0, .slice a0 l0.length e0, .slice (some ⟨z1, 0, none⟩) 0 0, .pointer (some ⟨w.heap.size, 1, none⟩), .slice (some ⟨b1, 0, none⟩) l1.length c1, .slice a1 l1.length e1, .slice (some ⟨z2, 0, none⟩) 0 0, .pointer (some ⟨w.heap.size, 2, none⟩), .slice (some ⟨b2, 0, none⟩) l2.length c2, .slice a2 l2.length e2, .slice (some ⟨z3, 0, none⟩) 0 0, .pointer (some ⟨w.heap.size, 3, none⟩), .slice (some ⟨b3, 0, none⟩) l3.length c3, .slice a3 l3.length e3, .agg #[.slice a0 l0.length e0, .slice a1 l1.length e1, .slice a2 l2.length e2, .slice a3 l3.length e3]], defers := [] } ((((W.setCell ⟨w.heap.size + 1, 0, none⟩ (.slice a0 l0.length e0)).setCell ⟨w.heap.size + 1, 1, none⟩ (.slice a1 l1.length e1)).setCell ⟨w.heap.size + 1, 2, none⟩ (.slice a2 l2.length e2)).setCell ⟨w.heap.size + 1, 3, none⟩ (.slice a3 l3.length e3)))
    (W : World) (hS : ownS w (.slice (some ⟨b0, 0, none⟩) l0.length c0) (.slice (some ⟨b1, 0, none⟩) l1.length c1) (.slice (some ⟨b2, 0, none⟩) l2.length c2) (.slice (some ⟨b3, 0, none⟩) l3.length c3) W) (z0 z1 z3 : Nat) (a0 : Option Addr) (e0 m1 : Nat) (t0 : RoomIn W (w.heap.size + 2) m1 a0 l0.length e0 l0) (g1 : m1 ≤ W.heap.size) (k1 : (w.heap.size + 2) ≤ m1) (a1 : Option Addr) (e1 m2 : Nat) (t1 : RoomIn W m1 m2 a1 l1.length e1 l1) (g2 : m2 ≤ W.heap.size) (k2 : m1 ≤ m2) :
    wpAnyH Try.prog .any ownOps Q (ownS w (.slice (some ⟨b0, 0, none⟩) l0.length c0) (.slice (some ⟨b1, 0, none⟩) l1.length c1) (.slice (some ⟨b2, 0, none⟩) l2.length c2) (.slice (some ⟨b3, 0, none⟩) l3.length c3)) 5 #[true, true, true, true, true, true, true, true, false, true, true, false, true, true, true, false, false, false] { tmps := #[.agg #[.slice (some ⟨b0, 0, none⟩) l0.length c0, .slice (some ⟨b1, 0, none⟩) l1.length c1, .slice (some ⟨b2, 0, none⟩) l2.length c2, .slice (some ⟨b3, 0, none⟩) l3.length c3], .pointer (some ⟨w.heap.size, 0, none⟩), .pointer (some ⟨w.heap.size + 1, 0, none⟩), .slice (some ⟨z0, 0, none⟩) 0 0, .pointer (some ⟨w.heap.size, 0, none⟩), .slice (some ⟨b0, 0, none⟩) l0.length c0, .slice a0 l0.length e0, .slice (some ⟨z1, 0, none⟩) 0 0, .pointer (some ⟨w.heap.size, 1, none⟩), .slice (some ⟨b1, 0, none⟩) l1.length c1, .slice a1 l1.length e1, undef, .pointer (some ⟨w.heap.size, 2, none⟩), .slice (some ⟨b2, 0, none⟩) l2.length c2, undef, .slice (some ⟨z3, 0, none⟩) 0 0, .pointer (some ⟨w.heap.size, 3, none⟩), .slice (some ⟨b3, 0, none⟩) l3.length c3, undef, undef], defers := [] } W := by
  refine wpAnyH_ready (rs := [8]) (by kernel_rfl) (by simp) ?_
  refine AllReadyH.cons (o := ownOp8) rfl (fun K hK => ?_) ?_
  · refine step_lit (by rfl) (by rfl) ?_
    intro z2 W' hb
    have hS' := ownS_keep hS hb
    refine hK.out _ _ hS' (fun _ => ?_)
    exact own_nd2_23 n0 n1 n2 n3 o0 o1 o2 o3 hQ W' hS' z0 z1 z2 z3 a0 e0 m1 (t0.below hb g1) (Nat.le_trans g1 hb.size) k1 a1 e1 m2 (t1.below hb g2) (Nat.le_trans g2 hb.size) k2
  exact AllReadyH.nil

set_option maxRecDepth 20000 in
set_option maxHeartbeats 4000000 in
theorem own_nd2_n {b0 b1 b2 b3 c0 c1 c2 c3 : Nat} {l0 l1 l2 l3 : List (Int × Int)} {w : World} {Q : Exit → Act → World → Prop} (n0 : l0.length ≤ 1048576) (n1 : l1.length ≤ 1048576) (n2 : l2.length ≤ 1048576) (n3 : l3.length ≤ 1048576) (o0 : Own w b0 l0.length l0 l0.length) (o1 : Own w b1 l1.length l1 l1.length) (o2 : Own w b2 l2.length l2 l2.length) (o3 : Own w b3 l3.length l3 l3.length)
    (hQ : ∀ (W : World) (hS : ownS w (.slice (some ⟨b0, 0, none⟩) l0.length c0) (.slice (some ⟨b1, 0, none⟩) l1.length c1) (.slice (some ⟨b2, 0, none⟩) l2.length c2) (.slice (some ⟨b3, 0, none⟩) l3.length c3) W) (z0 z1 z2 z3 : Nat) (a0 : Option Addr) (e0 m1 : Nat) (t0 : RoomIn W (w.heap.size + 2) m1 a0 l0.length e0 l0) (g1 : m1 ≤ W.heap.size) (k1 : (w.heap.size + 2) ≤ m1) (a1 : Option Addr) (e1 m2 : Nat) (t1 : RoomIn W m1 m2 a1 l1.length e1 l1) (g2 : m2 ≤ W.heap.size) (k2 : m1 ≤ m2) (a2 : Option Addr) (e2 m3 : Nat) (t2 : RoomIn W m2 m3 a2 l2.length e2 l2) (g3 : m3 ≤ W.heap.size) (k3 : m2 ≤ m3) (a3 : Option Addr) (e3 m4 : Nat) (t3 : RoomIn W m3 m4 a3 l3.length e3 l3) (g4 : m4 ≤ W.heap.size) (k4 : m3 ≤ m4), Q .normal { tmps := #[.agg #[.slice (some ⟨b0, 0, none⟩) l0.length c0, .slice (some ⟨b1, 0, none⟩) l1.length c1, .slice (some ⟨b2, 0, none⟩) l2.length c2, .slice (some ⟨b3, 0, none⟩) l3.length c3], .pointer (some ⟨w.heap.size, 0, none⟩), .pointer (some ⟨w.heap.size + 1, 0, none⟩), .slice (some ⟨z0, 0, none⟩) 0 0, .pointer (some ⟨w.heap.size, 0, none⟩), .slice (some ⟨b0, 0, none⟩) l0.length c0, .slice a0 l0.length e0, .slice (some ⟨z1, 0, none⟩) 0 0, .pointer (some ⟨w.heap.size, 1, none⟩), .slice (some ⟨b1, 0, none⟩) l1.length c1, .slice a1 l1.length e1, .slice (some ⟨z2, 0, none⟩) 0 0, .pointer (some ⟨w.heap.size, 2, none⟩), .slice (some ⟨b2, 0, none⟩) l2.length c2, .slice a2 l2.length e2, .slice (some ⟨z3, 0, none⟩) 0 0, .pointer (some ⟨w.heap.size, 3, none⟩), .slice (some ⟨b3, 0, none⟩) l3.length c3, .slice a3 l3.length e3, .agg #[.slice a0 l0.length e0, .slice a1 l1.length e1, .slice a2 l2.length e2, .slice a3 l3.length e3]], defers := [] } ((((W.setCell ⟨w.heap.size + 1, 0, none⟩ (.slice a0 l0.length e0)).setCell ⟨w.heap.size + 1, 1, none⟩ (.slice a1 l1.length e1)).setCell ⟨w.heap.size + 1, 2, none⟩ (.slice a2 l2.length e2)).setCell ⟨w.heap.size + 1, 3, none⟩ (.slice a3 l3.length e3)))
    (W : World) (hS : ownS w (.slice (some ⟨b0, 0, none⟩) l0.length c0) (.slice (some ⟨b1, 0, none⟩) l1.length c1) (.slice (some ⟨b2, 0, none⟩) l2.length c2) (.slice (some ⟨b3, 0, none⟩) l3.length c3) W) (z0 z1 : Nat) (a0 : Option Addr) (e0 m1 : Nat) (t0 : RoomIn W (w.heap.size + 2) m1 a0 l0.length e0 l0) (g1 : m1 ≤ W.heap.size) (k1 : (w.heap.size + 2) ≤ m1) (a1 : Option Addr) (e1 m2 : Nat) (t1 : RoomIn W m1 m2 a1 l1.length e1 l1) (g2 : m2 ≤ W.heap.size) (k2 : m1 ≤ m2) :
    wpAnyH Try.prog .any ownOps Q (ownS w (.slice (some ⟨b0, 0, none⟩) l0.length c0) (.slice (some ⟨b1, 0, none⟩) l1.length c1) (.slice (some ⟨b2, 0, none⟩) l2.length c2) (.slice (some ⟨b3, 0, none⟩) l3.length c3)) 6 #[true, true, true, true, true, true, true, true, false, true, true, false, false, true, true, false, false, false] { tmps := #[.agg #[.slice (some ⟨b0, 0, none⟩) l0.length c0, .slice (some ⟨b1, 0, none⟩) l1.length c1, .slice (some ⟨b2, 0, none⟩) l2.length c2, .slice (some ⟨b3, 0, none⟩) l3.length c3], .pointer (some ⟨w.heap.size, 0, none⟩), .pointer (some ⟨w.heap.size + 1, 0, none⟩), .slice (some ⟨z0, 0, none⟩) 0 0, .pointer (some ⟨w.heap.size, 0, none⟩), .slice (some ⟨b0, 0, none⟩) l0.length c0, .slice a0 l0.length e0, .slice (some ⟨z1, 0, none⟩) 0 0, .pointer (some ⟨w.heap.size, 1, none⟩), .slice (some ⟨b1, 0, none⟩) l1.length c1, .slice a1 l1.length e1, undef, .pointer (some ⟨w.heap.size, 2, none⟩), .slice (some ⟨b2, 0, none⟩) l2.length c2, undef, undef, .pointer (some ⟨w.heap.size, 3, none⟩), .slice (some ⟨b3, 0, none⟩) l3.length c3, undef, undef], defers := [] } W := by
  refine wpAnyH_ready (rs := [8, 12]) (by kernel_rfl) (by simp) ?_
  refine AllReadyH.cons (o := ownOp8) rfl (fun K hK => ?_) ?_
  · refine step_lit (by rfl) (by rfl) ?_
    intro z2 W' hb
    have hS' := ownS_keep hS hb
    refine hK.out _ _ hS' (fun _ => ?_)
    exact own_nd2_2 n0 n1 n2 n3 o0 o1 o2 o3 hQ W' hS' z0 z1 z2 a0 e0 m1 (t0.below hb g1) (Nat.le_trans g1 hb.size) k1 a1 e1 m2 (t1.below hb g2) (Nat.le_trans g2 hb.size) k2
  refine AllReadyH.cons (o := ownOp12) rfl (fun K hK => ?_) ?_
  · refine step_lit (by rfl) (by rfl) ?_
    intro z3 W' hb
    have hS' := ownS_keep hS hb
    refine hK.out _ _ hS' (fun _ => ?_)
    exact own_nd2_3 n0 n1 n2 n3 o0 o1 o2 o3 hQ W' hS' z0 z1 z3 a0 e0 m1 (t0.below hb g1) (Nat.le_trans g1 hb.size) k1 a1 e1 m2 (t1.below hb g2) (Nat.le_trans g2 hb.size) k2
  exact AllReadyH.nil

set_option maxRecDepth 20000 in
set_option maxHeartbeats 4000000 in
theorem own_nd1_123 {b0 b1 b2 b3 c0 c1 c2 c3 : Nat} {l0 l1 l2 l3 : List (Int × Int)} {w : World} {Q : Exit → Act → World → Prop} (n0 : l0.length ≤ 1048576) (n1 : l1.length ≤ 1048576) (n2 : l2.length ≤ 1048576) (n3 : l3.length ≤ 1048576) (o0 : Own w b0 l0.length l0 l0.length) (o1 : Own w b1 l1.length l1 l1.length) (o2 : Own w b2 l2.length l2 l2.length) (o3 : Own w b3 l3.length l3 l3.length)
    (hQ : ∀ (W : World) (hS : ownS w (.slice (some ⟨b0, 0, none⟩) l0.length c0) (.slice (some ⟨b1, 0, none⟩) l1.length c1) (.slice (some ⟨b2, 0, none⟩) l2.length c2) (.slice (some ⟨b3, 0, none⟩) l3.length c3) W) (z0 z1 z2 z3 : Nat) (a0 : Option Addr) (e0 m1 : Nat) (t0 : RoomIn W (w.heap.size + 2) m1 a0 l0.length e0 l0) (g1 : m1 ≤ W.heap.size) (k1 : (w.heap.size + 2) ≤ m1) (a1 : Option Addr) (e1 m2 : Nat) (t1 : RoomIn W m1 m2 a1 l1.length e1 l1) (g2 : m2 ≤ W.heap.size) (k2 : m1 ≤ m2) (a2 : Option Addr) (e2 m3 : Nat) (t2 : RoomIn W m2 m3 a2 l2.length e2 l2) (g3 : m3 ≤ W.heap.size) (k3 : m2 ≤ m3) (a3 : Option Addr) (e3 m4 : Nat) (t3 : RoomIn W m3 m4 a3 l3.length e3 l3) (g4 : m4 ≤ W.heap.size) (k4 : m3 ≤ m4), Q .normal { tmps := #[.agg #[.slice (some ⟨b0, 0, none⟩) l0.length c0, .slice (some ⟨b1, 0, none⟩) l1.length c1, .slice (some ⟨b2, 0, none⟩) l2.length c2, .slice (some ⟨b3, 0, none⟩) l3.length c3], .pointer (some ⟨w.heap.size, 0, none⟩), .pointer (some ⟨w.heap.size + 1, 0, none⟩), .slice (some ⟨z0, 0, none⟩) 0 0, .pointer (some ⟨w.heap.size, 0, none⟩), .slice (some ⟨b0, 0, none⟩) l0.length c0, .slice a0 l0.length e0, .slice (some ⟨z1, 0, none⟩) 0 0, .pointer (some ⟨w.heap.size, 1, none⟩), .slice (some ⟨b1, 0, none⟩) l1.length c1, .slice a1 l1.length e1, .slice (some ⟨z2, 0, none⟩) 0 0, .pointer (some ⟨w.heap.size, 2, none⟩), .slice (some ⟨b2, 0, none⟩) l2.length c2, .slice a2 l2.length e2, .slice (some ⟨z3, 0, none⟩) 0 0, .pointer (some ⟨w.heap.size, 3, none⟩), .slice (some ⟨b3, 0, none⟩) l3.length c3, .slice a3 l3.length e3, .agg #[.slice a0 l0.length e0, .slice a1 l1.length e1, .slice a2 l2.length e2, .slice a3 l3.length e3]], defers := [] } ((((W.setCell ⟨w.heap.size + 1, 0, none⟩ (.slice a0 l0.length e0)).setCell ⟨w.heap.size + 1, 1, none⟩ (.slice a1 l1.length e1)).setCell ⟨w.heap.size + 1, 2, none⟩ (.slice a2 l2.length e2)).setCell ⟨w.heap.size + 1, 3, none⟩ (.slice a3 l3.length e3)))
    (W : World) (hS : ownS w (.slice (some ⟨b0, 0, none⟩) l0.length c0) (.slice (some ⟨b1, 0, none⟩) l1.length c1) (.slice (some ⟨b2, 0, none⟩) l2.length c2) (.slice (some ⟨b3, 0, none⟩) l3.length c3) W) (z0 z1 z2 z3 : Nat) (a0 : Option Addr) (e0 m1 : Nat) (t0 : RoomIn W (w.heap.size + 2) m1 a0 l0.length e0 l0) (g1 : m1 ≤ W.heap.size) (k1 : (w.heap.size + 2) ≤ m1) :
    wpAnyH Try.prog .any ownOps Q (ownS w (.slice (some ⟨b0, 0, none⟩) l0.length c0) (.slice (some ⟨b1, 0, none⟩) l1.length c1) (.slice (some ⟨b2, 0, none⟩) l2.length c2) (.slice (some ⟨b3, 0, none⟩) l3.length c3)) 5 #[true, true, true, true, true, true, true, false, true, true, true, false, true, true, true, false, false, false] { tmps := #[.agg #[.slice (some ⟨b0, 0, none⟩) l0.length c0, .slice (some ⟨b1, 0, none⟩) l1.length c1, .slice (some ⟨b2, 0, none⟩) l2.length c2, .slice (some ⟨b3, 0, none⟩) l3.length c3], .pointer (some ⟨w.heap.size, 0, none⟩), .pointer (some ⟨w.heap.size + 1, 0, none⟩), .slice (some ⟨z0, 0, none⟩) 0 0, .pointer (some ⟨w.heap.size, 0, none⟩), .slice (some ⟨b0, 0, none⟩) l0.length c0, .slice a0 l0.length e0, .slice (some ⟨z1, 0, none⟩) 0 0, .pointer (some ⟨w.heap.size, 1, none⟩), .slice (some ⟨b1, 0, none⟩) l1.length c1, undef, .slice (some ⟨z2, 0, none⟩) 0 0, .pointer (some ⟨w.heap.size, 2, none⟩), .slice (some ⟨b2, 0, none⟩) l2.length c2, undef, .slice (some ⟨z3, 0, none⟩) 0 0, .pointer (some ⟨w.heap.size, 3, none⟩), .slice (some ⟨b3, 0, none⟩) l3.length c3, undef, undef], defers := [] } W := by
  refine wpAnyH_ready (rs := [7]) (by kernel_rfl) (by simp) ?_
  refine AllReadyH.cons (o := ownOp7) rfl (fun K hK => ?_) ?_
  · refine step_fresh (by rfl) (Operand.tmp 7) (Operand.tmp 9) (by rfl) z1 b1 l1.length c1 l1 (by rfl) (by rfl) rfl (o1.below hS.1 o1.1) n1 ?_
    intro a1 e1 W' hr hb
    have hS' := ownS_keep hS hb
    refine hK.out _ _ hS' (fun _ => ?_)
    exact own_nd2_23 n0 n1 n2 n3 o0 o1 o2 o3 hQ W' hS' z0 z1 z2 z3 a0 e0 m1 (t0.below hb g1) (Nat.le_trans g1 hb.size) k1 a1 e1 W'.heap.size (hr.mono g1 (Nat.le_refl _)) (Nat.le_refl _) (Nat.le_trans g1 hb.size)
  exact AllReadyH.nil

set_option maxRecDepth 20000 in
set_option maxHeartbeats 4000000 in
theorem own_nd1_12 {b0 b1 b2 b3 c0 c1 c2 c3 : Nat} {l0 l1 l2 l3 : List (Int × Int)} {w : World} {Q : Exit → Act → World → Prop} (n0 : l0.length ≤ 1048576) (n1 : l1.length ≤ 1048576) (n2 : l2.length ≤ 1048576) (n3 : l3.length ≤ 1048576) (o0 : Own w b0 l0.length l0 l0.length) (o1 : Own w b1 l1.length l1 l1.length) (o2 : Own w b2 l2.length l2 l2.length) (o3 : Own w b3 l3.length l3 l3.length)
    (hQ : ∀ (W : World) (hS : ownS w (.slice (some ⟨b0, 0, none⟩) l0.length c0) (.slice (some ⟨b1, 0, none⟩) l1.length c1) (.slice (some ⟨b2, 0, none⟩) l2.length c2) (.slice (some ⟨b3, 0, none⟩) l3.length c3) W) (z0 z1 z2 z3 : Nat) (a0 : Option Addr) (e0 m1 : Nat) (t0 : RoomIn W (w.heap.size + 2) m1 a0 l0.length e0 l0) (g1 : m1 ≤ W.heap.size) (k1 : (w.heap.size + 2) ≤ m1) (a1 : Option Addr) (e1 m2 : Nat) (t1 : RoomIn W m1 m2 a1 l1.length e1 l1) (g2 : m2 ≤ W.heap.size) (k2 : m1 ≤ m2) (a2 : Option Addr) (e2 m3 : Nat) (t2 : RoomIn W m2 m3 a2 l2.length e2 l2) (g3 : m3 ≤ W.heap.size) (k3 : m2 ≤ m3) (a3 : Option Addr) (e3 m4 : Nat) (t3 : RoomIn W m3 m4 a3 l3.length e3 l3) (g4 : m4 ≤ W.heap.size) (k4 : m3 ≤ m4), Q .normal { tmps := #[.agg #[.slice (some ⟨b0, 0, none⟩) l0.length c0, .slice (some ⟨b1, 0, none⟩) l1.length c1, .slice (some ⟨b2, 0, none⟩) l2.length c2, .slice (some ⟨b3, 0, none⟩) l3.length c3], .pointer (some ⟨w.heap.size, 0, none⟩), .pointer (some ⟨w.heap.size + 1, 0, none⟩), .slice (some ⟨z0, 0, none⟩) 0 0, .pointer (some ⟨w.heap.size, 0, none⟩), .slice (some ⟨b0, 0, none⟩) l0.length c0, .slice a0 l0.length e0, .slice (some ⟨z1, 0, none⟩) 0 0, .pointer (some ⟨w.heap.size, 1, none⟩), .slice (some ⟨b1, 0, none⟩) l1.length c1, .slice a1 l1.length e1, .slice (some ⟨z2, 0, none⟩) 0 0, .pointer (some ⟨w.heap.size, 2, none⟩), .slice (some ⟨b2, 0, none⟩) l2.length c2, .slice a2 l2.length e2, .slice (some ⟨z3, 0, none⟩) 0 0, .pointer (some ⟨w.heap.size, 3, none⟩), .slice (some ⟨b3, 0, none⟩) l3.length c3, .slice a3 l3.length e3, .agg #[.slice a0 l0.length e0, .slice a1 l1.length e1, .slice a2 l2.length e2, .slice a3 l3.length e3]], defers := [] } ((((W.setCell ⟨w.heap.size + 1, 0, none⟩ (.slice a0 l0.length e0)).setCell ⟨w.heap.size + 1, 1, none⟩ (.slice a1 l1.length e1)).setCell ⟨w.heap.size + 1, 2, none⟩ (.slice a2 l2.length e2)).setCell ⟨w.heap.size + 1, 3, none⟩ (.slice a3 l3.length e3)))
    (W : World) (hS : ownS w (.slice (some ⟨b0, 0, none⟩) l0.length c0) (.slice (some ⟨b1, 0, none⟩) l1.length c1) (.slice (some ⟨b2, 0, none⟩) l2.length c2) (.slice (some ⟨b3, 0, none⟩) l3.length c3) W) (z0 z1 z2 : Nat) (a0 : Option Addr) (e0 m1 : Nat) (t0 : RoomIn W (w.heap.size + 2) m1 a0 l0.length e0 l0) (g1 : m1 ≤ W.heap.size) (k1 : (w.heap.size + 2) ≤ m1) :
    wpAnyH Try.prog .any ownOps Q (ownS w (.slice (some ⟨b0, 0, none⟩) l0.length c0) (.slice (some ⟨b1, 0, none⟩) l1.length c1) (.slice (some ⟨b2, 0, none⟩) l2.length c2) (.slice (some ⟨b3, 0, none⟩) l3.length c3)) 6 #[true, true, true, true, true, true, true, false, true, true, true, false, false, true, true, false, false, false] { tmps := #[.agg #[.slice (some ⟨b0, 0, none⟩) l0.length c0, .slice (some ⟨b1, 0, none⟩) l1.length c1, .slice (some ⟨b2, 0, none⟩) l2.length c2, .slice (some ⟨b3, 0, none⟩) l3.length c3], .pointer (some ⟨w.heap.size, 0, none⟩), .pointer (some ⟨w.heap.size + 1, 0, none⟩), .slice (some ⟨z0, 0, none⟩) 0 0, .pointer (some ⟨w.heap.size, 0, none⟩), .slice (some ⟨b0, 0, none⟩) l0.length c0, .slice a0 l0.length e0, .slice (some ⟨z1, 0, none⟩) 0 0, .pointer (some ⟨w.heap.size, 1, none⟩), .slice (some ⟨b1, 0, none⟩) l1.length c1, undef, .slice (some ⟨z2, 0, none⟩) 0 0, .pointer (some ⟨w.heap.size, 2, none⟩), .slice (some ⟨b2, 0, none⟩) l2.length c2, undef, undef, .pointer (some ⟨w.heap.size, 3, none⟩), .slice (some ⟨b3, 0, none⟩) l3.length c3, undef, undef], defers := [] } W := by
  refine wpAnyH_ready (rs := [7, 12]) (by kernel_rfl) (by simp) ?_
  refine AllReadyH.cons (o := ownOp7) rfl (fun K hK => ?_) ?_
  · refine step_fresh (by rfl) (Operand.tmp 7) (Operand.tmp 9) (by rfl) z1 b1 l1.length c1 l1 (by rfl) (by rfl) rfl (o1.below hS.1 o1.1) n1 ?_
    intro a1 e1 W' hr hb
    have hS' := ownS_keep hS hb
    refine hK.out _ _ hS' (fun _ => ?_)
    exact own_nd2_2 n0 n1 n2 n3 o0 o1 o2 o3 hQ W' hS' z0 z1 z2 a0 e0 m1 (t0.below hb g1) (Nat.le_trans g1 hb.size) k1 a1 e1 W'.heap.size (hr.mono g1 (Nat.le_refl _)) (Nat.le_refl _) (Nat.le_trans g1 hb.size)
  refine AllReadyH.cons (o := ownOp12) rfl (fun K hK => ?_) ?_
  · refine step_lit (by rfl) (by rfl) ?_
    intro z3 W' hb
    have hS' := ownS_keep hS hb
    refine hK.out _ _ hS' (fun _ => ?_)
    exact own_nd1_123 n0 n1 n2 n3 o0 o1 o2 o3 hQ W' hS' z0 z1 z2 z3 a0 e0 m1 (t0.below hb g1) (Nat.le_trans g1 hb.size) k1
  exact AllReadyH.nil

set_option maxRecDepth 20000 in
set_option maxHeartbeats 4000000 in
theorem own_nd1_13 {b0 b1 b2 b3 c0 c1 c2 c3 : Nat} {l0 l1 l2 l3 : List (Int × Int)} {w : World} {Q : Exit → Act → World → Prop} (n0 : l0.length ≤ 1048576) (n1 : l1.length ≤ 1048576) (n2 : l2.length ≤ 1048576) (n3 : l3.length ≤ 1048576) (o0 : Own w b0 l0.length l0 l0.length) (o1 : Own w b1 l1.length l1 l1.length) (o2 : Own w b2 l2.length l2 l2.length) (o3 : Own w b3 l3.length l3 l3.length)
    (hQ : ∀ (W : World) (hS : ownS w (.slice (some ⟨b0, 0, none⟩) l0.length c0) (.slice (some ⟨b1, 0, none⟩) l1.length c1) (.slice (some ⟨b2, 0, none⟩) l2.length c2) (.slice (some ⟨b3, 0, none⟩) l3.length c3) W) (z0 z1 z2 z3 : Nat) (a0 : Option Addr) (e0 m1 : Nat) (t0 : RoomIn W (w.heap.size + 2) m1 a0 l0.length e0 l0) (g1 : m1 ≤ W.heap.size) (k1 : (w.heap.size + 2) ≤ m1) (a1 : Option Addr) (e1 m2 : Nat) (t1 : RoomIn W m1 m2 a1 l1.length e1 l1) (g2 : m2 ≤ W.heap.size) (k2 : m1 ≤ m2) (a2 : Option Addr) (e2 m3 : Nat) (t2 : RoomIn W m2 m3 a2 l2.length e2 l2) (g3 : m3 ≤ W.heap.size) (k3 : m2 ≤ m3) (a3 : Option Addr) (e3 m4 : Nat) (t3 : RoomIn W m3 m4 a3 l3.length e3 l3) (g4 : m4 ≤ W.heap.size) (k4 : m3 ≤ m4), Q .normal { tmps := #[.agg #[.slice (some ⟨b0, 0, none⟩) l0.length c0, .slice (some ⟨b1, 0, none⟩) l1.length c1, .slice (some ⟨b2, 0, none⟩) l2.length c2, .slice (some ⟨b3, 0, none⟩) l3.length c3], .pointer (some ⟨w.heap.size, 0, none⟩), .pointer (some ⟨w.heap.size + 1, 0, none⟩), .slice (some ⟨z0, 0, none⟩) 0 0, .pointer (some ⟨w.heap.size, 0, none⟩), .slice (some ⟨b0, 0, none⟩) l0.length c0, .slice a0 l0.length e0, .slice (some ⟨z1, 0, none⟩) 0 0, .pointer (some ⟨w.heap.size, 1, none⟩), .slice (some ⟨b1, 0, none⟩) l1.length c1, .slice a1 l1.length e1, .slice (some ⟨z2, 0, none⟩) 0 0, .pointer (some ⟨w.heap.size, 2, none⟩), .slice (some ⟨b2, 0, none⟩) l2.length c2, .slice a2 l2.length e2, .slice (some ⟨z3, 0, none⟩) 0 0, .pointer (some ⟨w.heap.size, 3, none⟩), .slice (some ⟨b3, 0, none⟩) l3.length c3, .slice a3 l3.length e3, .agg #[.slice a0 l0.length e0, .slice a1 l1.length e1, .slice a2 l2.length e2, .slice a3 l3.length e3]], defers := [] } ((((W.setCell ⟨w.heap.size + 1, 0, none⟩ (.slice a0 l0.length e0)).setCell ⟨w.heap.size + 1, 1, none⟩ (.slice a1 l1.length e1)).setCell ⟨w.heap.size + 1, 2, none⟩ (.slice a2 l2.length e2)).setCell ⟨w.heap.size + 1, 3, none⟩ (.slice a3 l3.length e3)))
    (W : World) (hS : ownS w (.slice (some ⟨b0, 0, none⟩) l0.length c0) (.slice (some ⟨b1, 0, none⟩) l1.length c1) (.slice (some ⟨b2, 0, none⟩) l2.length c2) (.slice (some ⟨b3, 0, none⟩) l3.length c3) W) (z0 z1 z3 : Nat) (a0 : Option Addr) (e0 m1 : Nat) (t0 : RoomIn W (w.heap.size + 2) m1 a0 l0.length e0 l0) (g1 : m1 ≤ W.heap.size) (k1 : (w.heap.size + 2) ≤ m1) :
    wpAnyH Try.prog .any ownOps Q (ownS w (.slice (some ⟨b0, 0, none⟩) l0.length c0) (.slice (some ⟨b1, 0, none⟩) l1.length c1) (.slice (some ⟨b2, 0, none⟩) l2.length c2) (.slice (some ⟨b3, 0, none⟩) l3.length c3)) 6 #[true, true, true, true, true, true, true, false, false, true, true, false, true, true, true, false, false, false] { tmps := #[.agg #[.slice (some ⟨b0, 0, none⟩) l0.length c0, .slice (some ⟨b1, 0, none⟩) l1.length c1, .slice (some ⟨b2, 0, none⟩) l2.length c2, .slice (some ⟨b3, 0, none⟩) l3.length c3], .pointer (some ⟨w.heap.size, 0, none⟩), .pointer (some ⟨w.heap.size + 1, 0, none⟩), .slice (some ⟨z0, 0, none⟩) 0 0, .pointer (some ⟨w.heap.size, 0, none⟩), .slice (some ⟨b0, 0, none⟩) l0.length c0, .slice a0 l0.length e0, .slice (some ⟨z1, 0, none⟩) 0 0, .pointer (some ⟨w.heap.size, 1, none⟩), .slice (some ⟨b1, 0, none⟩) l1.length c1, undef, undef, .pointer (some ⟨w.heap.size, 2, none⟩), .slice (some ⟨b2, 0, none⟩) l2.length c2, undef, .slice (some ⟨z3, 0, none⟩) 0 0, .pointer (some ⟨w.heap.size, 3, none⟩), .slice (some ⟨b3, 0, none⟩) l3.length c3, undef, undef], defers := [] } W := by
  refine wpAnyH_ready (rs := [7, 8]) (by kernel_rfl) (by simp) ?_
  refine AllReadyH.cons (o := ownOp7) rfl (fun K hK => ?_) ?_
  · refine step_fresh (by rfl) (Operand.tmp 7) (Operand.tmp 9) (by rfl) z1 b1 l1.length c1 l1 (by rfl) (by rfl) rfl (o1.below hS.1 o1.1) n1 ?_
    intro a1 e1 W' hr hb
    have hS' := ownS_keep hS hb
    refine hK.out _ _ hS' (fun _ => ?_)
    exact own_nd2_3 n0 n1 n2 n3 o0 o1 o2 o3 hQ W' hS' z0 z1 z3 a0 e0 m1 (t0.below hb g1) (Nat.le_trans g1 hb.size) k1 a1 e1 W'.heap.size (hr.mono g1 (Nat.le_refl _)) (Nat.le_refl _) (Nat.le_trans g1 hb.size)
  refine AllReadyH.cons (o := ownOp8) rfl (fun K hK => ?_) ?_
  · refine step_lit (by rfl) (by rfl) ?_
    intro z2 W' hb
    have hS' := ownS_keep hS hb
    refine hK.out _ _ hS' (fun _ => ?_)
    exact own_nd1_123 n0 n1 n2 n3 o0 o1 o2 o3 hQ W' hS' z0 z1 z2 z3 a0 e0 m1 (t0.below hb g1) (Nat.le_trans g1 hb.size) k1
  exact AllReadyH.nil

set_option maxRecDepth 20000 in
set_option maxHeartbeats 4000000 in
theorem own_nd1_23 {b0 b1 b2 b3 c0 c1 c2 c3 : Nat} {l0 l1 l2 l3 : List (Int × Int)} {w : World} {Q : Exit → Act → World → Prop} (n0 : l0.length ≤ 1048576) (n1 : l1.length ≤ 1048576) (n2 : l2.length ≤ 1048576) (n3 : l3.length ≤ 1048576) (o0 : Own w b0 l0.length l0 l0.length) (o1 : Own w b1 l1.length l1 l1.length) (o2 : Own w b2 l2.length l2 l2.length) (o3 : Own w b3 l3.length l3 l3.length)
    (hQ : ∀ (W : World) (hS : ownS w (.slice (some ⟨b0, 0, none⟩) l0.length c0) (.slice (some ⟨b1, 0, none⟩) l1.length c1) (.slice (some ⟨b2, 0, none⟩) l2.length c2) (.slice (some ⟨b3, 0, none⟩) l3.length c3) W) (z0 z1 z2 z3 : Nat) (a0 : Option Addr) (e0 m1 : Nat) (t0 : RoomIn W (w.heap.size + 2) m1 a0 l0.length e0 l0) (g1 : m1 ≤ W.heap.size) (k1 : (w.heap.size + 2) ≤ m1) (a1 : Option Addr) (e1 m2 : Nat) (t1 : RoomIn W m1 m2 a1 l1.length e1 l1) (g2 : m2 ≤ W.heap.size) (k2 : m1 ≤ m2) (a2 : Option Addr) (e2 m3 : Nat) (t2 : RoomIn W m2 m3 a2 l2.length e2 l2) (g3 : m3 ≤ W.heap.size) (k3 : m2 ≤ m3) (a3 : Option Addr) (e3 m4 : Nat) (t3 : RoomIn W m3 m4 a3 l3.length e3 l3) (g4 : m4 ≤ W.heap.size) (k4 : m3 ≤ m4), Q .normal { tmps := #[.agg #[.slice (some ⟨b0, 0, none⟩) l0.length c0, .slice (some ⟨b1, 0, none⟩) l1.length c1, .slice (some ⟨b2, 0, none⟩) l2.length c2, .slice (some ⟨b3, 0, none⟩) l3.length c3], .pointer (some ⟨w.heap.size, 0, none⟩), .pointer (some ⟨w.heap.size + 1, 0, none⟩), .slice (some ⟨z0, 0, none⟩) 0 0, .pointer (some ⟨w.heap.size, 0, none⟩), .slice (some ⟨b0, 0, none⟩) l0.length c0, .slice a0 l0.length e0, .slice (some ⟨z1, 0, none⟩) 0 0, .pointer (some ⟨w.heap.size, 1, none⟩), .slice (some ⟨b1, 0, none⟩) l1.length c1, .slice a1 l1.length e1, .slice (some ⟨z2, 0, none⟩) 0 0, .pointer (some ⟨w.heap.size, 2, none⟩), .slice (some ⟨b2, 0, none⟩) l2.length c2, .slice a2 l2.length e2, .slice (some ⟨z3, 0, none⟩) 0 0, .pointer (some ⟨w.heap.size, 3, none⟩), .slice (some ⟨b3, 0, none⟩) l3.length c3, .slice a3 l3.length e3, .agg #[.slice a0 l0.length e0, .slice a1 l1.length e1, .slice a2 l2.length e2, .slice a3 l3.length e3]], defers := [] } ((((W.setCell ⟨w.heap.size + 1, 0, none⟩ (.slice a0 l0.length e0)).setCell ⟨w.heap.size + 1, 1, none⟩ (.slice a1 l1.length e1)).setCell ⟨w.heap.size + 1, 2, none⟩ (.slice a2 l2.length e2)).setCell ⟨w.heap.size + 1, 3, none⟩ (.slice a3 l3.length e3)))
    (W : World) (hS : ownS w (.slice (some ⟨b0, 0, none⟩) l0.length c0) (.slice (some ⟨b1, 0, none⟩) l1.length c1) (.slice (some ⟨b2, 0, none⟩) l2.length c2) (.slice (some ⟨b3, 0, none⟩) l3.length c3) W) (z0 z2 z3 : Nat) (a0 : Option Addr) (e0 m1 : Nat) (t0 : RoomIn W (w.heap.size + 2) m1 a0 l0.length e0 l0) (g1 : m1 ≤ W.heap.size) (k1 : (w.heap.size + 2) ≤ m1) :
    wpAnyH Try.prog .any ownOps Q (ownS w (.slice (some ⟨b0, 0, none⟩) l0.length c0) (.slice (some ⟨b1, 0, none⟩) l1.length c1) (.slice (some ⟨b2, 0, none⟩) l2.length c2) (.slice (some ⟨b3, 0, none⟩) l3.length c3)) 6 #[true, true, true, true, false, true, true, false, true, true, true, false, true, true, true, false, false, false] { tmps := #[.agg #[.slice (some ⟨b0, 0, none⟩) l0.length c0, .slice (some ⟨b1, 0, none⟩) l1.length c1, .slice (some ⟨b2, 0, none⟩) l2.length c2, .slice (some ⟨b3, 0, none⟩) l3.length c3], .pointer (some ⟨w.heap.size, 0, none⟩), .pointer (some ⟨w.heap.size + 1, 0, none⟩), .slice (some ⟨z0, 0, none⟩) 0 0, .pointer (some ⟨w.heap.size, 0, none⟩), .slice (some ⟨b0, 0, none⟩) l0.length c0, .slice a0 l0.length e0, undef, .pointer (some ⟨w.heap.size, 1, none⟩), .slice (some ⟨b1, 0, none⟩) l1.length c1, undef, .slice (some ⟨z2, 0, none⟩) 0 0, .pointer (some ⟨w.heap.size, 2, none⟩), .slice (some ⟨b2, 0, none⟩) l2.length c2, undef, .slice (some ⟨z3, 0, none⟩) 0 0, .pointer (some ⟨w.heap.size, 3, none⟩), .slice (some ⟨b3, 0, none⟩) l3.length c3, undef, undef], defers := [] } W := by
  refine wpAnyH_ready (rs := [4]) (by kernel_rfl) (by simp) ?_
  refine AllReadyH.cons (o := ownOp4) rfl (fun K hK => ?_) ?_
  · refine step_lit (by rfl) (by rfl) ?_
    intro z1 W' hb
    have hS' := ownS_keep hS hb
    refine hK.out _ _ hS' (fun _ => ?_)
    exact own_nd1_123 n0 n1 n2 n3 o0 o1 o2 o3 hQ W' hS' z0 z1 z2 z3 a0 e0 m1 (t0.below hb g1) (Nat.le_trans g1 hb.size) k1
  exact AllReadyH.nil

set_option maxRecDepth 20000 in
set_option maxHeartbeats 4000000 in
theorem own_nd1_1 {b0 b1 b2 b3 c0 c1 c2 c3 : Nat} {l0 l1 l2 l3 : List (Int × Int)} {w : World} {Q : Exit → Act → World → Prop} (n0 : l0.length ≤ 1048576) (n1 : l1.length ≤ 1048576) (n2 : l2.length ≤ 1048576) (n3 : l3.length ≤ 1048576) (o0 : Own w b0 l0.length l0 l0.length) (o1 : Own w b1 l1.length l1 l1.length) (o2 : Own w b2 l2.length l2 l2.length) (o3 : Own w b3 l3.length l3 l3.length)
    (hQ : ∀ (W : World) (hS : ownS w (.slice (some ⟨b0, 0, none⟩) l0.length c0) (.slice (some ⟨b1, 0, none⟩) l1.length c1) (.slice (some ⟨b2, 0, none⟩) l2.length c2) (.slice (some ⟨b3, 0, none⟩) l3.length c3) W) (z0 z1 z2 z3 : Nat) (a0 : Option Addr) (e0 m1 : Nat) (t0 : RoomIn W (w.heap.size + 2) m1 a0 l0.length e0 l0) (g1 : m1 ≤ W.heap.size) (k1 : (w.heap.size + 2) ≤ m1) (a1 : Option Addr) (e1 m2 : Nat) (t1 : RoomIn W m1 m2 a1 l1.length e1 l1) (g2 : m2 ≤ W.heap.size) (k2 : m1 ≤ m2) (a2 : Option Addr) (e2 m3 : Nat) (t2 : RoomIn W m2 m3 a2 l2.length e2 l2) (g3 : m3 ≤ W.heap.size) (k3 : m2 ≤ m3) (a3 : Option Addr) (e3 m4 : Nat) (t3 : RoomIn W m3 m4 a3 l3.length e3 l3) (g4 : m4 ≤ W.heap.size) (k4 : m3 ≤ m4), Q .normal { tmps := #[.agg #[.slice (some ⟨b0, 0, none⟩) l0.length c0, .slice (some ⟨b1, 0, none⟩) l1.length c1, .slice (some ⟨b2, 0, none⟩) l2.length c2, .slice (some ⟨b3, 0, none⟩) l3.length c3], .pointer (some ⟨w.heap.size, 0, none⟩), .pointer (some ⟨w.heap.size + 1, 0, none⟩), .slice (some ⟨z0, 0, none⟩) 0 0, .pointer (some ⟨w.heap.size, 0, none⟩), .slice (some ⟨b0, 0, none⟩) l0.length c0, .slice a0 l0.length e0, .slice (some ⟨z1, 0, none⟩) 0 0, .pointer (some ⟨w.heap.size, 1, none⟩), .slice (some ⟨b1, 0, none⟩) l1.length c1, .slice a1 l1.length e1, .slice (some ⟨z2, 0, none⟩) 0 0, .pointer (some ⟨w.heap.size, 2, none⟩), .slice (some ⟨b2, 0, none⟩) l2.length c2, .slice a2 l2.length e2, .slice (some ⟨z3, 0, none⟩) 0 0, .pointer (some ⟨w.heap.size, 3, none⟩), .slice (some ⟨b3, 0, none⟩) l3.length c3, .slice a3 l3.length e3, .agg #[.slice a0 l0.length e0, .slice a1 l1.length e1, .slice a2 l2.length e2, .slice a3 l3.length e3]], defers := [] } ((((W.setCell ⟨w.heap.size + 1, 0, none⟩ (.slice a0 l0.length e0)).setCell ⟨w.heap.size + 1, 1, none⟩ (.slice a1 l1.length e1)).setCell ⟨w.heap.size + 1, 2, none⟩ (.slice a2 l2.length e2)).setCell ⟨w.heap.size + 1, 3, none⟩ (.slice a3 l3.length e3)))
    (W : World) (hS : ownS w (.slice (some ⟨b0, 0, none⟩) l0.length c0) (.slice (some ⟨b1, 0, none⟩) l1.length c1) (.slice (some ⟨b2, 0, none⟩) l2.length c2) (.slice (some ⟨b3, 0, none⟩) l3.length c3) W) (z0 z1 : Nat) (a0 : Option Addr) (e0 m1 : Nat) (t0 : RoomIn W (w.heap.size + 2) m1 a0 l0.length e0 l0) (g1 : m1 ≤ W.heap.size) (k1 : (w.heap.size + 2) ≤ m1) :
    wpAnyH Try.prog .any ownOps Q (ownS w (.slice (some ⟨b0, 0, none⟩) l0.length c0) (.slice (some ⟨b1, 0, none⟩) l1.length c1) (.slice (some ⟨b2, 0, none⟩) l2.length c2) (.slice (some ⟨b3, 0, none⟩) l3.length c3)) 7 #[true, true, true, true, true, true, true, false, false, true, true, false, false, true, true, false, false, false] { tmps := #[.agg #[.slice (some ⟨b0, 0, none⟩) l0.length c0, .slice (some ⟨b1, 0, none⟩) l1.length c1, .slice (some ⟨b2, 0, none⟩) l2.length c2, .slice (some ⟨b3, 0, none⟩) l3.length c3], .pointer (some ⟨w.heap.size, 0, none⟩), .pointer (some ⟨w.heap.size + 1, 0, none⟩), .slice (some ⟨z0, 0, none⟩) 0 0, .pointer (some ⟨w.heap.size, 0, none⟩), .slice (some ⟨b0, 0, none⟩) l0.length c0, .slice a0 l0.length e0, .slice (some ⟨z1, 0, none⟩) 0 0, .pointer (some ⟨w.heap.size, 1, none⟩), .slice (some ⟨b1, 0, none⟩) l1.length c1, undef, undef, .pointer (some ⟨w.heap.size, 2, none⟩), .slice (some ⟨b2, 0, none⟩) l2.length c2, undef, undef, .pointer (some ⟨w.heap.size, 3, none⟩), .slice (some ⟨b3, 0, none⟩) l3.length c3, undef, undef], defers := [] } W := by
  refine wpAnyH_ready (rs := [7, 8, 12]) (by kernel_rfl) (by simp) ?_
  refine AllReadyH.cons (o := ownOp7) rfl (fun K hK => ?_) ?_
  · refine step_fresh (by rfl) (Operand.tmp 7) (Operand.tmp 9) (by rfl) z1 b1 l1.length c1 l1 (by rfl) (by rfl) rfl (o1.below hS.1 o1.1) n1 ?_
    intro a1 e1 W' hr hb
    have hS' := ownS_keep hS hb
    refine hK.out _ _ hS' (fun _ => ?_)
    exact own_nd2_n n0 n1 n2 n3 o0 o1 o2 o3 hQ W' hS' z0 z1 a0 e0 m1 (t0.below hb g1) (Nat.le_trans g1 hb.size) k1 a1 e1 W'.heap.size (hr.mono g1 (Nat.le_refl _)) (Nat.le_refl _) (Nat.le_trans g1 hb.size)
  refine AllReadyH.cons (o := ownOp8) rfl (fun K hK => ?_) ?_
  · refine step_lit (by rfl) (by rfl) ?_
    intro z2 W' hb
    have hS' := ownS_keep hS hb
    refine hK.out _ _ hS' (fun _ => ?_)
    exact own_nd1_12 n0 n1 n2 n3 o0 o1 o2 o3 hQ W' hS' z0 z1 z2 a0 e0 m1 (t0.below hb g1) (Nat.le_trans g1 hb.size) k1
  refine AllReadyH.cons (o := ownOp12) rfl (fun K hK => ?_) ?_
  · refine step_lit (by rfl) (by rfl) ?_
    intro z3 W' hb
    have hS' := ownS_keep hS hb
    refine hK.out _ _ hS' (fun _ => ?_)
    exact own_nd1_13 n0 n1 n2 n3 o0 o1 o2 o3 hQ W' hS' z0 z1 z3 a0 e0 m1 (t0.below hb g1) (Nat.le_trans g1 hb.size) k1
  exact AllReadyH.nil

set_option maxRecDepth 20000 in
set_option maxHeartbeats 4000000 in
theorem own_nd1_2 {b0 b1 b2 b3 c0 c1 c2 c3 : Nat} {l0 l1 l2 l3 : List (Int × Int)} {w : World} {Q : Exit → Act → World → Prop} (n0 : l0.length ≤ 1048576) (n1 : l1.length ≤ 1048576) (n2 : l2.length ≤ 1048576) (n3 : l3.length ≤ 1048576) (o0 : Own w b0 l0.length l0 l0.length) (o1 : Own w b1 l1.length l1 l1.length) (o2 : Own w b2 l2.length l2 l2.length) (o3 : Own w b3 l3.length l3 l3.length)
    (hQ : ∀ (W : World) (hS : ownS w (.slice (some ⟨b0, 0, none⟩) l0.length c0) (.slice (some ⟨b1, 0, none⟩) l1.length c1) (.slice (some ⟨b2, 0, none⟩) l2.length c2) (.slice (some ⟨b3, 0, none⟩) l3.length c3) W) (z0 z1 z2 z3 : Nat) (a0 : Option Addr) (e0 m1 : Nat) (t0 : RoomIn W (w.heap.size + 2) m1 a0 l0.length e0 l0) (g1 : m1 ≤ W.heap.size) (k1 : (w.heap.size + 2) ≤ m1) (a1 : Option Addr) (e1 m2 : Nat) (t1 : RoomIn W m1 m2 a1 l1.length e1 l1) (g2 : m2 ≤ W.heap.size) (k2 : m1 ≤ m2) (a2 : Option Addr) (e2 m3 : Nat) (t2 : RoomIn W m2 m3 a2 l2.length e2 l2) (g3 : m3 ≤ W.heap.size) (k3 : m2 ≤ m3) (a3 : Option Addr) (e3 m4 : Nat) (t3 : RoomIn W m3 m4 a3 l3.length e3 l3) (g4 : m4 ≤ W.heap.size) (k4 : m3 ≤ m4), Q .normal { tmps := #[.agg #[.slice (some ⟨b0, 0, none⟩) l0.length c0, .slice (some ⟨b1, 0, none⟩) l1.length c1, .slice (some ⟨b2, 0, none⟩) l2.length c2, .slice (some ⟨b3, 0, none⟩) l3.length c3], .pointer (some ⟨w.heap.size, 0, none⟩), .pointer (some ⟨w.heap.size + 1, 0, none⟩), .slice (some ⟨z0, 0, none⟩) 0 0, .pointer (some ⟨w.heap.size, 0, none⟩), .slice (some ⟨b0, 0, none⟩) l0.length c0, .slice a0 l0.length e0, .slice (some ⟨z1, 0, none⟩) 0 0, .pointer (some ⟨w.heap.size, 1, none⟩), .slice (some ⟨b1, 0, none⟩) l1.length c1, .slice a1 l1.length e1, .slice (some ⟨z2, 0, none⟩) 0 0, .pointer (some ⟨w.heap.size, 2, none⟩), .slice (some ⟨b2, 0, none⟩) l2.length c2, .slice a2 l2.length e2, .slice (some ⟨z3, 0, none⟩) 0 0, .pointer (some ⟨w.heap.size, 3, none⟩), .slice (some ⟨b3, 0, none⟩) l3.length c3, .slice a3 l3.length e3, .agg #[.slice a0 l0.length e0, .slice a1 l1.length e1, .slice a2 l2.length e2, .slice a3 l3.length e3]], defers := [] } ((((W.setCell ⟨w.heap.size + 1, 0, none⟩ (.slice a0 l0.length e0)).setCell ⟨w.heap.size + 1, 1, none⟩ (.slice a1 l1.length e1)).setCell ⟨w.heap.size + 1, 2, none⟩ (.slice a2 l2.length e2)).setCell ⟨w.heap.size + 1, 3, none⟩ (.slice a3 l3.length e3)))
    (W : World) (hS : ownS w (.slice (some ⟨b0, 0, none⟩) l0.length c0) (.slice (some ⟨b1, 0, none⟩) l1.length c1) (.slice (some ⟨b2, 0, none⟩) l2.length c2) (.slice (some ⟨b3, 0, none⟩) l3.length c3) W) (z0 z2 : Nat) (a0 : Option Addr) (e0 m1 : Nat) (t0 : RoomIn W (w.heap.size + 2) m1 a0 l0.length e0 l0) (g1 : m1 ≤ W.heap.size) (k1 : (w.heap.size + 2) ≤ m1) :
    wpAnyH Try.prog .any ownOps Q (ownS w (.slice (some ⟨b0, 0, none⟩) l0.length c0) (.slice (some ⟨b1, 0, none⟩) l1.length c1) (.slice (some ⟨b2, 0, none⟩) l2.length c2) (.slice (some ⟨b3, 0, none⟩) l3.length c3)) 7 #[true, true, true, true, false, true, true, false, true, true, true, false, false, true, true, false, false, false] { tmps := #[.agg #[.slice (some ⟨b0, 0, none⟩) l0.length c0, .slice (some ⟨b1, 0, none⟩) l1.length c1, .slice (some ⟨b2, 0, none⟩) l2.length c2, .slice (some ⟨b3, 0, none⟩) l3.length c3], .pointer (some ⟨w.heap.size, 0, none⟩), .pointer (some ⟨w.heap.size + 1, 0, none⟩), .slice (some ⟨z0, 0, none⟩) 0 0, .pointer (some ⟨w.heap.size, 0, none⟩), .slice (some ⟨b0, 0, none⟩) l0.length c0, .slice a0 l0.length e0, undef, .pointer (some ⟨w.heap.size, 1, none⟩), .slice (some ⟨b1, 0, none⟩) l1.length c1, undef, .slice (some ⟨z2, 0, none⟩) 0 0, .pointer (some ⟨w.heap.size, 2, none⟩), .slice (some ⟨b2, 0, none⟩) l2.length c2, undef, undef, .pointer (some ⟨w.heap.size, 3, none⟩), .slice (some ⟨b3, 0, none⟩) l3.length c3, undef, undef], defers := [] } W := by
  refine wpAnyH_ready (rs := [4, 12]) (by kernel_rfl) (by simp) ?_
  refine AllReadyH.cons (o := ownOp4) rfl (fun K hK => ?_) ?_
  · refine step_lit (by rfl) (by rfl) ?_
    intro z1 W' hb
    have hS' := ownS_keep hS hb
    refine hK.out _ _ hS' (fun _ => ?_)
    exact own_nd1_12 n0 n1 n2 n3 o0 o1 o2 o3 hQ W' hS' z0 z1 z2 a0 e0 m1 (t0.below hb g1) (Nat.le_trans g1 hb.size) k1
  refine AllReadyH.cons (o := ownOp12) rfl (fun K hK => ?_) ?_
  · refine step_lit (by rfl) (by rfl) ?_
    intro z3 W' hb
    have hS' := ownS_keep hS hb
    refine hK.out _ _ hS' (fun _ => ?_)
    exact own_nd1_23 n0 n1 n2 n3 o0 o1 o2 o3 hQ W' hS' z0 z2 z3 a0 e0 m1 (t0.below hb g1) (Nat.le_trans g1 hb.size) k1
  exact AllReadyH.nil

set_option maxRecDepth 20000 in
set_option maxHeartbeats 4000000 in
theorem own_nd1_3 {b0 b1 b2 b3 c0 c1 c2 c3 : Nat} {l0 l1 l2 l3 : List (Int × Int)} {w : World} {Q : Exit → Act → World → Prop} (n0 : l0.length ≤ 1048576) (n1 : l1.length ≤ 1048576) (n2 : l2.length ≤ 1048576) (n3 : l3.length ≤ 1048576) (o0 : Own w b0 l0.length l0 l0.length) (o1 : Own w b1 l1.length l1 l1.length) (o2 : Own w b2 l2.length l2 l2.length) (o3 : Own w b3 l3.length l3 l3.length)
    (hQ : ∀ (W : World) (hS : ownS w (.slice (some ⟨b0, 0, none⟩) l0.length c0) (.slice (some ⟨b1, 0, none⟩) l1.length c1) (.slice (some ⟨b2, 0, none⟩) l2.length c2) (.slice (some ⟨b3, 0, none⟩) l3.length c3) W) (z0 z1 z2 z3 : Nat) (a0 : Option Addr) (e0 m1 : Nat) (t0 : RoomIn W (w.heap.size + 2) m1 a0 l0.length e0 l0) (g1 : m1 ≤ W.heap.size) (k1 : (w.heap.size + 2) ≤ m1) (a1 : Option Addr) (e1 m2 : Nat) (t1 : RoomIn W m1 m2 a1 l1.length e1 l1) (g2 : m2 ≤ W.heap.size) (k2 : m1 ≤ m2) (a2 : Option Addr) (e2 m3 : Nat) (t2 : RoomIn W m2 m3 a2 l2.length e2 l2) (g3 : m3 ≤ W.heap.size) (k3 : m2 ≤ m3) (a3 : Option Addr) (e3 m4 : Nat) (t3 : RoomIn W m3 m4 a3 l3.length e3 l3) (g4 : m4 ≤ W.heap.size) (k4 : m3 ≤ m4), Q .normal { tmps := #[.agg #[.slice (some ⟨b0, 0, none⟩) l0.length c0, .slice (some ⟨b1, 0, none⟩) l1.length c1, .slice (some ⟨b2, 0, none⟩) l2.length c2, .slice (some ⟨b3, 0, none⟩) l3.length c3], .pointer (some ⟨w.heap.size, 0, none⟩), .pointer (some ⟨w.heap.size + 1, 0, none⟩), .slice (some ⟨z0, 0, none⟩) 0 0, .pointer (some ⟨w.heap.size, 0, none⟩), .slice (some ⟨b0, 0, none⟩) l0.length c0, .slice a0 l0.length e0, .slice (some ⟨z1, 0, none⟩) 0 0, .pointer (some ⟨w.heap.size, 1, none⟩), .slice (some ⟨b1, 0, none⟩) l1.length c1, .slice a1 l1.length e1, .slice (some ⟨z2, 0, none⟩) 0 0, .pointer (some ⟨w.heap.size, 2, none⟩), .slice (some ⟨b2, 0, none⟩) l2.length c2, .slice a2 l2.length e2, .slice (some ⟨z3, 0, none⟩) 0 0, .pointer (some ⟨w.heap.size, 3, none⟩), .slice (some ⟨b3, 0, none⟩) l3.length c3, .slice a3 l3.length e3, .agg #[.slice a0 l0.length e0, .slice a1 l1.length e1, .slice a2 l2.length e2, .slice a3 l3.length e3]], defers := [] } ((((W.setCell ⟨w.heap.size + 1, 0, none⟩ (.slice a0 l0.length e0)).setCell ⟨w.heap.size + 1, 1, none⟩ (.slice a1 l1.length e1)).setCell ⟨w.heap.size + 1, 2, none⟩ (.slice a2 l2.length e2)).setCell ⟨w.heap.size + 1, 3, none⟩ (.slice a3 l3.length e3)))
    (W : World) (hS : ownS w (.slice (some ⟨b0, 0, none⟩) l0.length c0) (.slice (some ⟨b1, 0, none⟩) l1.length c1) (.slice (some ⟨b2, 0, none⟩) l2.length c2) (.slice (some ⟨b3, 0, none⟩) l3.length c3) W) (z0 z3 : Nat) (a0 : Option Addr) (e0 m1 : Nat) (t0 : RoomIn W (w.heap.size + 2) m1 a0 l0.length e0 l0) (g1 : m1 ≤ W.heap.size) (k1 : (w.heap.size + 2) ≤ m1) :
    wpAnyH Try.prog .any ownOps Q (ownS w (.slice (some ⟨b0, 0, none⟩) l0.length c0) (.slice (some ⟨b1, 0, none⟩) l1.length c1) (.slice (some ⟨b2, 0, none⟩) l2.length c2) (.slice (some ⟨b3, 0, none⟩) l3.length c3)) 7 #[true, true, true, true, false, true, true, false, false, true, true, false, true, true, true, false, false, false] { tmps := #[.agg #[.slice (some ⟨b0, 0, none⟩) l0.length c0, .slice (some ⟨b1, 0, none⟩) l1.length c1, .slice (some ⟨b2, 0, none⟩) l2.length c2, .slice (some ⟨b3, 0, none⟩) l3.length c3], .pointer (some ⟨w.heap.size, 0, none⟩), .pointer (some ⟨w.heap.size + 1, 0, none⟩), .slice (some ⟨z0, 0, none⟩) 0 0, .pointer (some ⟨w.heap.size, 0, none⟩), .slice (some ⟨b0, 0, none⟩) l0.length c0, .slice a0 l0.length e0, undef, .pointer (some ⟨w.heap.size, 1, none⟩), .slice (some ⟨b1, 0, none⟩) l1.length c1, undef, undef, .pointer (some ⟨w.heap.size, 2, none⟩), .slice (some ⟨b2, 0, none⟩) l2.length c2, undef, .slice (some ⟨z3, 0, none⟩) 0 0, .pointer (some ⟨w.heap.size, 3, none⟩), .slice (some ⟨b3, 0, none⟩) l3.length c3, undef, undef], defers := [] } W := by
  refine wpAnyH_ready (rs := [4, 8]) (by kernel_rfl) (by simp) ?_
  refine AllReadyH.cons (o := ownOp4) rfl (fun K hK => ?_) ?_
  · refine step_lit (by rfl) (by rfl) ?_
    intro z1 W' hb
    have hS' := ownS_keep hS hb
    refine hK.out _ _ hS' (fun _ => ?_)
    exact own_nd1_13 n0 n1 n2 n3 o0 o1 o2 o3 hQ W' hS' z0 z1 z3 a0 e0 m1 (t0.below hb g1) (Nat.le_trans g1 hb.size) k1
  refine AllReadyH.cons (o := ownOp8) rfl (fun K hK => ?_) ?_
  · refine step_lit (by rfl) (by rfl) ?_
    intro z2 W' hb
    have hS' := ownS_keep hS hb
    refine hK.out _ _ hS' (fun _ => ?_)
    exact own_nd1_23 n0 n1 n2 n3 o0 o1 o2 o3 hQ W' hS' z0 z2 z3 a0 e0 m1 (t0.below hb g1) (Nat.le_trans g1 hb.size) k1
  exact AllReadyH.nil

set_option maxRecDepth 20000 in
set_option maxHeartbeats 4000000 in
theorem own_nd1_n {b0 b1 b2 b3 c0 c1 c2 c3 : Nat} {l0 l1 l2 l3 : List (Int × Int)} {w : World} {Q : Exit → Act → World → Prop} (n0 : l0.length ≤ 1048576) (n1 : l1.length ≤ 1048576) (n2 : l2.length ≤ 1048576) (n3 : l3.length ≤ 1048576) (o0 : Own w b0 l0.length l0 l0.length) (o1 : Own w b1 l1.length l1 l1.length) (o2 : Own w b2 l2.length l2 l2.length) (o3 : Own w b3 l3.length l3 l3.length)
    (hQ : ∀ (W : World) (hS : ownS w (.slice (some ⟨b0, 0, none⟩) l0.length c0) (.slice (some ⟨b1, 0, none⟩) l1.length c1) (.slice (some ⟨b2, 0, none⟩) l2.length c2) (.slice (some ⟨b3, 0, none⟩) l3.length c3) W) (z0 z1 z2 z3 : Nat) (a0 : Option Addr) (e0 m1 : Nat) (t0 : RoomIn W (w.heap.size + 2) m1 a0 l0.length e0 l0) (g1 : m1 ≤ W.heap.size) (k1 : (w.heap.size + 2) ≤ m1) (a1 : Option Addr) (e1 m2 : Nat) (t1 : RoomIn W m1 m2 a1 l1.length e1 l1) (g2 : m2 ≤ W.heap.size) (k2 : m1 ≤ m2) (a2 : Option Addr) (e2 m3 : Nat) (t2 : RoomIn W m2 m3 a2 l2.length e2 l2) (g3 : m3 ≤ W.heap.size) (k3 : m2 ≤ m3) (a3 : Option Addr) (e3 m4 : Nat) (t3 : RoomIn W m3 m4 a3 l3.length e3 l3) (g4 : m4 ≤ W.heap.size) (k4 : m3 ≤ m4), Q .normal { tmps := #[.agg #[.slice (some ⟨b0, 0, none⟩) l0.length c0, .slice (some ⟨b1, 0, none⟩) l1.length c1, .slice (some ⟨b2, 0, none⟩) l2.length c2, .slice (some ⟨b3, 0, none⟩) l3.length c3], .pointer (some ⟨w.heap.size, 0, none⟩), .pointer (some ⟨w.heap.size + 1, 0, none⟩), .slice (some ⟨z0, 0, none⟩) 0 0, .pointer (some ⟨w.heap.size, 0, none⟩), .slice (some ⟨b0, 0, none⟩) l0.length c0, .slice a0 l0.length e0, .slice (some ⟨z1, 0, none⟩) 0 0, .pointer (some ⟨w.heap.size, 1, none⟩), .slice (some ⟨b1, 0, none⟩) l1.length c1, .slice a1 l1.length e1, .slice (some ⟨z2, 0, none⟩) 0 0, .pointer (some ⟨w.heap.size, 2, none⟩), .slice (some ⟨b2, 0, none⟩) l2.length c2, .slice a2 l2.length e2, .slice (some ⟨z3, 0, none⟩) 0 0, .pointer (some ⟨w.heap.size, 3, none⟩), .slice (some ⟨b3, 0, none⟩) l3.length c3, .slice a3 l3.length e3, .agg #[.slice a0 l0.length e0, .slice a1 l1.length e1, .slice a2 l2.length e2, .slice a3 l3.length e3]], defers := [] } ((((W.setCell ⟨w.heap.size + 1, 0, none⟩ (.slice a0 l0.length e0)).setCell ⟨w.heap.size + 1, 1, none⟩ (.slice a1 l1.length e1)).setCell ⟨w.heap.size + 1, 2, none⟩ (.slice a2 l2.length e2)).setCell ⟨w.heap.size + 1, 3, none⟩ (.slice a3 l3.length e3)))
    (W : World) (hS : ownS w (.slice (some ⟨b0, 0, none⟩) l0.length c0) (.slice (some ⟨b1, 0, none⟩) l1.length c1) (.slice (some ⟨b2, 0, none⟩) l2.length c2) (.slice (some ⟨b3, 0, none⟩) l3.length c3) W) (z0 : Nat) (a0 : Option Addr) (e0 m1 : Nat) (t0 : RoomIn W (w.heap.size + 2) m1 a0 l0.length e0 l0) (g1 : m1 ≤ W.heap.size) (k1 : (w.heap.size + 2) ≤ m1) :
    wpAnyH Try.prog .any ownOps Q (ownS w (.slice (some ⟨b0, 0, none⟩) l0.length c0) (.slice (some ⟨b1, 0, none⟩) l1.length c1) (.slice (some ⟨b2, 0, none⟩) l2.length c2) (.slice (some ⟨b3, 0, none⟩) l3.length c3)) 8 #[true, true, true, true, false, true, true, false, false, true, true, false, false, true, true, false, false, false] { tmps := #[.agg #[.slice (some ⟨b0, 0, none⟩) l0.length c0, .slice (some ⟨b1, 0, none⟩) l1.length c1, .slice (some ⟨b2, 0, none⟩) l2.length c2, .slice (some ⟨b3, 0, none⟩) l3.length c3], .pointer (some ⟨w.heap.size, 0, none⟩), .pointer (some ⟨w.heap.size + 1, 0, none⟩), .slice (some ⟨z0, 0, none⟩) 0 0, .pointer (some ⟨w.heap.size, 0, none⟩), .slice (some ⟨b0, 0, none⟩) l0.length c0, .slice a0 l0.length e0, undef, .pointer (some ⟨w.heap.size, 1, none⟩), .slice (some ⟨b1, 0, none⟩) l1.length c1, undef, undef, .pointer (some ⟨w.heap.size, 2, none⟩), .slice (some ⟨b2, 0, none⟩) l2.length c2, undef, undef, .pointer (some ⟨w.heap.size, 3, none⟩), .slice (some ⟨b3, 0, none⟩) l3.length c3, undef, undef], defers := [] } W := by
  refine wpAnyH_ready (rs := [4, 8, 12]) (by kernel_rfl) (by simp) ?_
  refine AllReadyH.cons (o := ownOp4) rfl (fun K hK => ?_) ?_
  · refine step_lit (by rfl) (by rfl) ?_
    intro z1 W' hb
    have hS' := ownS_keep hS hb
    refine hK.out _ _ hS' (fun _ => ?_)
    exact own_nd1_1 n0 n1 n2 n3 o0 o1 o2 o3 hQ W' hS' z0 z1 a0 e0 m1 (t0.below hb g1) (Nat.le_trans g1 hb.size) k1
  refine AllReadyH.cons (o := ownOp8) rfl (fun K hK => ?_) ?_
  · refine step_lit (by rfl) (by rfl) ?_
    intro z2 W' hb
    have hS' := ownS_keep hS hb
    refine hK.out _ _ hS' (fun _ => ?_)
    exact own_nd1_2 n0 n1 n2 n3 o0 o1 o2 o3 hQ W' hS' z0 z2 a0 e0 m1 (t0.below hb g1) (Nat.le_trans g1 hb.size) k1
  refine AllReadyH.cons (o := ownOp12) rfl (fun K hK => ?_) ?_
  · refine step_lit (by rfl) (by rfl) ?_
    intro z3 W' hb
    have hS' := ownS_keep hS hb
    refine hK.out _ _ hS' (fun _ => ?_)
    exact own_nd1_3 n0 n1 n2 n3 o0 o1 o2 o3 hQ W' hS' z0 z3 a0 e0 m1 (t0.below hb g1) (Nat.le_trans g1 hb.size) k1
  exact AllReadyH.nil

set_option maxRecDepth 20000 in
set_option maxHeartbeats 4000000 in
theorem own_nd0_0123 {b0 b1 b2 b3 c0 c1 c2 c3 : Nat} {l0 l1 l2 l3 : List (Int × Int)} {w : World} {Q : Exit → Act → World → Prop} (n0 : l0.length ≤ 1048576) (n1 : l1.length ≤ 1048576) (n2 : l2.length ≤ 1048576) (n3 : l3.length ≤ 1048576) (o0 : Own w b0 l0.length l0 l0.length) (o1 : Own w b1 l1.length l1 l1.length) (o2 : Own w b2 l2.length l2 l2.length) (o3 : Own w b3 l3.length l3 l3.length)
    (hQ : ∀ (W : World) (hS : ownS w (.slice (some ⟨b0, 0, none⟩) l0.length c0) (.slice (some ⟨b1, 0, none⟩) l1.length c1) (.slice (some ⟨b2, 0, none⟩) l2.length c2) (.slice (some ⟨b3, 0, none⟩) l3.length c3) W) (z0 z1 z2 z3 : Nat) (a0 : Option Addr) (e0 m1 : Nat) (t0 : RoomIn W (w.heap.size + 2) m1 a0 l0.length e0 l0) (g1 : m1 ≤ W.heap.size) (k1 : (w.heap.size + 2) ≤ m1) (a1 : Option Addr) (e1 m2 : Nat) (t1 : RoomIn W m1 m2 a1 l1.length e1 l1) (g2 : m2 ≤ W.heap.size) (k2 : m1 ≤ m2) (a2 : Option Addr) (e2 m3 : Nat) (t2 : RoomIn W m2 m3 a2 l2.length e2 l2) (g3 : m3 ≤ W.heap.size) (k3 : m2 ≤ m3) (a3 : Option Addr) (e3 m4 : Nat) (t3 : RoomIn W m3 m4 a3 l3.length e3 l3) (g4 : m4 ≤ W.heap.size) (k4 : m3 ≤ m4), Q .normal { tmps := #[.agg #[.slice (some ⟨b0, 0, none⟩) l0.length c0, .slice (some ⟨b1, 0, none⟩) l1.length c1, .slice (some ⟨b2, 0, none⟩) l2.length c2, .slice (some ⟨b3, 0, none⟩) l3.length c3], .pointer (some ⟨w.heap.size, 0, none⟩), .pointer (some ⟨w.heap.size + 1, 0, none⟩), .slice (some ⟨z0, 0, none⟩) 0 0, .pointer (some ⟨w.heap.size, 0, none⟩), .slice (some ⟨b0, 0, none⟩) l0.length c0, .slice a0 l0.length e0, .slice (some ⟨z1, 0, none⟩) 0 0, .pointer (some ⟨w.heap.size, 1, none⟩), .slice (some ⟨b1, 0, none⟩) l1.length c1, .slice a1 l1.length e1, .slice (some ⟨z2, 0, none⟩) 0 0, .pointer (some ⟨w.heap.size, 2, none⟩), .slice (some ⟨b2, 0, none⟩) l2.length c2, .slice a2 l2.length e2, .slice (some ⟨z3, 0, none⟩) 0 0, .pointer (some ⟨w.heap.size, 3, none⟩), .slice (some ⟨b3, 0, none⟩) l3.length c3, .slice a3 l3.length e3, .agg #[.slice a0 l0.length e0, .slice a1 l1.length e1, .slice a2 l2.length e2, .slice a3 l3.length e3]], defers := [] } ((((W.setCell ⟨w.heap.size + 1, 0, none⟩ (.slice a0 l0.length e0)).setCell ⟨w.heap.size + 1, 1, none⟩ (.slice a1 l1.length e1)).setCell ⟨w.heap.size + 1, 2, none⟩ (.slice a2 l2.length e2)).setCell ⟨w.heap.size + 1, 3, none⟩ (.slice a3 l3.length e3)))
    (W : World) (hS : ownS w (.slice (some ⟨b0, 0, none⟩) l0.length c0) (.slice (some ⟨b1, 0, none⟩) l1.length c1) (.slice (some ⟨b2, 0, none⟩) l2.length c2) (.slice (some ⟨b3, 0, none⟩) l3.length c3) W) (z0 z1 z2 z3 : Nat) :
    wpAnyH Try.prog .any ownOps Q (ownS w (.slice (some ⟨b0, 0, none⟩) l0.length c0) (.slice (some ⟨b1, 0, none⟩) l1.length c1) (.slice (some ⟨b2, 0, none⟩) l2.length c2) (.slice (some ⟨b3, 0, none⟩) l3.length c3)) 6 #[true, true, true, false, true, true, true, false, true, true, true, false, true, true, true, false, false, false] { tmps := #[.agg #[.slice (some ⟨b0, 0, none⟩) l0.length c0, .slice (some ⟨b1, 0, none⟩) l1.length c1, .slice (some ⟨b2, 0, none⟩) l2.length c2, .slice (some ⟨b3, 0, none⟩) l3.length c3], .pointer (some ⟨w.heap.size, 0, none⟩), .pointer (some ⟨w.heap.size + 1, 0, none⟩), .slice (some ⟨z0, 0, none⟩) 0 0, .pointer (some ⟨w.heap.size, 0, none⟩), .slice (some ⟨b0, 0, none⟩) l0.length c0, undef, .slice (some ⟨z1, 0, none⟩) 0 0, .pointer (some ⟨w.heap.size, 1, none⟩), .slice (some ⟨b1, 0, none⟩) l1.length c1, undef, .slice (some ⟨z2, 0, none⟩) 0 0, .pointer (some ⟨w.heap.size, 2, none⟩), .slice (some ⟨b2, 0, none⟩) l2.length c2, undef, .slice (some ⟨z3, 0, none⟩) 0 0, .pointer (some ⟨w.heap.size, 3, none⟩), .slice (some ⟨b3, 0, none⟩) l3.length c3, undef, undef], defers := [] } W := by
  refine wpAnyH_ready (rs := [3]) (by kernel_rfl) (by simp) ?_
  refine AllReadyH.cons (o := ownOp3) rfl (fun K hK => ?_) ?_
  · refine step_fresh (by rfl) (Operand.tmp 3) (Operand.tmp 5) (by rfl) z0 b0 l0.length c0 l0 (by rfl) (by rfl) rfl (o0.below hS.1 o0.1) n0 ?_
    intro a0 e0 W' hr hb
    have hS' := ownS_keep hS hb
    refine hK.out _ _ hS' (fun _ => ?_)
    exact own_nd1_123 n0 n1 n2 n3 o0 o1 o2 o3 hQ W' hS' z0 z1 z2 z3  a0 e0 W'.heap.size (hr.mono (ownS_ge hS) (Nat.le_refl _)) (Nat.le_refl _) (Nat.le_trans (ownS_ge hS) hb.size)
  exact AllReadyH.nil

set_option maxRecDepth 20000 in
set_option maxHeartbeats 4000000 in
theorem own_nd0_012 {b0 b1 b2 b3 c0 c1 c2 c3 : Nat} {l0 l1 l2 l3 : List (Int × Int)} {w : World} {Q : Exit → Act → World → Prop} (n0 : l0.length ≤ 1048576) (n1 : l1.length ≤ 1048576) (n2 : l2.length ≤ 1048576) (n3 : l3.length ≤ 1048576) (o0 : Own w b0 l0.length l0 l0.length) (o1 : Own w b1 l1.length l1 l1.length) (o2 : Own w b2 l2.length l2 l2.length) (o3 : Own w b3 l3.length l3 l3.length)
    (hQ : ∀ (W : World) (hS : ownS w (.slice (some ⟨b0, 0, none⟩) l0.length c0) (.slice (some ⟨b1, 0, none⟩) l1.length c1) (.slice (some ⟨b2, 0, none⟩) l2.length c2) (.slice (some ⟨b3, 0, none⟩) l3.length c3) W) (z0 z1 z2 z3 : Nat) (a0 : Option Addr) (e0 m1 : Nat) (t0 : RoomIn W (w.heap.size + 2) m1 a0 l0.length e0 l0) (g1 : m1 ≤ W.heap.size) (k1 : (w.heap.size + 2) ≤ m1) (a1 : Option Addr) (e1 m2 : Nat) (t1 : RoomIn W m1 m2 a1 l1.length e1 l1) (g2 : m2 ≤ W.heap.size) (k2 : m1 ≤ m2) (a2 : Option Addr) (e2 m3 : Nat) (t2 : RoomIn W m2 m3 a2 l2.length e2 l2) (g3 : m3 ≤ W.heap.size) (k3 : m2 ≤ m3) (a3 : Option Addr) (e3 m4 : Nat) (t3 : RoomIn W m3 m4 a3 l3.length e3 l3) (g4 : m4 ≤ W.heap.size) (k4 : m3 ≤ m4), Q .normal { tmps := #[.agg #[.slice (some ⟨b0, 0, none⟩) l0.length c0, .slice (some ⟨b1, 0, none⟩) l1.length c1, .slice (some ⟨b2, 0, none⟩) l2.length c2, .slice (some ⟨b3, 0, none⟩) l3.length c3], .pointer (some ⟨w.heap.size, 0, none⟩), .pointer (some ⟨w.heap.size + 1, 0, none⟩), .slice (some ⟨z0, 0, none⟩) 0 0, .pointer (some ⟨w.heap.size, 0, none⟩), .slice (some ⟨b0, 0, none⟩) l0.length c0, .slice a0 l0.length e0, .slice (some ⟨z1, 0, none⟩) 0 0, .pointer (some ⟨w.heap.size, 1, none⟩), .slice (some ⟨b1, 0, none⟩) l1.length c1, .slice a1 l1.length e1, .slice (some ⟨z2, 0, none⟩) 0 0, .pointer (some ⟨w.heap.size, 2, none⟩), .slice (some ⟨b2, 0, none⟩) l2.length c2, .slice a2 l2.length e2, .slice (some ⟨z3, 0, none⟩) 0 0, .pointer (some ⟨w.heap.size, 3, none⟩), .slice (some ⟨b3, 0, none⟩) l3.length c3, .slice a3 l3.length e3, .agg #[.slice a0 l0.length e0, .slice a1 l1.length e1, .slice a2 l2.length e2, .slice a3 l3.length e3]], defers := [] } ((((W.setCell ⟨w.heap.size + 1, 0, none⟩ (.slice a0 l0.length e0)).setCell ⟨w.heap.size + 1, 1, none⟩ (.slice a1 l1.length e1)).setCell ⟨w.heap.size + 1, 2, none⟩ (.slice a2 l2.length e2)).setCell ⟨w.heap.size + 1, 3, none⟩ (.slice a3 l3.length e3)))
    (W : World) (hS : ownS w (.slice (some ⟨b0, 0, none⟩) l0.length c0) (.slice (some ⟨b1, 0, none⟩) l1.length c1) (.slice (some ⟨b2, 0, none⟩) l2.length c2) (.slice (some ⟨b3, 0, none⟩) l3.length c3) W) (z0 z1 z2 : Nat) :
    wpAnyH Try.prog .any ownOps Q (ownS w (.slice (some ⟨b0, 0, none⟩) l0.length c0) (.slice (some ⟨b1, 0, none⟩) l1.length c1) (.slice (some ⟨b2, 0, none⟩) l2.length c2) (.slice (some ⟨b3, 0, none⟩) l3.length c3)) 7 #[true, true, true, false, true, true, true, false, true, true, true, false, false, true, true, false, false, false] { tmps := #[.agg #[.slice (some ⟨b0, 0, none⟩) l0.length c0, .slice (some ⟨b1, 0, none⟩) l1.length c1, .slice (some ⟨b2, 0, none⟩) l2.length c2, .slice (some ⟨b3, 0, none⟩) l3.length c3], .pointer (some ⟨w.heap.size, 0, none⟩), .pointer (some ⟨w.heap.size + 1, 0, none⟩), .slice (some ⟨z0, 0, none⟩) 0 0, .pointer (some ⟨w.heap.size, 0, none⟩), .slice (some ⟨b0, 0, none⟩) l0.length c0, undef, .slice (some ⟨z1, 0, none⟩) 0 0, .pointer (some ⟨w.heap.size, 1, none⟩), .slice (some ⟨b1, 0, none⟩) l1.length c1, undef, .slice (some ⟨z2, 0, none⟩) 0 0, .pointer (some ⟨w.heap.size, 2, none⟩), .slice (some ⟨b2, 0, none⟩) l2.length c2, undef, undef, .pointer (some ⟨w.heap.size, 3, none⟩), .slice (some ⟨b3, 0, none⟩) l3.length c3, undef, undef], defers := [] } W := by
  refine wpAnyH_ready (rs := [3, 12]) (by kernel_rfl) (by simp) ?_
  refine AllReadyH.cons (o := ownOp3) rfl (fun K hK => ?_) ?_
  · refine step_fresh (by rfl) (Operand.tmp 3) (Operand.tmp 5) (by rfl) z0 b0 l0.length c0 l0 (by rfl) (by rfl) rfl (o0.below hS.1 o0.1) n0 ?_
    intro a0 e0 W' hr hb
    have hS' := ownS_keep hS hb
    refine hK.out _ _ hS' (fun _ => ?_)
    exact own_nd1_12 n0 n1 n2 n3 o0 o1 o2 o3 hQ W' hS' z0 z1 z2  a0 e0 W'.heap.size (hr.mono (ownS_ge hS) (Nat.le_refl _)) (Nat.le_refl _) (Nat.le_trans (ownS_ge hS) hb.size)
  refine AllReadyH.cons (o := ownOp12) rfl (fun K hK => ?_) ?_
  · refine step_lit (by rfl) (by rfl) ?_
    intro z3 W' hb
    have hS' := ownS_keep hS hb
    refine hK.out _ _ hS' (fun _ => ?_)
    exact own_nd0_0123 n0 n1 n2 n3 o0 o1 o2 o3 hQ W' hS' z0 z1 z2 z3 
  exact AllReadyH.nil

set_option maxRecDepth 20000 in
set_option maxHeartbeats 4000000 in
theorem own_nd0_013 {b0 b1 b2 b3 c0 c1 c2 c3 : Nat} {l0 l1 l2 l3 : List (Int × Int)} {w : World} {Q : Exit → Act → World → Prop} (n0 : l0.length ≤ 1048576) (n1 : l1.length ≤ 1048576) (n2 : l2.length ≤ 1048576) (n3 : l3.length ≤ 1048576) (o0 : Own w b0 l0.length l0 l0.length) (o1 : Own w b1 l1.length l1 l1.length) (o2 : Own w b2 l2.length l2 l2.length) (o3 : Own w b3 l3.length l3 l3.length)
    (hQ : ∀ (W : World) (hS : ownS w (.slice (some ⟨b0, 0, none⟩) l0.length c0) (.slice (some ⟨b1, 0, none⟩) l1.length c1) (.slice (some ⟨b2, 0, none⟩) l2.length c2) (.slice (some ⟨b3, 0, none⟩) l3.length c3) W) (z0 z1 z2 z3 : Nat) (a0 : Option Addr) (e0 m1 : Nat) (t0 : RoomIn W (w.heap.size + 2) m1 a0 l0.length e0 l0) (g1 : m1 ≤ W.heap.size) (k1 : (w.heap.size + 2) ≤ m1) (a1 : Option Addr) (e1 m2 : Nat) (t1 : RoomIn W m1 m2 a1 l1.length e1 l1) (g2 : m2 ≤ W.heap.size) (k2 : m1 ≤ m2) (a2 : Option Addr) (e2 m3 : Nat) (t2 : RoomIn W m2 m3 a2 l2.length e2 l2) (g3 : m3 ≤ W.heap.size) (k3 : m2 ≤ m3) (a3 : Option Addr) (e3 m4 : Nat) (t3 : RoomIn W m3 m4 a3 l3.length e3 l3) (g4 : m4 ≤ W.heap.size) (k4 : m3 ≤ m4), Q .normal { tmps := #[.agg #[.slice (some ⟨b0, 0, none⟩) l0.length c0, .slice (some ⟨b1, 0, none⟩) l1.length c1, .slice (some ⟨b2, 0, none⟩) l2.length c2, .slice (some ⟨b3, 0, none⟩) l3.length c3], .pointer (some ⟨w.heap.size, 0, none⟩), .pointer (some ⟨w.heap.size + 1, 0, none⟩), .slice (some ⟨z0, 0, none⟩) 0 0, .pointer (some ⟨w.heap.size, 0, none⟩), .slice (some ⟨b0, 0, none⟩) l0.length c0, .slice a0 l0.length e0, .slice (some ⟨z1, 0, none⟩) 0 0, .pointer (some ⟨w.heap.size, 1, none⟩), .slice (some ⟨b1, 0, none⟩) l1.length c1, .slice a1 l1.length e1, .slice (some ⟨z2, 0, none⟩) 0 0, .pointer (some ⟨w.heap.size, 2, none⟩), .slice (some ⟨b2, 0, none⟩) l2.length c2, .slice a2 l2.length e2, .slice (some ⟨z3, 0, none⟩) 0 0, .pointer (some ⟨w.heap.size, 3, none⟩), .slice (some ⟨b3, 0, none⟩) l3.length c3, .slice a3 l3.length e3, .agg #[.slice a0 l0.length e0, .slice a1 l1.length e1, .slice a2 l2.length e2, .slice a3 l3.length e3]], defers := [] } ((((W.setCell ⟨w.heap.size + 1, 0, none⟩ (.slice a0 l0.length e0)).setCell ⟨w.heap.size + 1, 1, none⟩ (.slice a1 l1.length e1)).setCell ⟨w.heap.size + 1, 2, none⟩ (.slice a2 l2.length e2)).setCell ⟨w.heap.size + 1, 3, none⟩ (.slice a3 l3.length e3)))
    (W : World) (hS : ownS w (.slice (some ⟨b0, 0, none⟩) l0.length c0) (.slice (some ⟨b1, 0, none⟩) l1.length c1) (.slice (some ⟨b2, 0, none⟩) l2.length c2) (.slice (some ⟨b3, 0, none⟩) l3.length c3) W) (z0 z1 z3 : Nat) :
    wpAnyH Try.prog .any ownOps Q (ownS w (.slice (some ⟨b0, 0, none⟩) l0.length c0) (.slice (some ⟨b1, 0, none⟩) l1.length c1) (.slice (some ⟨b2, 0, none⟩) l2.length c2) (.slice (some ⟨b3, 0, none⟩) l3.length c3)) 7 #[true, true, true, false, true, true, true, false, false, true, true, false, true, true, true, false, false, false] { tmps := #[.agg #[.slice (some ⟨b0, 0, none⟩) l0.length c0, .slice (some ⟨b1, 0, none⟩) l1.length c1, .slice (some ⟨b2, 0, none⟩) l2.length c2, .slice (some ⟨b3, 0, none⟩) l3.length c3], .pointer (some ⟨w.heap.size, 0, none⟩), .pointer (some ⟨w.heap.size + 1, 0, none⟩), .slice (some ⟨z0, 0, none⟩) 0 0, .pointer (some ⟨w.heap.size, 0, none⟩), .slice (some ⟨b0, 0, none⟩) l0.length c0, undef, .slice (some ⟨z1, 0, none⟩) 0 0, .pointer (some ⟨w.heap.size, 1, none⟩), .slice (some ⟨b1, 0, none⟩) l1.length c1, undef, undef, .pointer (some ⟨w.heap.size, 2, none⟩), .slice (some ⟨b2, 0, none⟩) l2.length c2, undef, .slice (some ⟨z3, 0, none⟩) 0 0, .pointer (some ⟨w.heap.size, 3, none⟩), .slice (some ⟨b3, 0, none⟩) l3.length c3, undef, undef], defers := [] } W := by
  refine wpAnyH_ready (rs := [3, 8]) (by kernel_rfl) (by simp) ?_
  refine AllReadyH.cons (o := ownOp3) rfl (fun K hK => ?_) ?_
  · refine step_fresh (by rfl) (Operand.tmp 3) (Operand.tmp 5) (by rfl) z0 b0 l0.length c0 l0 (by rfl) (by rfl) rfl (o0.below hS.1 o0.1) n0 ?_
    intro a0 e0 W' hr hb
    have hS' := ownS_keep hS hb
    refine hK.out _ _ hS' (fun _ => ?_)
    exact own_nd1_13 n0 n1 n2 n3 o0 o1 o2 o3 hQ W' hS' z0 z1 z3  a0 e0 W'.heap.size (hr.mono (ownS_ge hS) (Nat.le_refl _)) (Nat.le_refl _) (Nat.le_trans (ownS_ge hS) hb.size)
  refine AllReadyH.cons (o := ownOp8) rfl (fun K hK => ?_) ?_
  · refine step_lit (by rfl) (by rfl) ?_
    intro z2 W' hb
    have hS' := ownS_keep hS hb
    refine hK.out _ _ hS' (fun _ => ?_)
    exact own_nd0_0123 n0 n1 n2 n3 o0 o1 o2 o3 hQ W' hS' z0 z1 z2 z3 
  exact AllReadyH.nil

set_option maxRecDepth 20000 in
set_option maxHeartbeats 4000000 in
theorem own_nd0_023 {b0 b1 b2 b3 c0 c1 c2 c3 : Nat} {l0 l1 l2 l3 : List (Int × Int)} {w : World} {Q : Exit → Act → World → Prop} (n0 : l0.length ≤ 1048576) (n1 : l1.length ≤ 1048576) (n2 : l2.length ≤ 1048576) (n3 : l3.length ≤ 1048576) (o0 : Own w b0 l0.length l0 l0.length) (o1 : Own w b1 l1.length l1 l1.length) (o2 : Own w b2 l2.length l2 l2.length) (o3 : Own w b3 l3.length l3 l3.length)
    (hQ : ∀ (W : World) (hS : ownS w (.slice (some ⟨b0, 0, none⟩) l0.length c0) (.slice (some ⟨b1, 0, none⟩) l1.length c1) (.slice (some ⟨b2, 0, none⟩) l2.length c2) (.slice (some ⟨b3, 0, none⟩) l3.length c3) W) (z0 z1 z2 z3 : Nat) (a0 : Option Addr) (e0 m1 : Nat) (t0 : RoomIn W (w.heap.size + 2) m1 a0 l0.length e0 l0) (g1 : m1 ≤ W.heap.size) (k1 : (w.heap.size + 2) ≤ m1) (a1 : Option Addr) (e1 m2 : Nat) (t1 : RoomIn W m1 m2 a1 l1.length e1 l1) (g2 : m2 ≤ W.heap.size) (k2 : m1 ≤ m2) (a2 : Option Addr) (e2 m3 : Nat) (t2 : RoomIn W m2 m3 a2 l2.length e2 l2) (g3 : m3 ≤ W.heap.size) (k3 : m2 ≤ m3) (a3 : Option Addr) (e3 m4 : Nat) (t3 : RoomIn W m3 m4 a3 l3.length e3 l3) (g4 : m4 ≤ W.heap.size) (k4 : m3 ≤ m4), Q .normal { tmps := #[.agg #[.slice (some ⟨b0, 0, none⟩) l0.length c0, .slice (some ⟨b1, 0, none⟩) l1.length c1, .slice (some ⟨b2, 0, none⟩) l2.length c2, .slice (some ⟨b3, 0, none⟩) l3.length c3], .pointer (some ⟨w.heap.size, 0, none⟩), .pointer (some ⟨w.heap.size + 1, 0, none⟩), .slice (some ⟨z0, 0, none⟩) 0 0, .pointer (some ⟨w.heap.size, 0, none⟩), .slice (some ⟨b0, 0, none⟩) l0.length c0, .slice a0 l0.length e0, .slice (some ⟨z1, 0, none⟩) 0 0, .pointer (some ⟨w.heap.size, 1, none⟩), .slice (some ⟨b1, 0, none⟩) l1.length c1, .slice a1 l1.length e1, .slice (some ⟨z2, 0, none⟩) 0 0, .pointer (some ⟨w.heap.size, 2, none⟩), .slice (some ⟨b2, 0, none⟩) l2.length c2, .slice a2 l2.length e2, .slice (some ⟨z3, 0, none⟩) 0 0, .pointer (some ⟨w.heap.size, 3, none⟩), .slice (some ⟨b3, 0, none⟩) l3.length c3, .slice a3 l3.length e3, .agg #[.slice a0 l0.length e0, .slice a1 l1.length e1, .slice a2 l2.length e2, .slice a3 l3.length e3]], defers := [] } ((((W.setCell ⟨w.heap.size + 1, 0, none⟩ (.slice a0 l0.length e0)).setCell ⟨w.heap.size + 1, 1, none⟩ (.slice a1 l1.length e1)).setCell ⟨w.heap.size + 1, 2, none⟩ (.slice a2 l2.length e2)).setCell ⟨w.heap.size + 1, 3, none⟩ (.slice a3 l3.length e3)))
    (W : World) (hS : ownS w (.slice (some ⟨b0, 0, none⟩) l0.length c0) (.slice (some ⟨b1, 0, none⟩) l1.length c1) (.slice (some ⟨b2, 0, none⟩) l2.length c2) (.slice (some ⟨b3, 0, none⟩) l3.length c3) W) (z0 z2 z3 : Nat) :
    wpAnyH Try.prog .any ownOps Q (ownS w (.slice (some ⟨b0, 0, none⟩) l0.length c0) (.slice (some ⟨b1, 0, none⟩) l1.length c1) (.slice (some ⟨b2, 0, none⟩) l2.length c2) (.slice (some ⟨b3, 0, none⟩) l3.length c3)) 7 #[true, true, true, false, false, true, true, false, true, true, true, false, true, true, true, false, false, false] { tmps := #[.agg #[.slice (some ⟨b0, 0, none⟩) l0.length c0, .slice (some ⟨b1, 0, none⟩) l1.length c1, .slice (some ⟨b2, 0, none⟩) l2.length c2, .slice (some ⟨b3, 0, none⟩) l3.length c3], .pointer (some ⟨w.heap.size, 0, none⟩), .pointer (some ⟨w.heap.size + 1, 0, none⟩), .slice (some ⟨z0, 0, none⟩) 0 0, .pointer (some ⟨w.heap.size, 0, none⟩), .slice (some ⟨b0, 0, none⟩) l0.length c0, undef, undef, .pointer (some ⟨w.heap.size, 1, none⟩), .slice (some ⟨b1, 0, none⟩) l1.length c1, undef, .slice (some ⟨z2, 0, none⟩) 0 0, .pointer (some ⟨w.heap.size, 2, none⟩), .slice (some ⟨b2, 0, none⟩) l2.length c2, undef, .slice (some ⟨z3, 0, none⟩) 0 0, .pointer (some ⟨w.heap.size, 3, none⟩), .slice (some ⟨b3, 0, none⟩) l3.length c3, undef, undef], defers := [] } W := by
  refine wpAnyH_ready (rs := [3, 4]) (by kernel_rfl) (by simp) ?_
  refine AllReadyH.cons (o := ownOp3) rfl (fun K hK => ?_) ?_
  · refine step_fresh (by rfl) (Operand.tmp 3) (Operand.tmp 5) (by rfl) z0 b0 l0.length c0 l0 (by rfl) (by rfl) rfl (o0.below hS.1 o0.1) n0 ?_
    intro a0 e0 W' hr hb
    have hS' := ownS_keep hS hb
    refine hK.out _ _ hS' (fun _ => ?_)
    exact own_nd1_23 n0 n1 n2 n3 o0 o1 o2 o3 hQ W' hS' z0 z2 z3  a0 e0 W'.heap.size (hr.mono (ownS_ge hS) (Nat.le_refl _)) (Nat.le_refl _) (Nat.le_trans (ownS_ge hS) hb.size)
  refine AllReadyH.cons (o := ownOp4) rfl (fun K hK => ?_) ?_
  · refine step_lit (by rfl) (by rfl) ?_
    intro z1 W' hb
    have hS' := ownS_keep hS hb
    refine hK.out _ _ hS' (fun _ => ?_)
    exact own_nd0_0123 n0 n1 n2 n3 o0 o1 o2 o3 hQ W' hS' z0 z1 z2 z3 
  exact AllReadyH.nil

set_option maxRecDepth 20000 in
set_option maxHeartbeats 4000000 in
theorem own_nd0_123 {b0 b1 b2 b3 c0 c1 c2 c3 : Nat} {l0 l1 l2 l3 : List (Int × Int)} {w : World} {Q : Exit → Act → World → Prop} (n0 : l0.length ≤ 1048576) (n1 : l1.length ≤ 1048576) (n2 : l2.length ≤ 1048576) (n3 : l3.length ≤ 1048576) (o0 : Own w b0 l0.length l0 l0.length) (o1 : Own w b1 l1.length l1 l1.length) (o2 : Own w b2 l2.length l2 l2.length) (o3 : Own w b3 l3.length l3 l3.length)
    (hQ : ∀ (W : World) (hS : ownS w (.slice (some ⟨b0, 0, none⟩) l0.length c0) (.slice (some ⟨b1, 0, none⟩) l1.length c1) (.slice (some ⟨b2, 0, none⟩) l2.length c2) (.slice (some ⟨b3, 0, none⟩) l3.length c3) W) (z0 z1 z2 z3 : Nat) (a0 : Option Addr) (e0 m1 : Nat) (t0 : RoomIn W (w.heap.size + 2) m1 a0 l0.length e0 l0) (g1 : m1 ≤ W.heap.size) (k1 : (w.heap.size + 2) ≤ m1) (a1 : Option Addr) (e1 m2 : Nat) (t1 : RoomIn W m1 m2 a1 l1.length e1 l1) (g2 : m2 ≤ W.heap.size) (k2 : m1 ≤ m2) (a2 : Option Addr) (e2 m3 : Nat) (t2 : RoomIn W m2 m3 a2 l2.length e2 l2) (g3 : m3 ≤ W.heap.size) (k3 : m2 ≤ m3) (a3 : Option Addr) (e3 m4 : Nat) (t3 : RoomIn W m3 m4 a3 l3.length e3 l3) (g4 : m4 ≤ W.heap.size) (k4 : m3 ≤ m4), Q .normal { tmps := #[.agg #[.slice (some ⟨b0, 0, none⟩) l0.length c0, .slice (some ⟨b1, 0, none⟩) l1.length c1, .slice (some ⟨b2, 0, none⟩) l2.length c2, .slice (some ⟨b3, 0, none⟩) l3.length c3], .pointer (some ⟨w.heap.size, 0, none⟩), .pointer (some ⟨w.heap.size + 1, 0, none⟩), .slice (some ⟨z0, 0, none⟩) 0 0, .pointer (some ⟨w.heap.size, 0, none⟩), .slice (some ⟨b0, 0, none⟩) l0.length c0, .slice a0 l0.length e0, .slice (some ⟨z1, 0, none⟩) 0 0, .pointer (some ⟨w.heap.size, 1, none⟩), .slice (some ⟨b1, 0, none⟩) l1.length c1, .slice a1 l1.length e1, .slice (some ⟨z2, 0, none⟩) 0 0, .pointer (some ⟨w.heap.size, 2, none⟩), .slice (some ⟨b2, 0, none⟩) l2.length c2, .slice a2 l2.length e2, .slice (some ⟨z3, 0, none⟩) 0 0, .pointer (some ⟨w.heap.size, 3, none⟩), .slice (some ⟨b3, 0, none⟩) l3.length c3, .slice a3 l3.length e3, .agg #[.slice a0 l0.length e0, .slice a1 l1.length e1, .slice a2 l2.length e2, .slice a3 l3.length e3]], defers := [] } ((((W.setCell ⟨w.heap.size + 1, 0, none⟩ (.slice a0 l0.length e0)).setCell ⟨w.heap.size + 1, 1, none⟩ (.slice a1 l1.length e1)).setCell ⟨w.heap.size + 1, 2, none⟩ (.slice a2 l2.length e2)).setCell ⟨w.heap.size + 1, 3, none⟩ (.slice a3 l3.length e3)))
    (W : World) (hS : ownS w (.slice (some ⟨b0, 0, none⟩) l0.length c0) (.slice (some ⟨b1, 0, none⟩) l1.length c1) (.slice (some ⟨b2, 0, none⟩) l2.length c2) (.slice (some ⟨b3, 0, none⟩) l3.length c3) W) (z1 z2 z3 : Nat) :
    wpAnyH Try.prog .any ownOps Q (ownS w (.slice (some ⟨b0, 0, none⟩) l0.length c0) (.slice (some ⟨b1, 0, none⟩) l1.length c1) (.slice (some ⟨b2, 0, none⟩) l2.length c2) (.slice (some ⟨b3, 0, none⟩) l3.length c3)) 7 #[false, true, true, false, true, true, true, false, true, true, true, false, true, true, true, false, false, false] { tmps := #[.agg #[.slice (some ⟨b0, 0, none⟩) l0.length c0, .slice (some ⟨b1, 0, none⟩) l1.length c1, .slice (some ⟨b2, 0, none⟩) l2.length c2, .slice (some ⟨b3, 0, none⟩) l3.length c3], .pointer (some ⟨w.heap.size, 0, none⟩), .pointer (some ⟨w.heap.size + 1, 0, none⟩), undef, .pointer (some ⟨w.heap.size, 0, none⟩), .slice (some ⟨b0, 0, none⟩) l0.length c0, undef, .slice (some ⟨z1, 0, none⟩) 0 0, .pointer (some ⟨w.heap.size, 1, none⟩), .slice (some ⟨b1, 0, none⟩) l1.length c1, undef, .slice (some ⟨z2, 0, none⟩) 0 0, .pointer (some ⟨w.heap.size, 2, none⟩), .slice (some ⟨b2, 0, none⟩) l2.length c2, undef, .slice (some ⟨z3, 0, none⟩) 0 0, .pointer (some ⟨w.heap.size, 3, none⟩), .slice (some ⟨b3, 0, none⟩) l3.length c3, undef, undef], defers := [] } W := by
  refine wpAnyH_ready (rs := [0]) (by kernel_rfl) (by simp) ?_
  refine AllReadyH.cons (o := ownOp0) rfl (fun K hK => ?_) ?_
  · refine step_lit (by rfl) (by rfl) ?_
    intro z0 W' hb
    have hS' := ownS_keep hS hb
    refine hK.out _ _ hS' (fun _ => ?_)
    exact own_nd0_0123 n0 n1 n2 n3 o0 o1 o2 o3 hQ W' hS' z0 z1 z2 z3 
  exact AllReadyH.nil

set_option maxRecDepth 20000 in
set_option maxHeartbeats 4000000 in
theorem own_nd0_01 {b0 b1 b2 b3 c0 c1 c2 c3 : Nat} {l0 l1 l2 l3 : List (Int × Int)} {w : World} {Q : Exit → Act → World → Prop} (n0 : l0.length ≤ 1048576) (n1 : l1.length ≤ 1048576) (n2 : l2.length ≤ 1048576) (n3 : l3.length ≤ 1048576) (o0 : Own w b0 l0.length l0 l0.length) (o1 : Own w b1 l1.length l1 l1.length) (o2 : Own w b2 l2.length l2 l2.length) (o3 : Own w b3 l3.length l3 l3.length)
    (hQ : ∀ (W : World) (hS : ownS w (.slice (some ⟨b0, 0, none⟩) l0.length c0) (.slice (some ⟨b1, 0, none⟩) l1.length c1) (.slice (some ⟨b2, 0, none⟩) l2.length c2) (.slice (some ⟨b3, 0, none⟩) l3.length c3) W) (z0 z1 z2 z3 : Nat) (a0 : Option Addr) (e0 m1 : Nat) (t0 : RoomIn W (w.heap.size + 2) m1 a0 l0.length e0 l0) (g1 : m1 ≤ W.heap.size) (k1 : (w.heap.size + 2) ≤ m1) (a1 : Option Addr) (e1 m2 : Nat) (t1 : RoomIn W m1 m2 a1 l1.length e1 l1) (g2 : m2 ≤ W.heap.size) (k2 : m1 ≤ m2) (a2 : Option Addr) (e2 m3 : Nat) (t2 : RoomIn W m2 m3 a2 l2.length e2 l2) (g3 : m3 ≤ W.heap.size) (k3 : m2 ≤ m3) (a3 : Option Addr) (e3 m4 : Nat) (t3 : RoomIn W m3 m4 a3 l3.length e3 l3) (g4 : m4 ≤ W.heap.size) (k4 : m3 ≤ m4), Q .normal { tmps := #[.agg #[.slice (some ⟨b0, 0, none⟩) l0.length c0, .slice (some ⟨b1, 0, none⟩) l1.length c1, .slice (some ⟨b2, 0, none⟩) l2.length c2, .slice (some ⟨b3, 0, none⟩) l3.length c3], .pointer (some ⟨w.heap.size, 0, none⟩), .pointer (some ⟨w.heap.size + 1, 0, none⟩), .slice (some ⟨z0, 0, none⟩) 0 0, .pointer (some ⟨w.heap.size, 0, none⟩), .slice (some ⟨b0, 0, none⟩) l0.length c0, .slice a0 l0.length e0, .slice (some ⟨z1, 0, none⟩) 0 0, .pointer (some ⟨w.heap.size, 1, none⟩), .slice (some ⟨b1, 0, none⟩) l1.length c1, .slice a1 l1.length e1, .slice (some ⟨z2, 0, none⟩) 0 0, .pointer (some ⟨w.heap.size, 2, none⟩), .slice (some ⟨b2, 0, none⟩) l2.length c2, .slice a2 l2.length e2, .slice (some ⟨z3, 0, none⟩) 0 0, .pointer (some ⟨w.heap.size, 3, none⟩), .slice (some ⟨b3, 0, none⟩) l3.length c3, .slice a3 l3.length e3, .agg #[.slice a0 l0.length e0, .slice a1 l1.length e1, .slice a2 l2.length e2, .slice a3 l3.length e3]], defers := [] } ((((W.setCell ⟨w.heap.size + 1, 0, none⟩ (.slice a0 l0.length e0)).setCell ⟨w.heap.size + 1, 1, none⟩ (.slice a1 l1.length e1)).setCell ⟨w.heap.size + 1, 2, none⟩ (.slice a2 l2.length e2)).setCell ⟨w.heap.size + 1, 3, none⟩ (.slice a3 l3.length e3)))
    (W : World) (hS : ownS w (.slice (some ⟨b0, 0, none⟩) l0.length c0) (.slice (some ⟨b1, 0, none⟩) l1.length c1) (.slice (some ⟨b2, 0, none⟩) l2.length c2) (.slice (some ⟨b3, 0, none⟩) l3.length c3) W) (z0 z1 : Nat) :
    wpAnyH Try.prog .any ownOps Q (ownS w (.slice (some ⟨b0, 0, none⟩) l0.length c0) (.slice (some ⟨b1, 0, none⟩) l1.length c1) (.slice (some ⟨b2, 0, none⟩) l2.length c2) (.slice (some ⟨b3, 0, none⟩) l3.length c3)) 8 #[true, true, true, false, true, true, true, false, false, true, true, false, false, true, true, false, false, false] { tmps := #[.agg #[.slice (some ⟨b0, 0, none⟩) l0.length c0, .slice (some ⟨b1, 0, none⟩) l1.length c1, .slice (some ⟨b2, 0, none⟩) l2.length c2, .slice (some ⟨b3, 0, none⟩) l3.length c3], .pointer (some ⟨w.heap.size, 0, none⟩), .pointer (some ⟨w.heap.size + 1, 0, none⟩), .slice (some ⟨z0, 0, none⟩) 0 0, .pointer (some ⟨w.heap.size, 0, none⟩), .slice (some ⟨b0, 0, none⟩) l0.length c0, undef, .slice (some ⟨z1, 0, none⟩) 0 0, .pointer (some ⟨w.heap.size, 1, none⟩), .slice (some ⟨b1, 0, none⟩) l1.length c1, undef, undef, .pointer (some ⟨w.heap.size, 2, none⟩), .slice (some ⟨b2, 0, none⟩) l2.length c2, undef, undef, .pointer (some ⟨w.heap.size, 3, none⟩), .slice (some ⟨b3, 0, none⟩) l3.length c3, undef, undef], defers := [] } W := by
  refine wpAnyH_ready (rs := [3, 8, 12]) (by kernel_rfl) (by simp) ?_
  refine AllReadyH.cons (o := ownOp3) rfl (fun K hK => ?_) ?_
  · refine step_fresh (by rfl) (Operand.tmp 3) (Operand.tmp 5) (by rfl) z0 b0 l0.length c0 l0 (by rfl) (by rfl) rfl (o0.below hS.1 o0.1) n0 ?_
    intro a0 e0 W' hr hb
    have hS' := ownS_keep hS hb
    refine hK.out _ _ hS' (fun _ => ?_)
    exact own_nd1_1 n0 n1 n2 n3 o0 o1 o2 o3 hQ W' hS' z0 z1  a0 e0 W'.heap.size (hr.mono (ownS_ge hS) (Nat.le_refl _)) (Nat.le_refl _) (Nat.le_trans (ownS_ge hS) hb.size)
  refine AllReadyH.cons (o := ownOp8) rfl (fun K hK => ?_) ?_
  · refine step_lit (by rfl) (by rfl) ?_
    intro z2 W' hb
    have hS' := ownS_keep hS hb
    refine hK.out _ _ hS' (fun _ => ?_)
    exact own_nd0_012 n0 n1 n2 n3 o0 o1 o2 o3 hQ W' hS' z0 z1 z2 
  refine AllReadyH.cons (o := ownOp12) rfl (fun K hK => ?_) ?_
  · refine step_lit (by rfl) (by rfl) ?_
    intro z3 W' hb
    have hS' := ownS_keep hS hb
    refine hK.out _ _ hS' (fun _ => ?_)
    exact own_nd0_013 n0 n1 n2 n3 o0 o1 o2 o3 hQ W' hS' z0 z1 z3 
  exact AllReadyH.nil

set_option maxRecDepth 20000 in
set_option maxHeartbeats 4000000 in
theorem own_nd0_02 {b0 b1 b2 b3 c0 c1 c2 c3 : Nat} {l0 l1 l2 l3 : List (Int × Int)} {w : World} {Q : Exit → Act → World → Prop} (n0 : l0.length ≤ 1048576) (n1 : l1.length ≤ 1048576) (n2 : l2.length ≤ 1048576) (n3 : l3.length ≤ 1048576) (o0 : Own w b0 l0.length l0 l0.length) (o1 : Own w b1 l1.length l1 l1.length) (o2 : Own w b2 l2.length l2 l2.length) (o3 : Own w b3 l3.length l3 l3.length)
    (hQ : ∀ (W : World) (hS : ownS w (.slice (some ⟨b0, 0, none⟩) l0.length c0) (.slice (some ⟨b1, 0, none⟩) l1.length c1) (.slice (some ⟨b2, 0, none⟩) l2.length c2) (.slice (some ⟨b3, 0, none⟩) l3.length c3) W) (z0 z1 z2 z3 : Nat) (a0 : Option Addr) (e0 m1 : Nat) (t0 : RoomIn W (w.heap.size + 2) m1 a0 l0.length e0 l0) (g1 : m1 ≤ W.heap.size) (k1 : (w.heap.size + 2) ≤ m1) (a1 : Option Addr) (e1 m2 : Nat) (t1 : RoomIn W m1 m2 a1 l1.length e1 l1) (g2 : m2 ≤ W.heap.size) (k2 : m1 ≤ m2) (a2 : Option Addr) (e2 m3 : Nat) (t2 : RoomIn W m2 m3 a2 l2.length e2 l2) (g3 : m3 ≤ W.heap.size) (k3 : m2 ≤ m3) (a3 : Option Addr) (e3 m4 : Nat) (t3 : RoomIn W m3 m4 a3 l3.length e3 l3) (g4 : m4 ≤ W.heap.size) (k4 : m3 ≤ m4), Q .normal { tmps := #[.agg #[.slice (some ⟨b0, 0, none⟩) l0.length c0, .slice (some ⟨b1, 0, none⟩) l1.length c1, .slice (some ⟨b2, 0, none⟩) l2.length c2, .slice (some ⟨b3, 0, none⟩) l3.length c3], .pointer (some ⟨w.heap.size, 0, none⟩), .pointer (some ⟨w.heap.size + 1, 0, none⟩), .slice (some ⟨z0, 0, none⟩) 0 0, .pointer (some ⟨w.heap.size, 0, none⟩), .slice (some ⟨b0, 0, none⟩) l0.length c0, .slice a0 l0.length e0, .slice (some ⟨z1, 0, none⟩) 0 0, .pointer (some ⟨w.heap.size, 1, none⟩), .slice (some ⟨b1, 0, none⟩) l1.length c1, .slice a1 l1.length e1, .slice (some ⟨z2, 0, none⟩) 0 0, .pointer (some ⟨w.heap.size, 2, none⟩), .slice (some ⟨b2, 0, none⟩) l2.length c2, .slice a2 l2.length e2, .slice (some ⟨z3, 0, none⟩) 0 0, .pointer (some ⟨w.heap.size, 3, none⟩), .slice (some ⟨b3, 0, none⟩) l3.length c3, .slice a3 l3.length e3, .agg #[.slice a0 l0.length e0, .slice a1 l1.length e1, .slice a2 l2.length e2, .slice a3 l3.length e3]], defers := [] } ((((W.setCell ⟨w.heap.size + 1, 0, none⟩ (.slice a0 l0.length e0)).setCell ⟨w.heap.size + 1, 1, none⟩ (.slice a1 l1.length e1)).setCell ⟨w.heap.size + 1, 2, none⟩ (.slice a2 l2.length e2)).setCell ⟨w.heap.size + 1, 3, none⟩ (.slice a3 l3.length e3)))
    (W : World) (hS : ownS w (.slice (some ⟨b0, 0, none⟩) l0.length c0) (.slice (some ⟨b1, 0, none⟩) l1.length c1) (.slice (some ⟨b2, 0, none⟩) l2.length c2) (.slice (some ⟨b3, 0, none⟩) l3.length c3) W) (z0 z2 : Nat) :
    wpAnyH Try.prog .any ownOps Q (ownS w (.slice (some ⟨b0, 0, none⟩) l0.length c0) (.slice (some ⟨b1, 0, none⟩) l1.length c1) (.slice (some ⟨b2, 0, none⟩) l2.length c2) (.slice (some ⟨b3, 0, none⟩) l3.length c3)) 8 #[true, true, true, false, false, true, true, false, true, true, true, false, false, true, true, false, false, false] { tmps := #[.agg #[.slice (some ⟨b0, 0, none⟩) l0.length c0, .slice (some ⟨b1, 0, none⟩) l1.length c1, .slice (some ⟨b2, 0, none⟩) l2.length c2, .slice (some ⟨b3, 0, none⟩) l3.length c3], .pointer (some ⟨w.heap.size, 0, none⟩), .pointer (some ⟨w.heap.size + 1, 0, none⟩), .slice (some ⟨z0, 0, none⟩) 0 0, .pointer (some ⟨w.heap.size, 0, none⟩), .slice (some ⟨b0, 0, none⟩) l0.length c0, undef, undef, .pointer (some ⟨w.heap.size, 1, none⟩), .slice (some ⟨b1, 0, none⟩) l1.length c1, undef, .slice (some ⟨z2, 0, none⟩) 0 0, .pointer (some ⟨w.heap.size, 2, none⟩), .slice (some ⟨b2, 0, none⟩) l2.length c2, undef, undef, .pointer (some ⟨w.heap.size, 3, none⟩), .slice (some ⟨b3, 0, none⟩) l3.length c3, undef, undef], defers := [] } W := by
  refine wpAnyH_ready (rs := [3, 4, 12]) (by kernel_rfl) (by simp) ?_
  refine AllReadyH.cons (o := ownOp3) rfl (fun K hK => ?_) ?_
  · refine step_fresh (by rfl) (Operand.tmp 3) (Operand.tmp 5) (by rfl) z0 b0 l0.length c0 l0 (by rfl) (by rfl) rfl (o0.below hS.1 o0.1) n0 ?_
    intro a0 e0 W' hr hb
    have hS' := ownS_keep hS hb
    refine hK.out _ _ hS' (fun _ => ?_)
    exact own_nd1_2 n0 n1 n2 n3 o0 o1 o2 o3 hQ W' hS' z0 z2  a0 e0 W'.heap.size (hr.mono (ownS_ge hS) (Nat.le_refl _)) (Nat.le_refl _) (Nat.le_trans (ownS_ge hS) hb.size)
  refine AllReadyH.cons (o := ownOp4) rfl (fun K hK => ?_) ?_
  · refine step_lit (by rfl) (by rfl) ?_
    intro z1 W' hb
    have hS' := ownS_keep hS hb
    refine hK.out _ _ hS' (fun _ => ?_)
    exact own_nd0_012 n0 n1 n2 n3 o0 o1 o2 o3 hQ W' hS' z0 z1 z2 
  refine AllReadyH.cons (o := ownOp12) rfl (fun K hK => ?_) ?_
  · refine step_lit (by rfl) (by rfl) ?_
    intro z3 W' hb
    have hS' := ownS_keep hS hb
    refine hK.out _ _ hS' (fun _ => ?_)
    exact own_nd0_023 n0 n1 n2 n3 o0 o1 o2 o3 hQ W' hS' z0 z2 z3 
  exact AllReadyH.nil

set_option maxRecDepth 20000 in
set_option maxHeartbeats 4000000 in
theorem own_nd0_03 {b0 b1 b2 b3 c0 c1 c2 c3 : Nat} {l0 l1 l2 l3 : List (Int × Int)} {w : World} {Q : Exit → Act → World → Prop} (n0 : l0.length ≤ 1048576) (n1 : l1.length ≤ 1048576) (n2 : l2.length ≤ 1048576) (n3 : l3.length ≤ 1048576) (o0 : Own w b0 l0.length l0 l0.length) (o1 : Own w b1 l1.length l1 l1.length) (o2 : Own w b2 l2.length l2 l2.length) (o3 : Own w b3 l3.length l3 l3.length)
    (hQ : ∀ (W : World) (hS : ownS w (.slice (some ⟨b0, 0, none⟩) l0.length c0) (.slice (some ⟨b1, 0, none⟩) l1.length c1) (.slice (some ⟨b2, 0, none⟩) l2.length c2) (.slice (some ⟨b3, 0, none⟩) l3.length c3) W) (z0 z1 z2 z3 : Nat) (a0 : Option Addr) (e0 m1 : Nat) (t0 : RoomIn W (w.heap.size + 2) m1 a0 l0.length e0 l0) (g1 : m1 ≤ W.heap.size) (k1 : (w.heap.size + 2) ≤ m1) (a1 : Option Addr) (e1 m2 : Nat) (t1 : RoomIn W m1 m2 a1 l1.length e1 l1) (g2 : m2 ≤ W.heap.size) (k2 : m1 ≤ m2) (a2 : Option Addr) (e2 m3 : Nat) (t2 : RoomIn W m2 m3 a2 l2.length e2 l2) (g3 : m3 ≤ W.heap.size) (k3 : m2 ≤ m3) (a3 : Option Addr) (e3 m4 : Nat) (t3 : RoomIn W m3 m4 a3 l3.length e3 l3) (g4 : m4 ≤ W.heap.size) (k4 : m3 ≤ m4), Q .normal { tmps := #[.agg #[.slice (some ⟨b0, 0, none⟩) l0.length c0, .slice (some ⟨b1, 0, none⟩) l1.length c1, .slice (some ⟨b2, 0, none⟩) l2.length c2, .slice (some ⟨b3, 0, none⟩) l3.length c3], .pointer (some ⟨w.heap.size, 0, none⟩), .pointer (some ⟨w.heap.size + 1, 0, none⟩), .slice (some ⟨z0, 0, none⟩) 0 0, .pointer (some ⟨w.heap.size, 0, none⟩), .slice (some ⟨b0, 0, none⟩) l0.length c0, .slice a0 l0.length e0, .slice (some ⟨z1, 0, none⟩) 0 0, .pointer (some ⟨w.heap.size, 1, none⟩), .slice (some ⟨b1, 0, none⟩) l1.length c1, .slice a1 l1.length e1, .slice (some ⟨z2, 0, none⟩) 0 0, .pointer (some ⟨w.heap.size, 2, none⟩), .slice (some ⟨b2, 0, none⟩) l2.length c2, .slice a2 l2.length e2, .slice (some ⟨z3, 0, none⟩) 0 0, .pointer (some ⟨w.heap.size, 3, none⟩), .slice (some ⟨b3, 0, none⟩) l3.length c3, .slice a3 l3.length e3, .agg #[.slice a0 l0.length e0, .slice a1 l1.length e1, .slice a2 l2.length e2, .slice a3 l3.length e3]], defers := [] } ((((W.setCell ⟨w.heap.size + 1, 0, none⟩ (.slice a0 l0.length e0)).setCell ⟨w.heap.size + 1, 1, none⟩ (.slice a1 l1.length e1)).setCell ⟨w.heap.size + 1, 2, none⟩ (.slice a2 l2.length e2)).setCell ⟨w.heap.size + 1, 3, none⟩ (.slice a3 l3.length e3)))
    (W : World) (hS : ownS w (.slice (some ⟨b0, 0, none⟩) l0.length c0) (.slice (some ⟨b1, 0, none⟩) l1.length c1) (.slice (some ⟨b2, 0, none⟩) l2.length c2) (.slice (some ⟨b3, 0, none⟩) l3.length c3) W) (z0 z3 : Nat) :
    wpAnyH Try.prog .any ownOps Q (ownS w (.slice (some ⟨b0, 0, none⟩) l0.length c0) (.slice (some ⟨b1, 0, none⟩) l1.length c1) (.slice (some ⟨b2, 0, none⟩) l2.length c2) (.slice (some ⟨b3, 0, none⟩) l3.length c3)) 8 #[true, true, true, false, false, true, true, false, false, true, true, false, true, true, true, false, false, false] { tmps := #[.agg #[.slice (some ⟨b0, 0, none⟩) l0.length c0, .slice (some ⟨b1, 0, none⟩) l1.length c1, .slice (some ⟨b2, 0, none⟩) l2.length c2, .slice (some ⟨b3, 0, none⟩) l3.length c3], .pointer (some ⟨w.heap.size, 0, none⟩), .pointer (some ⟨w.heap.size + 1, 0, none⟩), .slice (some ⟨z0, 0, none⟩) 0 0, .pointer (some ⟨w.heap.size, 0, none⟩), .slice (some ⟨b0, 0, none⟩) l0.length c0, undef, undef, .pointer (some ⟨w.heap.size, 1, none⟩), .slice (some ⟨b1, 0, none⟩) l1.length c1, undef, undef, .pointer (some ⟨w.heap.size, 2, none⟩), .slice (some ⟨b2, 0, none⟩) l2.length c2, undef, .slice (some ⟨z3, 0, none⟩) 0 0, .pointer (some ⟨w.heap.size, 3, none⟩), .slice (some ⟨b3, 0, none⟩) l3.length c3, undef, undef], defers := [] } W := by
  refine wpAnyH_ready (rs := [3, 4, 8]) (by kernel_rfl) (by simp) ?_
  refine AllReadyH.cons (o := ownOp3) rfl (fun K hK => ?_) ?_
  · refine step_fresh (by rfl) (Operand.tmp 3) (Operand.tmp 5) (by rfl) z0 b0 l0.length c0 l0 (by rfl) (by rfl) rfl (o0.below hS.1 o0.1) n0 ?_
    intro a0 e0 W' hr hb
    have hS' := ownS_keep hS hb
    refine hK.out _ _ hS' (fun _ => ?_)
    exact own_nd1_3 n0 n1 n2 n3 o0 o1 o2 o3 hQ W' hS' z0 z3  a0 e0 W'.heap.size (hr.mono (ownS_ge hS) (Nat.le_refl _)) (Nat.le_refl _) (Nat.le_trans (ownS_ge hS) hb.size)
  refine AllReadyH.cons (o := ownOp4) rfl (fun K hK => ?_) ?_
  · refine step_lit (by rfl) (by rfl) ?_
    intro z1 W' hb
    have hS' := ownS_keep hS hb
    refine hK.out _ _ hS' (fun _ => ?_)
    exact own_nd0_013 n0 n1 n2 n3 o0 o1 o2 o3 hQ W' hS' z0 z1 z3 
  refine AllReadyH.cons (o := ownOp8) rfl (fun K hK => ?_) ?_
  · refine step_lit (by rfl) (by rfl) ?_
    intro z2 W' hb
    have hS' := ownS_keep hS hb
    refine hK.out _ _ hS' (fun _ => ?_)
    exact own_nd0_023 n0 n1 n2 n3 o0 o1 o2 o3 hQ W' hS' z0 z2 z3 
  exact AllReadyH.nil

set_option maxRecDepth 20000 in
set_option maxHeartbeats 4000000 in
theorem own_nd0_12 {b0 b1 b2 b3 c0 c1 c2 c3 : Nat} {l0 l1 l2 l3 : List (Int × Int)} {w : World} {Q : Exit → Act → World → Prop} (n0 : l0.length ≤ 1048576) (n1 : l1.length ≤ 1048576) (n2 : l2.length ≤ 1048576) (n3 : l3.length ≤ 1048576) (o0 : Own w b0 l0.length l0 l0.length) (o1 : Own w b1 l1.length l1 l1.length) (o2 : Own w b2 l2.length l2 l2.length) (o3 : Own w b3 l3.length l3 l3.length)
    (hQ : ∀ (W : World) (hS : ownS w (.slice (some ⟨b0, 0, none⟩) l0.length c0) (.slice (some ⟨b1, 0, none⟩) l1.length c1) (.slice (some ⟨b2, 0, none⟩) l2.length c2) (.slice (some ⟨b3, 0, none⟩) l3.length c3) W) (z0 z1 z2 z3 : Nat) (a0 : Option Addr) (e0 m1 : Nat) (t0 : RoomIn W (w.heap.size + 2) m1 a0 l0.length e0 l0) (g1 : m1 ≤ W.heap.size) (k1 : (w.heap.size + 2) ≤ m1) (a1 : Option Addr) (e1 m2 : Nat) (t1 : RoomIn W m1 m2 a1 l1.length e1 l1) (g2 : m2 ≤ W.heap.size) (k2 : m1 ≤ m2) (a2 : Option Addr) (e2 m3 : Nat) (t2 : RoomIn W m2 m3 a2 l2.length e2 l2) (g3 : m3 ≤ W.heap.size) (k3 : m2 ≤ m3) (a3 : Option Addr) (e3 m4 : Nat) (t3 : RoomIn W m3 m4 a3 l3.length e3 l3) (g4 : m4 ≤ W.heap.size) (k4 : m3 ≤ m4), Q .normal { tmps := #[.agg #[.slice (some ⟨b0, 0, none⟩) l0.length c0, .slice (some ⟨b1, 0, none⟩) l1.length c1, .slice (some ⟨b2, 0, none⟩) l2.length c2, .slice (some ⟨b3, 0, none⟩) l3.length c3], .pointer (some ⟨w.heap.size, 0, none⟩), .pointer (some ⟨w.heap.size + 1, 0, none⟩), .slice (some ⟨z0, 0, none⟩) 0 0, .pointer (some ⟨w.heap.size, 0, none⟩), .slice (some ⟨b0, 0, none⟩) l0.length c0, .slice a0 l0.length e0, .slice (some ⟨z1, 0, none⟩) 0 0, .pointer (some ⟨w.heap.size, 1, none⟩), .slice (some ⟨b1, 0, none⟩) l1.length c1, .slice a1 l1.length e1, .slice (some ⟨z2, 0, none⟩) 0 0, .pointer (some ⟨w.heap.size, 2, none⟩), .slice (some ⟨b2, 0, none⟩) l2.length c2, .slice a2 l2.length e2, .slice (some ⟨z3, 0, none⟩) 0 0, .pointer (some ⟨w.heap.size, 3, none⟩), .slice (some ⟨b3, 0, none⟩) l3.length c3, .slice a3 l3.length e3, .agg #[.slice a0 l0.length e0, .slice a1 l1.length e1, .slice a2 l2.length e2, .slice a3 l3.length e3]], defers := [] } ((((W.setCell ⟨w.heap.size + 1, 0, none⟩ (.slice a0 l0.length e0)).setCell ⟨w.heap.size + 1, 1, none⟩ (.slice a1 l1.length e1)).setCell ⟨w.heap.size + 1, 2, none⟩ (.slice a2 l2.length e2)).setCell ⟨w.heap.size + 1, 3, none⟩ (.slice a3 l3.length e3)))
    (W : World) (hS : ownS w (.slice (some ⟨b0, 0, none⟩) l0.length c0) (.slice (some ⟨b1, 0, none⟩) l1.length c1) (.slice (some ⟨b2, 0, none⟩) l2.length c2) (.slice (some ⟨b3, 0, none⟩) l3.length c3) W) (z1 z2 : Nat) :
    wpAnyH Try.prog .any ownOps Q (ownS w (.slice (some ⟨b0, 0, none⟩) l0.length c0) (.slice (some ⟨b1, 0, none⟩) l1.length c1) (.slice (some ⟨b2, 0, none⟩) l2.length c2) (.slice (some ⟨b3, 0, none⟩) l3.length c3)) 8 #[false, true, true, false, true, true, true, false, true, true, true, false, false, true, true, false, false, false] { tmps := #[.agg #[.slice (some ⟨b0, 0, none⟩) l0.length c0, .slice (some ⟨b1, 0, none⟩) l1.length c1, .slice (some ⟨b2, 0, none⟩) l2.length c2, .slice (some ⟨b3, 0, none⟩) l3.length c3], .pointer (some ⟨w.heap.size, 0, none⟩), .pointer (some ⟨w.heap.size + 1, 0, none⟩), undef, .pointer (some ⟨w.heap.size, 0, none⟩), .slice (some ⟨b0, 0, none⟩) l0.length c0, undef, .slice (some ⟨z1, 0, none⟩) 0 0, .pointer (some ⟨w.heap.size, 1, none⟩), .slice (some ⟨b1, 0, none⟩) l1.length c1, undef, .slice (some ⟨z2, 0, none⟩) 0 0, .pointer (some ⟨w.heap.size, 2, none⟩), .slice (some ⟨b2, 0, none⟩) l2.length c2, undef, undef, .pointer (some ⟨w.heap.size, 3, none⟩), .slice (some ⟨b3, 0, none⟩) l3.length c3, undef, undef], defers := [] } W := by
  refine wpAnyH_ready (rs := [0, 12]) (by kernel_rfl) (by simp) ?_
  refine AllReadyH.cons (o := ownOp0) rfl (fun K hK => ?_) ?_
  · refine step_lit (by rfl) (by rfl) ?_
    intro z0 W' hb
    have hS' := ownS_keep hS hb
    refine hK.out _ _ hS' (fun _ => ?_)
    exact own_nd0_012 n0 n1 n2 n3 o0 o1 o2 o3 hQ W' hS' z0 z1 z2 
  refine AllReadyH.cons (o := ownOp12) rfl (fun K hK => ?_) ?_
  · refine step_lit (by rfl) (by rfl) ?_
    intro z3 W' hb
    have hS' := ownS_keep hS hb
    refine hK.out _ _ hS' (fun _ => ?_)
    exact own_nd0_123 n0 n1 n2 n3 o0 o1 o2 o3 hQ W' hS' z1 z2 z3 
  exact AllReadyH.nil

set_option maxRecDepth 20000 in
set_option maxHeartbeats 4000000 in
theorem own_nd0_13 {b0 b1 b2 b3 c0 c1 c2 c3 : Nat} {l0 l1 l2 l3 : List (Int × Int)} {w : World} {Q : Exit → Act → World → Prop} (n0 : l0.length ≤ 1048576) (n1 : l1.length ≤ 1048576) (n2 : l2.length ≤ 1048576) (n3 : l3.length ≤ 1048576) (o0 : Own w b0 l0.length l0 l0.length) (o1 : Own w b1 l1.length l1 l1.length) (o2 : Own w b2 l2.length l2 l2.length) (o3 : Own w b3 l3.length l3 l3.length)
    (hQ : ∀ (W : World) (hS : ownS w (.slice (some ⟨b0, 0, none⟩) l0.length c0) (.slice (some ⟨b1, 0, none⟩) l1.length c1) (.slice (some ⟨b2, 0, none⟩) l2.length c2) (.slice (some ⟨b3, 0, none⟩) l3.length c3) W) (z0 z1 z2 z3 : Nat) (a0 : Option Addr) (e0 m1 : Nat) (t0 : RoomIn W (w.heap.size + 2) m1 a0 l0.length e0 l0) (g1 : m1 ≤ W.heap.size) (k1 : (w.heap.size + 2) ≤ m1) (a1 : Option Addr) (e1 m2 : Nat) (t1 : RoomIn W m1 m2 a1 l1.length e1 l1) (g2 : m2 ≤ W.heap.size) (k2 : m1 ≤ m2) (a2 : Option Addr) (e2 m3 : Nat) (t2 : RoomIn W m2 m3 a2 l2.length e2 l2) (g3 : m3 ≤ W.heap.size) (k3 : m2 ≤ m3) (a3 : Option Addr) (e3 m4 : Nat) (t3 : RoomIn W m3 m4 a3 l3.length e3 l3) (g4 : m4 ≤ W.heap.size) (k4 : m3 ≤ m4), Q .normal { tmps := #[.agg #[.slice (some ⟨b0, 0, none⟩) l0.length c0, .slice (some ⟨b1, 0, none⟩) l1.length c1, .slice (some ⟨b2, 0, none⟩) l2.length c2, .slice (some ⟨b3, 0, none⟩) l3.length c3], .pointer (some ⟨w.heap.size, 0, none⟩), .pointer (some ⟨w.heap.size + 1, 0, none⟩), .slice (some ⟨z0, 0, none⟩) 0 0, .pointer (some ⟨w.heap.size, 0, none⟩), .slice (some ⟨b0, 0, none⟩) l0.length c0, .slice a0 l0.length e0, .slice (some ⟨z1, 0, none⟩) 0 0, .pointer (some ⟨w.heap.size, 1, none⟩), .slice (some ⟨b1, 0, none⟩) l1.length c1, .slice a1 l1.length e1, .slice (some ⟨z2, 0, none⟩) 0 0, .pointer (some ⟨w.heap.size, 2, none⟩), .slice (some ⟨b2, 0, none⟩) l2.length c2, .slice a2 l2.length e2, .slice (some ⟨z3, 0, none⟩) 0 0, .pointer (some ⟨w.heap.size, 3, none⟩), .slice (some ⟨b3, 0, none⟩) l3.length c3, .slice a3 l3.length e3, .agg #[.slice a0 l0.length e0, .slice a1 l1.length e1, .slice a2 l2.length e2, .slice a3 l3.length e3]], defers := [] } ((((W.setCell ⟨w.heap.size + 1, 0, none⟩ (.slice a0 l0.length e0)).setCell ⟨w.heap.size + 1, 1, none⟩ (.slice a1 l1.length e1)).setCell ⟨w.heap.size + 1, 2, none⟩ (.slice a2 l2.length e2)).setCell ⟨w.heap.size + 1, 3, none⟩ (.slice a3 l3.length e3)))
    (W : World) (hS : ownS w (.slice (some ⟨b0, 0, none⟩) l0.length c0) (.slice (some ⟨b1, 0, none⟩) l1.length c1) (.slice (some ⟨b2, 0, none⟩) l2.length c2) (.slice (some ⟨b3, 0, none⟩) l3.length c3) W) (z1 z3 : Nat) :
    wpAnyH Try.prog .any ownOps Q (ownS w (.slice (some ⟨b0, 0, none⟩) l0.length c0) (.slice (some ⟨b1, 0, none⟩) l1.length c1) (.slice (some ⟨b2, 0, none⟩) l2.length c2) (.slice (some ⟨b3, 0, none⟩) l3.length c3)) 8 #[false, true, true, false, true, true, true, false, false, true, true, false, true, true, true, false, false, false] { tmps := #[.agg #[.slice (some ⟨b0, 0, none⟩) l0.length c0, .slice (some ⟨b1, 0, none⟩) l1.length c1, .slice (some ⟨b2, 0, none⟩) l2.length c2, .slice (some ⟨b3, 0, none⟩) l3.length c3], .pointer (some ⟨w.heap.size, 0, none⟩), .pointer (some ⟨w.heap.size + 1, 0, none⟩), undef, .pointer (some ⟨w.heap.size, 0, none⟩), .slice (some ⟨b0, 0, none⟩) l0.length c0, undef, .slice (some ⟨z1, 0, none⟩) 0 0, .pointer (some ⟨w.heap.size, 1, none⟩), .slice (some ⟨b1, 0, none⟩) l1.length c1, undef, undef, .pointer (some ⟨w.heap.size, 2, none⟩), .slice (some ⟨b2, 0, none⟩) l2.length c2, undef, .slice (some ⟨z3, 0, none⟩) 0 0, .pointer (some ⟨w.heap.size, 3, none⟩), .slice (some ⟨b3, 0, none⟩) l3.length c3, undef, undef], defers := [] } W := by
  refine wpAnyH_ready (rs := [0, 8]) (by kernel_rfl) (by simp) ?_
  refine AllReadyH.cons (o := ownOp0) rfl (fun K hK => ?_) ?_
  · refine step_lit (by rfl) (by rfl) ?_
    intro z0 W' hb
    have hS' := ownS_keep hS hb
    refine hK.out _ _ hS' (fun _ => ?_)
    exact own_nd0_013 n0 n1 n2 n3 o0 o1 o2 o3 hQ W' hS' z0 z1 z3 
  refine AllReadyH.cons (o := ownOp8) rfl (fun K hK => ?_) ?_
  · refine step_lit (by rfl) (by rfl) ?_
    intro z2 W' hb
    have hS' := ownS_keep hS hb
    refine hK.out _ _ hS' (fun _ => ?_)
    exact own_nd0_123 n0 n1 n2 n3 o0 o1 o2 o3 hQ W' hS' z1 z2 z3 
  exact AllReadyH.nil

set_option maxRecDepth 20000 in
set_option maxHeartbeats 4000000 in
theorem own_nd0_23 {b0 b1 b2 b3 c0 c1 c2 c3 : Nat} {l0 l1 l2 l3 : List (Int × Int)} {w : World} {Q : Exit → Act → World → Prop} (n0 : l0.length ≤ 1048576) (n1 : l1.length ≤ 1048576) (n2 : l2.length ≤ 1048576) (n3 : l3.length ≤ 1048576) (o0 : Own w b0 l0.length l0 l0.length) (o1 : Own w b1 l1.length l1 l1.length) (o2 : Own w b2 l2.length l2 l2.length) (o3 : Own w b3 l3.length l3 l3.length)
    (hQ : ∀ (W : World) (hS : ownS w (.slice (some ⟨b0, 0, none⟩) l0.length c0) (.slice (some ⟨b1, 0, none⟩) l1.length c1) (.slice (some ⟨b2, 0, none⟩) l2.length c2) (.slice (some ⟨b3, 0, none⟩) l3.length c3) W) (z0 z1 z2 z3 : Nat) (a0 : Option Addr) (e0 m1 : Nat) (t0 : RoomIn W (w.heap.size + 2) m1 a0 l0.length e0 l0) (g1 : m1 ≤ W.heap.size) (k1 : (w.heap.size + 2) ≤ m1) (a1 : Option Addr) (e1 m2 : Nat) (t1 : RoomIn W m1 m2 a1 l1.length e1 l1) (g2 : m2 ≤ W.heap.size) (k2 : m1 ≤ m2) (a2 : Option Addr) (e2 m3 : Nat) (t2 : RoomIn W m2 m3 a2 l2.length e2 l2) (g3 : m3 ≤ W.heap.size) (k3 : m2 ≤ m3) (a3 : Option Addr) (e3 m4 : Nat) (t3 : RoomIn W m3 m4 a3 l3.length e3 l3) (g4 : m4 ≤ W.heap.size) (k4 : m3 ≤ m4), Q .normal { tmps := #[.agg #[.slice (some ⟨b0, 0, none⟩) l0.length c0, .slice (some ⟨b1, 0, none⟩) l1.length c1, .slice (some ⟨b2, 0, none⟩) l2.length c2, .slice (some ⟨b3, 0, none⟩) l3.length c3], .pointer (some ⟨w.heap.size, 0, none⟩), .pointer (some ⟨w.heap.size + 1, 0, none⟩), .slice (some ⟨z0, 0, none⟩) 0 0, .pointer (some ⟨w.heap.size, 0, none⟩), .slice (some ⟨b0, 0, none⟩) l0.length c0, .slice a0 l0.length e0, .slice (some ⟨z1, 0, none⟩) 0 0, .pointer (some ⟨w.heap.size, 1, none⟩), .slice (some ⟨b1, 0, none⟩) l1.length c1, .slice a1 l1.length e1, .slice (some ⟨z2, 0, none⟩) 0 0, .pointer (some ⟨w.heap.size, 2, none⟩), .slice (some ⟨b2, 0, none⟩) l2.length c2, .slice a2 l2.length e2, .slice (some ⟨z3, 0, none⟩) 0 0, .pointer (some ⟨w.heap.size, 3, none⟩), .slice (some ⟨b3, 0, none⟩) l3.length c3, .slice a3 l3.length e3, .agg #[.slice a0 l0.length e0, .slice a1 l1.length e1, .slice a2 l2.length e2, .slice a3 l3.length e3]], defers := [] } ((((W.setCell ⟨w.heap.size + 1, 0, none⟩ (.slice a0 l0.length e0)).setCell ⟨w.heap.size + 1, 1, none⟩ (.slice a1 l1.length e1)).setCell ⟨w.heap.size + 1, 2, none⟩ (.slice a2 l2.length e2)).setCell ⟨w.heap.size + 1, 3, none⟩ (.slice a3 l3.length e3)))
    (W : World) (hS : ownS w (.slice (some ⟨b0, 0, none⟩) l0.length c0) (.slice (some ⟨b1, 0, none⟩) l1.length c1) (.slice (some ⟨b2, 0, none⟩) l2.length c2) (.slice (some ⟨b3, 0, none⟩) l3.length c3) W) (z2 z3 : Nat) :
    wpAnyH Try.prog .any ownOps Q (ownS w (.slice (some ⟨b0, 0, none⟩) l0.length c0) (.slice (some ⟨b1, 0, none⟩) l1.length c1) (.slice (some ⟨b2, 0, none⟩) l2.length c2) (.slice (some ⟨b3, 0, none⟩) l3.length c3)) 8 #[false, true, true, false, false, true, true, false, true, true, true, false, true, true, true, false, false, false] { tmps := #[.agg #[.slice (some ⟨b0, 0, none⟩) l0.length c0, .slice (some ⟨b1, 0, none⟩) l1.length c1, .slice (some ⟨b2, 0, none⟩) l2.length c2, .slice (some ⟨b3, 0, none⟩) l3.length c3], .pointer (some ⟨w.heap.size, 0, none⟩), .pointer (some ⟨w.heap.size + 1, 0, none⟩), undef, .pointer (some ⟨w.heap.size, 0, none⟩), .slice (some ⟨b0, 0, none⟩) l0.length c0, undef, undef, .pointer (some ⟨w.heap.size, 1, none⟩), .slice (some ⟨b1, 0, none⟩) l1.length c1, undef, .slice (some ⟨z2, 0, none⟩) 0 0, .pointer (some ⟨w.heap.size, 2, none⟩), .slice (some ⟨b2, 0, none⟩) l2.length c2, undef, .slice (some ⟨z3, 0, none⟩) 0 0, .pointer (some ⟨w.heap.size, 3, none⟩), .slice (some ⟨b3, 0, none⟩) l3.length c3, undef, undef], defers := [] } W := by
  refine wpAnyH_ready (rs := [0, 4]) (by kernel_rfl) (by simp) ?_
  refine AllReadyH.cons (o := ownOp0) rfl (fun K hK => ?_) ?_
  · refine step_lit (by rfl) (by rfl) ?_
    intro z0 W' hb
    have hS' := ownS_keep hS hb
    refine hK.out _ _ hS' (fun _ => ?_)
    exact own_nd0_023 n0 n1 n2 n3 o0 o1 o2 o3 hQ W' hS' z0 z2 z3 
  refine AllReadyH.cons (o := ownOp4) rfl (fun K hK => ?_) ?_
  · refine step_lit (by rfl) (by rfl) ?_
    intro z1 W' hb
    have hS' := ownS_keep hS hb
    refine hK.out _ _ hS' (fun _ => ?_)
    exact own_nd0_123 n0 n1 n2 n3 o0 o1 o2 o3 hQ W' hS' z1 z2 z3 
  exact AllReadyH.nil

set_option maxRecDepth 20000 in
set_option maxHeartbeats 4000000 in
theorem own_nd0_0 {b0 b1 b2 b3 c0 c1 c2 c3 : Nat} {l0 l1 l2 l3 : List (Int × Int)} {w : World} {Q : Exit → Act → World → Prop} (n0 : l0.length ≤ 1048576) (n1 : l1.length ≤ 1048576) (n2 : l2.length ≤ 1048576) (n3 : l3.length ≤ 1048576) (o0 : Own w b0 l0.length l0 l0.length) (o1 : Own w b1 l1.length l1 l1.length) (o2 : Own w b2 l2.length l2 l2.length) (o3 : Own w b3 l3.length l3 l3.length)
    (hQ : ∀ (W : World) (hS : ownS w (.slice (some ⟨b0, 0, none⟩) l0.length c0) (.slice (some ⟨b1, 0, none⟩) l1.length c1) (.slice (some ⟨b2, 0, none⟩) l2.length c2) (.slice (some ⟨b3, 0, none⟩) l3.length c3) W) (z0 z1 z2 z3 : Nat) (a0 : Option Addr) (e0 m1 : Nat) (t0 : RoomIn W (w.heap.size + 2) m1 a0 l0.length e0 l0) (g1 : m1 ≤ W.heap.size) (k1 : (w.heap.size + 2) ≤ m1) (a1 : Option Addr) (e1 m2 : Nat) (t1 : RoomIn W m1 m2 a1 l1.length e1 l1) (g2 : m2 ≤ W.heap.size) (k2 : m1 ≤ m2) (a2 : Option Addr) (e2 m3 : Nat) (t2 : RoomIn W m2 m3 a2 l2.length e2 l2) (g3 : m3 ≤ W.heap.size) (k3 : m2 ≤ m3) (a3 : Option Addr) (e3 m4 : Nat) (t3 : RoomIn W m3 m4 a3 l3.length e3 l3) (g4 : m4 ≤ W.heap.size) (k4 : m3 ≤ m4), Q .normal { tmps := #[.agg #[.slice (some ⟨b0, 0, none⟩) l0.length c0, .slice (some ⟨b1, 0, none⟩) l1.length c1, .slice (some ⟨b2, 0, none⟩) l2.length c2, .slice (some ⟨b3, 0, none⟩) l3.length c3], .pointer (some ⟨w.heap.size, 0, none⟩), .pointer (some ⟨w.heap.size + 1, 0, none⟩), .slice (some ⟨z0, 0, none⟩) 0 0, .pointer (some ⟨w.heap.size, 0, none⟩), .slice (some ⟨b0, 0, none⟩) l0.length c0, .slice a0 l0.length e0, .slice (some ⟨z1, 0, none⟩) 0 0, .pointer (some ⟨w.heap.size, 1, none⟩), .slice (some ⟨b1, 0, none⟩) l1.length c1, .slice a1 l1.length e1, .slice (some ⟨z2, 0, none⟩) 0 0, .pointer (some ⟨w.heap.size, 2, none⟩), .slice (some ⟨b2, 0, none⟩) l2.length c2, .slice a2 l2.length e2, .slice (some ⟨z3, 0, none⟩) 0 0, .pointer (some ⟨w.heap.size, 3, none⟩), .slice (some ⟨b3, 0, none⟩) l3.length c3, .slice a3 l3.length e3, .agg #[.slice a0 l0.length e0, .slice a1 l1.length e1, .slice a2 l2.length e2, .slice a3 l3.length e3]], defers := [] } ((((W.setCell ⟨w.heap.size + 1, 0, none⟩ (.slice a0 l0.length e0)).setCell ⟨w.heap.size + 1, 1, none⟩ (.slice a1 l1.length e1)).setCell ⟨w.heap.size + 1, 2, none⟩ (.slice a2 l2.length e2)).setCell ⟨w.heap.size + 1, 3, none⟩ (.slice a3 l3.length e3)))
    (W : World) (hS : ownS w (.slice (some ⟨b0, 0, none⟩) l0.length c0) (.slice (some ⟨b1, 0, none⟩) l1.length c1) (.slice (some ⟨b2, 0, none⟩) l2.length c2) (.slice (some ⟨b3, 0, none⟩) l3.length c3) W) (z0 : Nat) :
    wpAnyH Try.prog .any ownOps Q (ownS w (.slice (some ⟨b0, 0, none⟩) l0.length c0) (.slice (some ⟨b1, 0, none⟩) l1.length c1) (.slice (some ⟨b2, 0, none⟩) l2.length c2) (.slice (some ⟨b3, 0, none⟩) l3.length c3)) 9 #[true, true, true, false, false, true, true, false, false, true, true, false, false, true, true, false, false, false] { tmps := #[.agg #[.slice (some ⟨b0, 0, none⟩) l0.length c0, .slice (some ⟨b1, 0, none⟩) l1.length c1, .slice (some ⟨b2, 0, none⟩) l2.length c2, .slice (some ⟨b3, 0, none⟩) l3.length c3], .pointer (some ⟨w.heap.size, 0, none⟩), .pointer (some ⟨w.heap.size + 1, 0, none⟩), .slice (some ⟨z0, 0, none⟩) 0 0, .pointer (some ⟨w.heap.size, 0, none⟩), .slice (some ⟨b0, 0, none⟩) l0.length c0, undef, undef, .pointer (some ⟨w.heap.size, 1, none⟩), .slice (some ⟨b1, 0, none⟩) l1.length c1, undef, undef, .pointer (some ⟨w.heap.size, 2, none⟩), .slice (some ⟨b2, 0, none⟩) l2.length c2, undef, undef, .pointer (some ⟨w.heap.size, 3, none⟩), .slice (some ⟨b3, 0, none⟩) l3.length c3, undef, undef], defers := [] } W := by
  refine wpAnyH_ready (rs := [3, 4, 8, 12]) (by kernel_rfl) (by simp) ?_
  refine AllReadyH.cons (o := ownOp3) rfl (fun K hK => ?_) ?_
  · refine step_fresh (by rfl) (Operand.tmp 3) (Operand.tmp 5) (by rfl) z0 b0 l0.length c0 l0 (by rfl) (by rfl) rfl (o0.below hS.1 o0.1) n0 ?_
    intro a0 e0 W' hr hb
    have hS' := ownS_keep hS hb
    refine hK.out _ _ hS' (fun _ => ?_)
    exact own_nd1_n n0 n1 n2 n3 o0 o1 o2 o3 hQ W' hS' z0  a0 e0 W'.heap.size (hr.mono (ownS_ge hS) (Nat.le_refl _)) (Nat.le_refl _) (Nat.le_trans (ownS_ge hS) hb.size)
  refine AllReadyH.cons (o := ownOp4) rfl (fun K hK => ?_) ?_
  · refine step_lit (by rfl) (by rfl) ?_
    intro z1 W' hb
    have hS' := ownS_keep hS hb
    refine hK.out _ _ hS' (fun _ => ?_)
    exact own_nd0_01 n0 n1 n2 n3 o0 o1 o2 o3 hQ W' hS' z0 z1 
  refine AllReadyH.cons (o := ownOp8) rfl (fun K hK => ?_) ?_
  · refine step_lit (by rfl) (by rfl) ?_
    intro z2 W' hb
    have hS' := ownS_keep hS hb
    refine hK.out _ _ hS' (fun _ => ?_)
    exact own_nd0_02 n0 n1 n2 n3 o0 o1 o2 o3 hQ W' hS' z0 z2 
  refine AllReadyH.cons (o := ownOp12) rfl (fun K hK => ?_) ?_
  · refine step_lit (by rfl) (by rfl) ?_
    intro z3 W' hb
    have hS' := ownS_keep hS hb
    refine hK.out _ _ hS' (fun _ => ?_)
    exact own_nd0_03 n0 n1 n2 n3 o0 o1 o2 o3 hQ W' hS' z0 z3 
  exact AllReadyH.nil

set_option maxRecDepth 20000 in
set_option maxHeartbeats 4000000 in
theorem own_nd0_1 {b0 b1 b2 b3 c0 c1 c2 c3 : Nat} {l0 l1 l2 l3 : List (Int × Int)} {w : World} {Q : Exit → Act → World → Prop} (n0 : l0.length ≤ 1048576) (n1 : l1.length ≤ 1048576) (n2 : l2.length ≤ 1048576) (n3 : l3.length ≤ 1048576) (o0 : Own w b0 l0.length l0 l0.length) (o1 : Own w b1 l1.length l1 l1.length) (o2 : Own w b2 l2.length l2 l2.length) (o3 : Own w b3 l3.length l3 l3.length)
    (hQ : ∀ (W : World) (hS : ownS w (.slice (some ⟨b0, 0, none⟩) l0.length c0) (.slice (some ⟨b1, 0, none⟩) l1.length c1) (.slice (some ⟨b2, 0, none⟩) l2.length c2) (.slice (some ⟨b3, 0, none⟩) l3.length c3) W) (z0 z1 z2 z3 : Nat) (a0 : Option Addr) (e0 m1 : Nat) (t0 : RoomIn W (w.heap.size + 2) m1 a0 l0.length e0 l0) (g1 : m1 ≤ W.heap.size) (k1 : (w.heap.size + 2) ≤ m1) (a1 : Option Addr) (e1 m2 : Nat) (t1 : RoomIn W m1 m2 a1 l1.length e1 l1) (g2 : m2 ≤ W.heap.size) (k2 : m1 ≤ m2) (a2 : Option Addr) (e2 m3 : Nat) (t2 : RoomIn W m2 m3 a2 l2.length e2 l2) (g3 : m3 ≤ W.heap.size) (k3 : m2 ≤ m3) (a3 : Option Addr) (e3 m4 : Nat) (t3 : RoomIn W m3 m4 a3 l3.length e3 l3) (g4 : m4 ≤ W.heap.size) (k4 : m3 ≤ m4), Q .normal { tmps := #[.agg #[.slice (some ⟨b0, 0, none⟩) l0.length c0, .slice (some ⟨b1, 0, none⟩) l1.length c1, .slice (some ⟨b2, 0, none⟩) l2.length c2, .slice (some ⟨b3, 0, none⟩) l3.length c3], .pointer (some ⟨w.heap.size, 0, none⟩), .pointer (some ⟨w.heap.size + 1, 0, none⟩), .slice (some ⟨z0, 0, none⟩) 0 0, .pointer (some ⟨w.heap.size, 0, none⟩), .slice (some ⟨b0, 0, none⟩) l0.length c0, .slice a0 l0.length e0, .slice (some ⟨z1, 0, none⟩) 0 0, .pointer (some ⟨w.heap.size, 1, none⟩), .slice (some ⟨b1, 0, none⟩) l1.length c1, .slice a1 l1.length e1, .slice (some ⟨z2, 0, none⟩) 0 0, .pointer (some ⟨w.heap.size, 2, none⟩), .slice (some ⟨b2, 0, none⟩) l2.length c2, .slice a2 l2.length e2, .slice (some ⟨z3, 0, none⟩) 0 0, .pointer (some ⟨w.heap.size, 3, none⟩), .slice (some ⟨b3, 0, none⟩) l3.length c3, .slice a3 l3.length e3, .agg #[.slice a0 l0.length e0, .slice a1 l1.length e1, .slice a2 l2.length e2, .slice a3 l3.length e3]], defers := [] } ((((W.setCell ⟨w.heap.size + 1, 0, none⟩ (.slice a0 l0.length e0)).setCell ⟨w.heap.size + 1, 1, none⟩ (.slice a1 l1.length e1)).setCell ⟨w.heap.size + 1, 2, none⟩ (.slice a2 l2.length e2)).setCell ⟨w.heap.size + 1, 3, none⟩ (.slice a3 l3.length e3)))
    (W : World) (hS : ownS w (.slice (some ⟨b0, 0, none⟩) l0.length c0) (.slice (some ⟨b1, 0, none⟩) l1.length c1) (.slice (some ⟨b2, 0, none⟩) l2.length c2) (.slice (some ⟨b3, 0, none⟩) l3.length c3) W) (z1 : Nat) :
    wpAnyH Try.prog .any ownOps Q (ownS w (.slice (some ⟨b0, 0, none⟩) l0.length c0) (.slice (some ⟨b1, 0, none⟩) l1.length c1) (.slice (some ⟨b2, 0, none⟩) l2.length c2) (.slice (some ⟨b3, 0, none⟩) l3.length c3)) 9 #[false, true, true, false, true, true, true, false, false, true, true, false, false, true, true, false, false, false] { tmps := #[.agg #[.slice (some ⟨b0, 0, none⟩) l0.length c0, .slice (some ⟨b1, 0, none⟩) l1.length c1, .slice (some ⟨b2, 0, none⟩) l2.length c2, .slice (some ⟨b3, 0, none⟩) l3.length c3], .pointer (some ⟨w.heap.size, 0, none⟩), .pointer (some ⟨w.heap.size + 1, 0, none⟩), undef, .pointer (some ⟨w.heap.size, 0, none⟩), .slice (some ⟨b0, 0, none⟩) l0.length c0, undef, .slice (some ⟨z1, 0, none⟩) 0 0, .pointer (some ⟨w.heap.size, 1, none⟩), .slice (some ⟨b1, 0, none⟩) l1.length c1, undef, undef, .pointer (some ⟨w.heap.size, 2, none⟩), .slice (some ⟨b2, 0, none⟩) l2.length c2, undef, undef, .pointer (some ⟨w.heap.size, 3, none⟩), .slice (some ⟨b3, 0, none⟩) l3.length c3, undef, undef], defers := [] } W := by
  refine wpAnyH_ready (rs := [0, 8, 12]) (by kernel_rfl) (by simp) ?_
  refine AllReadyH.cons (o := ownOp0) rfl (fun K hK => ?_) ?_
  · refine step_lit (by rfl) (by rfl) ?_
    intro z0 W' hb
    have hS' := ownS_keep hS hb
    refine hK.out _ _ hS' (fun _ => ?_)
    exact own_nd0_01 n0 n1 n2 n3 o0 o1 o2 o3 hQ W' hS' z0 z1 
  refine AllReadyH.cons (o := ownOp8) rfl (fun K hK => ?_) ?_
  · refine step_lit (by rfl) (by rfl) ?_
    intro z2 W' hb
    have hS' := ownS_keep hS hb
    refine hK.out _ _ hS' (fun _ => ?_)
    exact own_nd0_12 n0 n1 n2 n3 o0 o1 o2 o3 hQ W' hS' z1 z2 
  refine AllReadyH.cons (o := ownOp12) rfl (fun K hK => ?_) ?_
  · refine step_lit (by rfl) (by rfl) ?_
    intro z3 W' hb
    have hS' := ownS_keep hS hb
    refine hK.out _ _ hS' (fun _ => ?_)
    exact own_nd0_13 n0 n1 n2 n3 o0 o1 o2 o3 hQ W' hS' z1 z3 
  exact AllReadyH.nil

set_option maxRecDepth 20000 in
set_option maxHeartbeats 4000000 in
theorem own_nd0_2 {b0 b1 b2 b3 c0 c1 c2 c3 : Nat} {l0 l1 l2 l3 : List (Int × Int)} {w : World} {Q : Exit → Act → World → Prop} (n0 : l0.length ≤ 1048576) (n1 : l1.length ≤ 1048576) (n2 : l2.length ≤ 1048576) (n3 : l3.length ≤ 1048576) (o0 : Own w b0 l0.length l0 l0.length) (o1 : Own w b1 l1.length l1 l1.length) (o2 : Own w b2 l2.length l2 l2.length) (o3 : Own w b3 l3.length l3 l3.length)
    (hQ : ∀ (W : World) (hS : ownS w (.slice (some ⟨b0, 0, none⟩) l0.length c0) (.slice (some ⟨b1, 0, none⟩) l1.length c1) (.slice (some ⟨b2, 0, none⟩) l2.length c2) (.slice (some ⟨b3, 0, none⟩) l3.length c3) W) (z0 z1 z2 z3 : Nat) (a0 : Option Addr) (e0 m1 : Nat) (t0 : RoomIn W (w.heap.size + 2) m1 a0 l0.length e0 l0) (g1 : m1 ≤ W.heap.size) (k1 : (w.heap.size + 2) ≤ m1) (a1 : Option Addr) (e1 m2 : Nat) (t1 : RoomIn W m1 m2 a1 l1.length e1 l1) (g2 : m2 ≤ W.heap.size) (k2 : m1 ≤ m2) (a2 : Option Addr) (e2 m3 : Nat) (t2 : RoomIn W m2 m3 a2 l2.length e2 l2) (g3 : m3 ≤ W.heap.size) (k3 : m2 ≤ m3) (a3 : Option Addr) (e3 m4 : Nat) (t3 : RoomIn W m3 m4 a3 l3.length e3 l3) (g4 : m4 ≤ W.heap.size) (k4 : m3 ≤ m4), Q .normal { tmps := #[.agg #[.slice (some ⟨b0, 0, none⟩) l0.length c0, .slice (some ⟨b1, 0, none⟩) l1.length c1, .slice (some ⟨b2, 0, none⟩) l2.length c2, .slice (some ⟨b3, 0, none⟩) l3.length c3], .pointer (some ⟨w.heap.size, 0, none⟩), .pointer (some ⟨w.heap.size + 1, 0, none⟩), .slice (some ⟨z0, 0, none⟩) 0 0, .pointer (some ⟨w.heap.size, 0, none⟩), .slice (some ⟨b0, 0, none⟩) l0.length c0, .slice a0 l0.length e0, .slice (some ⟨z1, 0, none⟩) 0 0, .pointer (some ⟨w.heap.size, 1, none⟩), .slice (some ⟨b1, 0, none⟩) l1.length c1, .slice a1 l1.length e1, .slice (some ⟨z2, 0, none⟩) 0 0, .pointer (some ⟨w.heap.size, 2, none⟩), .slice (some ⟨b2, 0, none⟩) l2.length c2, .slice a2 l2.length e2, .slice (some ⟨z3, 0, none⟩) 0 0, .pointer (some ⟨w.heap.size, 3, none⟩), .slice (some ⟨b3, 0, none⟩) l3.length c3, .slice a3 l3.length e3, .agg #[.slice a0 l0.length e0, .slice a1 l1.length e1, .slice a2 l2.length e2, .slice a3 l3.length e3]], defers := [] } ((((W.setCell ⟨w.heap.size + 1, 0, none⟩ (.slice a0 l0.length e0)).setCell ⟨w.heap.size + 1, 1, none⟩ (.slice a1 l1.length e1)).setCell ⟨w.heap.size + 1, 2, none⟩ (.slice a2 l2.length e2)).setCell ⟨w.heap.size + 1, 3, none⟩ (.slice a3 l3.length e3)))
    (W : World) (hS : ownS w (.slice (some ⟨b0, 0, none⟩) l0.length c0) (.slice (some ⟨b1, 0, none⟩) l1.length c1) (.slice (some ⟨b2, 0, none⟩) l2.length c2) (.slice (some ⟨b3, 0, none⟩) l3.length c3) W) (z2 : Nat) :
    wpAnyH Try.prog .any ownOps Q (ownS w (.slice (some ⟨b0, 0, none⟩) l0.length c0) (.slice (some ⟨b1, 0, none⟩) l1.length c1) (.slice (some ⟨b2, 0, none⟩) l2.length c2) (.slice (some ⟨b3, 0, none⟩) l3.length c3)) 9 #[false, true, true, false, false, true, true, false, true, true, true, false, false, true, true, false, false, false] { tmps := #[.agg #[.slice (some ⟨b0, 0, none⟩) l0.length c0, .slice (some ⟨b1, 0, none⟩) l1.length c1, .slice (some ⟨b2, 0, none⟩) l2.length c2, .slice (some ⟨b3, 0, none⟩) l3.length c3], .pointer (some ⟨w.heap.size, 0, none⟩), .pointer (some ⟨w.heap.size + 1, 0, none⟩), undef, .pointer (some ⟨w.heap.size, 0, none⟩), .slice (some ⟨b0, 0, none⟩) l0.length c0, undef, undef, .pointer (some ⟨w.heap.size, 1, none⟩), .slice (some ⟨b1, 0, none⟩) l1.length c1, undef, .slice (some ⟨z2, 0, none⟩) 0 0, .pointer (some ⟨w.heap.size, 2, none⟩), .slice (some ⟨b2, 0, none⟩) l2.length c2, undef, undef, .pointer (some ⟨w.heap.size, 3, none⟩), .slice (some ⟨b3, 0, none⟩) l3.length c3, undef, undef], defers := [] } W := by
  refine wpAnyH_ready (rs := [0, 4, 12]) (by kernel_rfl) (by simp) ?_
  refine AllReadyH.cons (o := ownOp0) rfl (fun K hK => ?_) ?_
  · refine step_lit (by rfl) (by rfl) ?_
    intro z0 W' hb
    have hS' := ownS_keep hS hb
    refine hK.out _ _ hS' (fun _ => ?_)
    exact own_nd0_02 n0 n1 n2 n3 o0 o1 o2 o3 hQ W' hS' z0 z2 
  refine AllReadyH.cons (o := ownOp4) rfl (fun K hK => ?_) ?_
  · refine step_lit (by rfl) (by rfl) ?_
    intro z1 W' hb
    have hS' := ownS_keep hS hb
    refine hK.out _ _ hS' (fun _ => ?_)
    exact own_nd0_12 n0 n1 n2 n3 o0 o1 o2 o3 hQ W' hS' z1 z2 
  refine AllReadyH.cons (o := ownOp12) rfl (fun K hK => ?_) ?_
  · refine step_lit (by rfl) (by rfl) ?_
    intro z3 W' hb
    have hS' := ownS_keep hS hb
    refine hK.out _ _ hS' (fun _ => ?_)
    exact own_nd0_23 n0 n1 n2 n3 o0 o1 o2 o3 hQ W' hS' z2 z3 
  exact AllReadyH.nil

set_option maxRecDepth 20000 in
set_option maxHeartbeats 4000000 in
theorem own_nd0_3 {b0 b1 b2 b3 c0 c1 c2 c3 : Nat} {l0 l1 l2 l3 : List (Int × Int)} {w : World} {Q : Exit → Act → World → Prop} (n0 : l0.length ≤ 1048576) (n1 : l1.length ≤ 1048576) (n2 : l2.length ≤ 1048576) (n3 : l3.length ≤ 1048576) (o0 : Own w b0 l0.length l0 l0.length) (o1 : Own w b1 l1.length l1 l1.length) (o2 : Own w b2 l2.length l2 l2.length) (o3 : Own w b3 l3.length l3 l3.length)
    (hQ : ∀ (W : World) (hS : ownS w (.slice (some ⟨b0, 0, none⟩) l0.length c0) (.slice (some ⟨b1, 0, none⟩) l1.length c1) (.slice (some ⟨b2, 0, none⟩) l2.length c2) (.slice (some ⟨b3, 0, none⟩) l3.length c3) W) (z0 z1 z2 z3 : Nat) (a0 : Option Addr) (e0 m1 : Nat) (t0 : RoomIn W (w.heap.size + 2) m1 a0 l0.length e0 l0) (g1 : m1 ≤ W.heap.size) (k1 : (w.heap.size + 2) ≤ m1) (a1 : Option Addr) (e1 m2 : Nat) (t1 : RoomIn W m1 m2 a1 l1.length e1 l1) (g2 : m2 ≤ W.heap.size) (k2 : m1 ≤ m2) (a2 : Option Addr) (e2 m3 : Nat) (t2 : RoomIn W m2 m3 a2 l2.length e2 l2) (g3 : m3 ≤ W.heap.size) (k3 : m2 ≤ m3) (a3 : Option Addr) (e3 m4 : Nat) (t3 : RoomIn W m3 m4 a3 l3.length e3 l3) (g4 : m4 ≤ W.heap.size) (k4 : m3 ≤ m4), Q .normal { tmps := #[.agg #[.slice (some ⟨b0, 0, none⟩) l0.length c0, .slice (some ⟨b1, 0, none⟩) l1.length c1, .slice (some ⟨b2, 0, none⟩) l2.length c2, .slice (some ⟨b3, 0, none⟩) l3.length c3], .pointer (some ⟨w.heap.size, 0, none⟩), .pointer (some ⟨w.heap.size + 1, 0, none⟩), .slice (some ⟨z0, 0, none⟩) 0 0, .pointer (some ⟨w.heap.size, 0, none⟩), .slice (some ⟨b0, 0, none⟩) l0.length c0, .slice a0 l0.length e0, .slice (some ⟨z1, 0, none⟩) 0 0, .pointer (some ⟨w.heap.size, 1, none⟩), .slice (some ⟨b1, 0, none⟩) l1.length c1, .slice a1 l1.length e1, .slice (some ⟨z2, 0, none⟩) 0 0, .pointer (some ⟨w.heap.size, 2, none⟩), .slice (some ⟨b2, 0, none⟩) l2.length c2, .slice a2 l2.length e2, .slice (some ⟨z3, 0, none⟩) 0 0, .pointer (some ⟨w.heap.size, 3, none⟩), .slice (some ⟨b3, 0, none⟩) l3.length c3, .slice a3 l3.length e3, .agg #[.slice a0 l0.length e0, .slice a1 l1.length e1, .slice a2 l2.length e2, .slice a3 l3.length e3]], defers := [] } ((((W.setCell ⟨w.heap.size + 1, 0, none⟩ (.slice a0 l0.length e0)).setCell ⟨w.heap.size + 1, 1, none⟩ (.slice a1 l1.length e1)).setCell ⟨w.heap.size + 1, 2, none⟩ (.slice a2 l2.length e2)).setCell ⟨w.heap.size + 1, 3, none⟩ (.slice a3 l3.length e3)))
    (W : World) (hS : ownS w (.slice (some ⟨b0, 0, none⟩) l0.length c0) (.slice (some ⟨b1, 0, none⟩) l1.length c1) (.slice (some ⟨b2, 0, none⟩) l2.length c2) (.slice (some ⟨b3, 0, none⟩) l3.length c3) W) (z3 : Nat) :
    wpAnyH Try.prog .any ownOps Q (ownS w (.slice (some ⟨b0, 0, none⟩) l0.length c0) (.slice (some ⟨b1, 0, none⟩) l1.length c1) (.slice (some ⟨b2, 0, none⟩) l2.length c2) (.slice (some ⟨b3, 0, none⟩) l3.length c3)) 9 #[false, true, true, false, false, true, true, false, false, true, true, false, true, true, true, false, false, false] { tmps := #[.agg #[.slice (some ⟨b0, 0, none⟩) l0.length c0, .slice (some ⟨b1, 0, none⟩) l1.length c1, .slice (some ⟨b2, 0, none⟩) l2.length c2, .slice (some ⟨b3, 0, none⟩) l3.length c3], .pointer (some ⟨w.heap.size, 0, none⟩), .pointer (some ⟨w.heap.size + 1, 0, none⟩), undef, .pointer (some ⟨w.heap.size, 0, none⟩), .slice (some ⟨b0, 0, none⟩) l0.length c0, undef, undef, .pointer (some ⟨w.heap.size, 1, none⟩), .slice (some ⟨b1, 0, none⟩) l1.length c1, undef, undef, .pointer (some ⟨w.heap.size, 2, none⟩), .slice (some ⟨b2, 0, none⟩) l2.length c2, undef, .slice (some ⟨z3, 0, none⟩) 0 0, .pointer (some ⟨w.heap.size, 3, none⟩), .slice (some ⟨b3, 0, none⟩) l3.length c3, undef, undef], defers := [] } W := by
  refine wpAnyH_ready (rs := [0, 4, 8]) (by kernel_rfl) (by simp) ?_
  refine AllReadyH.cons (o := ownOp0) rfl (fun K hK => ?_) ?_
  · refine step_lit (by rfl) (by rfl) ?_
    intro z0 W' hb
    have hS' := ownS_keep hS hb
    refine hK.out _ _ hS' (fun _ => ?_)
    exact own_nd0_03 n0 n1 n2 n3 o0 o1 o2 o3 hQ W' hS' z0 z3 
  refine AllReadyH.cons (o := ownOp4) rfl (fun K hK => ?_) ?_
  · refine step_lit (by rfl) (by rfl) ?_
    intro z1 W' hb
    have hS' := ownS_keep hS hb
    refine hK.out _ _ hS' (fun _ => ?_)
    exact own_nd0_13 n0 n1 n2 n3 o0 o1 o2 o3 hQ W' hS' z1 z3 
  refine AllReadyH.cons (o := ownOp8) rfl (fun K hK => ?_) ?_
  · refine step_lit (by rfl) (by rfl) ?_
    intro z2 W' hb
    have hS' := ownS_keep hS hb
    refine hK.out _ _ hS' (fun _ => ?_)
    exact own_nd0_23 n0 n1 n2 n3 o0 o1 o2 o3 hQ W' hS' z2 z3 
  exact AllReadyH.nil

set_option maxRecDepth 20000 in
set_option maxHeartbeats 4000000 in
theorem own_nd0_n {b0 b1 b2 b3 c0 c1 c2 c3 : Nat} {l0 l1 l2 l3 : List (Int × Int)} {w : World} {Q : Exit → Act → World → Prop} (n0 : l0.length ≤ 1048576) (n1 : l1.length ≤ 1048576) (n2 : l2.length ≤ 1048576) (n3 : l3.length ≤ 1048576) (o0 : Own w b0 l0.length l0 l0.length) (o1 : Own w b1 l1.length l1 l1.length) (o2 : Own w b2 l2.length l2 l2.length) (o3 : Own w b3 l3.length l3 l3.length)
    (hQ : ∀ (W : World) (hS : ownS w (.slice (some ⟨b0, 0, none⟩) l0.length c0) (.slice (some ⟨b1, 0, none⟩) l1.length c1) (.slice (some ⟨b2, 0, none⟩) l2.length c2) (.slice (some ⟨b3, 0, none⟩) l3.length c3) W) (z0 z1 z2 z3 : Nat) (a0 : Option Addr) (e0 m1 : Nat) (t0 : RoomIn W (w.heap.size + 2) m1 a0 l0.length e0 l0) (g1 : m1 ≤ W.heap.size) (k1 : (w.heap.size + 2) ≤ m1) (a1 : Option Addr) (e1 m2 : Nat) (t1 : RoomIn W m1 m2 a1 l1.length e1 l1) (g2 : m2 ≤ W.heap.size) (k2 : m1 ≤ m2) (a2 : Option Addr) (e2 m3 : Nat) (t2 : RoomIn W m2 m3 a2 l2.length e2 l2) (g3 : m3 ≤ W.heap.size) (k3 : m2 ≤ m3) (a3 : Option Addr) (e3 m4 : Nat) (t3 : RoomIn W m3 m4 a3 l3.length e3 l3) (g4 : m4 ≤ W.heap.size) (k4 : m3 ≤ m4), Q .normal { tmps := #[.agg #[.slice (some ⟨b0, 0, none⟩) l0.length c0, .slice (some ⟨b1, 0, none⟩) l1.length c1, .slice (some ⟨b2, 0, none⟩) l2.length c2, .slice (some ⟨b3, 0, none⟩) l3.length c3], .pointer (some ⟨w.heap.size, 0, none⟩), .pointer (some ⟨w.heap.size + 1, 0, none⟩), .slice (some ⟨z0, 0, none⟩) 0 0, .pointer (some ⟨w.heap.size, 0, none⟩), .slice (some ⟨b0, 0, none⟩) l0.length c0, .slice a0 l0.length e0, .slice (some ⟨z1, 0, none⟩) 0 0, .pointer (some ⟨w.heap.size, 1, none⟩), .slice (some ⟨b1, 0, none⟩) l1.length c1, .slice a1 l1.length e1, .slice (some ⟨z2, 0, none⟩) 0 0, .pointer (some ⟨w.heap.size, 2, none⟩), .slice (some ⟨b2, 0, none⟩) l2.length c2, .slice a2 l2.length e2, .slice (some ⟨z3, 0, none⟩) 0 0, .pointer (some ⟨w.heap.size, 3, none⟩), .slice (some ⟨b3, 0, none⟩) l3.length c3, .slice a3 l3.length e3, .agg #[.slice a0 l0.length e0, .slice a1 l1.length e1, .slice a2 l2.length e2, .slice a3 l3.length e3]], defers := [] } ((((W.setCell ⟨w.heap.size + 1, 0, none⟩ (.slice a0 l0.length e0)).setCell ⟨w.heap.size + 1, 1, none⟩ (.slice a1 l1.length e1)).setCell ⟨w.heap.size + 1, 2, none⟩ (.slice a2 l2.length e2)).setCell ⟨w.heap.size + 1, 3, none⟩ (.slice a3 l3.length e3)))
    (W : World) (hS : ownS w (.slice (some ⟨b0, 0, none⟩) l0.length c0) (.slice (some ⟨b1, 0, none⟩) l1.length c1) (.slice (some ⟨b2, 0, none⟩) l2.length c2) (.slice (some ⟨b3, 0, none⟩) l3.length c3) W) :
    wpAnyH Try.prog .any ownOps Q (ownS w (.slice (some ⟨b0, 0, none⟩) l0.length c0) (.slice (some ⟨b1, 0, none⟩) l1.length c1) (.slice (some ⟨b2, 0, none⟩) l2.length c2) (.slice (some ⟨b3, 0, none⟩) l3.length c3)) 10 #[false, true, true, false, false, true, true, false, false, true, true, false, false, true, true, false, false, false] { tmps := #[.agg #[.slice (some ⟨b0, 0, none⟩) l0.length c0, .slice (some ⟨b1, 0, none⟩) l1.length c1, .slice (some ⟨b2, 0, none⟩) l2.length c2, .slice (some ⟨b3, 0, none⟩) l3.length c3], .pointer (some ⟨w.heap.size, 0, none⟩), .pointer (some ⟨w.heap.size + 1, 0, none⟩), undef, .pointer (some ⟨w.heap.size, 0, none⟩), .slice (some ⟨b0, 0, none⟩) l0.length c0, undef, undef, .pointer (some ⟨w.heap.size, 1, none⟩), .slice (some ⟨b1, 0, none⟩) l1.length c1, undef, undef, .pointer (some ⟨w.heap.size, 2, none⟩), .slice (some ⟨b2, 0, none⟩) l2.length c2, undef, undef, .pointer (some ⟨w.heap.size, 3, none⟩), .slice (some ⟨b3, 0, none⟩) l3.length c3, undef, undef], defers := [] } W := by
  refine wpAnyH_ready (rs := [0, 4, 8, 12]) (by kernel_rfl) (by simp) ?_
  refine AllReadyH.cons (o := ownOp0) rfl (fun K hK => ?_) ?_
  · refine step_lit (by rfl) (by rfl) ?_
    intro z0 W' hb
    have hS' := ownS_keep hS hb
    refine hK.out _ _ hS' (fun _ => ?_)
    exact own_nd0_0 n0 n1 n2 n3 o0 o1 o2 o3 hQ W' hS' z0 
  refine AllReadyH.cons (o := ownOp4) rfl (fun K hK => ?_) ?_
  · refine step_lit (by rfl) (by rfl) ?_
    intro z1 W' hb
    have hS' := ownS_keep hS hb
    refine hK.out _ _ hS' (fun _ => ?_)
    exact own_nd0_1 n0 n1 n2 n3 o0 o1 o2 o3 hQ W' hS' z1 
  refine AllReadyH.cons (o := ownOp8) rfl (fun K hK => ?_) ?_
  · refine step_lit (by rfl) (by rfl) ?_
    intro z2 W' hb
    have hS' := ownS_keep hS hb
    refine hK.out _ _ hS' (fun _ => ?_)
    exact own_nd0_2 n0 n1 n2 n3 o0 o1 o2 o3 hQ W' hS' z2 
  refine AllReadyH.cons (o := ownOp12) rfl (fun K hK => ?_) ?_
  · refine step_lit (by rfl) (by rfl) ?_
    intro z3 W' hb
    have hS' := ownS_keep hS hb
    refine hK.out _ _ hS' (fun _ => ?_)
    exact own_nd0_3 n0 n1 n2 n3 o0 o1 o2 o3 hQ W' hS' z3 
  exact AllReadyH.nil

set_option maxHeartbeats 4000000 in
theorem l1own_any (b0 b1 b2 b3 c0 c1 c2 c3 : Nat) (l0 l1 l2 l3 : List (Int × Int)) (w : World) (n0 : l0.length ≤ 1048576) (n1 : l1.length ≤ 1048576) (n2 : l2.length ≤ 1048576) (n3 : l3.length ≤ 1048576) (o0 : Own w b0 l0.length l0 l0.length) (o1 : Own w b1 l1.length l1 l1.length) (o2 : Own w b2 l2.length l2 l2.length) (o3 : Own w b3 l3.length l3 l3.length) :
    Calls Try.prog 150 #[.agg #[.slice (some ⟨b0, 0, none⟩) l0.length c0, .slice (some ⟨b1, 0, none⟩) l1.length c1, .slice (some ⟨b2, 0, none⟩) l2.length c2, .slice (some ⟨b3, 0, none⟩) l3.length c3]] w fun e w' => ∃ a0 a1 a2 a3 e0 e1 e2 e3 m1 m2 m3 m4,
      e = .returned (.agg #[.slice a0 l0.length e0, .slice a1 l1.length e1, .slice a2 l2.length e2, .slice a3 l3.length e3]) ∧
      RoomIn w' (w.heap.size + 2) m1 a0 l0.length e0 l0 ∧ RoomIn w' m1 m2 a1 l1.length e1 l1 ∧ RoomIn w' m2 m3 a2 l2.length e2 l2 ∧ RoomIn w' m3 m4 a3 l3.length e3 l3 ∧ w.heap.size + 2 ≤ m1 ∧ m1 ≤ m2 ∧ m2 ≤ m3 ∧ m3 ≤ m4 ∧ m4 ≤ w'.heap.size ∧ Below w.heap.size w w' := by
  have B0 := (Box.new w (.slice (some ⟨b0, 0, none⟩) l0.length c0) (.slice (some ⟨b1, 0, none⟩) l1.length c1) (.slice (some ⟨b2, 0, none⟩) l2.length c2) (.slice (some ⟨b3, 0, none⟩) l3.length c3) 28).below ((Below.refl _ _).alloc (Nat.le_refl _) (.cells #[.slice none 0 0, .slice none 0 0, .slice none 0 0, .slice none 0 0] 28)) (by simp)
  have R0 := Box.new (w.alloc (.cells #[.slice (some ⟨b0, 0, none⟩) l0.length c0, .slice (some ⟨b1, 0, none⟩) l1.length c1, .slice (some ⟨b2, 0, none⟩) l2.length c2, .slice (some ⟨b3, 0, none⟩) l3.length c3] 28)) (.slice none 0 0) (.slice none 0 0) (.slice none 0 0) (.slice none 0 0) 28
  have L0 : Below w.heap.size w ((w.alloc (.cells #[.slice (some ⟨b0, 0, none⟩) l0.length c0, .slice (some ⟨b1, 0, none⟩) l1.length c1, .slice (some ⟨b2, 0, none⟩) l2.length c2, .slice (some ⟨b3, 0, none⟩) l3.length c3] 28)).alloc (.cells #[.slice none 0 0, .slice none 0 0, .slice none 0 0, .slice none 0 0] 28)) := ((Below.refl _ _).alloc (Nat.le_refl _) _).alloc (by simp) _
  rw [World.size_alloc] at R0
  go_enter Try.func150, Try.ntmps150
  go_wp2
  generalize (w.alloc (.cells #[.slice (some ⟨b0, 0, none⟩) l0.length c0, .slice (some ⟨b1, 0, none⟩) l1.length c1, .slice (some ⟨b2, 0, none⟩) l2.length c2, .slice (some ⟨b3, 0, none⟩) l3.length c3] 28)).alloc (.cells #[.slice none 0 0, .slice none 0 0, .slice none 0 0, .slice none 0 0] 28) = W0 at *
  have O0 : Own W0.drew (w.heap.size + 1) 2 [] 0 := ⟨R0.lt, fun j hj => by
    have : j = 0 ∨ j = 1 ∨ j = 2 ∨ j = 3 := by omega
    rcases this with rfl | rfl | rfl | rfl
    · exact ⟨⟨_, R0.c0⟩, R0.f0⟩
    · exact ⟨⟨_, R0.c1⟩, R0.f1⟩
    · exact ⟨⟨_, R0.c2⟩, R0.f2⟩
    · exact ⟨⟨_, R0.c3⟩, R0.f3⟩, fun i hi => by omega⟩
  have hS0 : ownS w (.slice (some ⟨b0, 0, none⟩) l0.length c0) (.slice (some ⟨b1, 0, none⟩) l1.length c1) (.slice (some ⟨b2, 0, none⟩) l2.length c2) (.slice (some ⟨b3, 0, none⟩) l3.length c3) W0.drew := ⟨L0.drew, O0, B0.c0, B0.c1, B0.c2, B0.c3⟩
  clear R0 B0 O0
  refine wp_region_held_drew (S := ownS w (.slice (some ⟨b0, 0, none⟩) l0.length c0) (.slice (some ⟨b1, 0, none⟩) l1.length c1) (.slice (some ⟨b2, 0, none⟩) l2.length c2) (.slice (some ⟨b3, 0, none⟩) l3.length c3)) (by kernel_rfl) hS0 (fun _ => ?_)
  show wpAnyH Try.prog .any ownOps _ (ownS w (.slice (some ⟨b0, 0, none⟩) l0.length c0) (.slice (some ⟨b1, 0, none⟩) l1.length c1) (.slice (some ⟨b2, 0, none⟩) l2.length c2) (.slice (some ⟨b3, 0, none⟩) l3.length c3)) 18 #[false, false, false, false, false, false, false, false, false, false, false, false, false, false, false, false, false, false] { tmps := #[.agg #[.slice (some ⟨b0, 0, none⟩) l0.length c0, .slice (some ⟨b1, 0, none⟩) l1.length c1, .slice (some ⟨b2, 0, none⟩) l2.length c2, .slice (some ⟨b3, 0, none⟩) l3.length c3], .pointer (some ⟨w.heap.size, 0, none⟩), .pointer (some ⟨w.heap.size + 1, 0, none⟩), undef, undef, undef, undef, undef, undef, undef, undef, undef, undef, undef, undef, undef, undef, undef, undef, undef], defers := [] } W0.drew
  refine wpAnyH_take (i := 1) (oi := { dst := some 4, op := Op.fieldAddr 28 (Operand.tmp 1) 0, type := 0, pos := "l01_asn.go:137", after := #[], guard := none }) (v := .pointer (some ⟨w.heap.size, 0, none⟩)) rfl (by kernel_rfl) (by kernel_rfl) (by kernel_rfl) (fun _ _ _ h => h) (Or.inl ⟨by rfl, ?_⟩) hS0 ?_
  · intro W hSw; unfold ownS at hSw; obtain ⟨-, -, s0, s1, s2, s3⟩ := hSw; go_simp
  show wpAnyH Try.prog .any ownOps _ (ownS w (.slice (some ⟨b0, 0, none⟩) l0.length c0) (.slice (some ⟨b1, 0, none⟩) l1.length c1) (.slice (some ⟨b2, 0, none⟩) l2.length c2) (.slice (some ⟨b3, 0, none⟩) l3.length c3)) 17 #[false, true, false, false, false, false, false, false, false, false, false, false, false, false, false, false, false, false] { tmps := #[.agg #[.slice (some ⟨b0, 0, none⟩) l0.length c0, .slice (some ⟨b1, 0, none⟩) l1.length c1, .slice (some ⟨b2, 0, none⟩) l2.length c2, .slice (some ⟨b3, 0, none⟩) l3.length c3], .pointer (some ⟨w.heap.size, 0, none⟩), .pointer (some ⟨w.heap.size + 1, 0, none⟩), undef, .pointer (some ⟨w.heap.size, 0, none⟩), undef, undef, undef, undef, undef, undef, undef, undef, undef, undef, undef, undef, undef, undef, undef], defers := [] } W0.drew
  refine wpAnyH_take (i := 2) (oi := { dst := some 5, op := Op.load 26 (Operand.tmp 4), type := 26, pos := "l01_asn.go:137", after := #[{ on := 1, ground := Ground.data }], guard := none }) (v := .slice (some ⟨b0, 0, none⟩) l0.length c0) rfl (by kernel_rfl) (by kernel_rfl) (by kernel_rfl) (fun _ _ _ h => h) (Or.inl ⟨by rfl, ?_⟩) hS0 ?_
  · intro W hSw; unfold ownS at hSw; obtain ⟨-, -, s0, s1, s2, s3⟩ := hSw; go_simp
  show wpAnyH Try.prog .any ownOps _ (ownS w (.slice (some ⟨b0, 0, none⟩) l0.length c0) (.slice (some ⟨b1, 0, none⟩) l1.length c1) (.slice (some ⟨b2, 0, none⟩) l2.length c2) (.slice (some ⟨b3, 0, none⟩) l3.length c3)) 16 #[false, true, true, false, false, false, false, false, false, false, false, false, false, false, false, false, false, false] { tmps := #[.agg #[.slice (some ⟨b0, 0, none⟩) l0.length c0, .slice (some ⟨b1, 0, none⟩) l1.length c1, .slice (some ⟨b2, 0, none⟩) l2.length c2, .slice (some ⟨b3, 0, none⟩) l3.length c3], .pointer (some ⟨w.heap.size, 0, none⟩), .pointer (some ⟨w.heap.size + 1, 0, none⟩), undef, .pointer (some ⟨w.heap.size, 0, none⟩), .slice (some ⟨b0, 0, none⟩) l0.length c0, undef, undef, undef, undef, undef, undef, undef, undef, undef, undef, undef, undef, undef, undef], defers := [] } W0.drew
  refine wpAnyH_take (i := 5) (oi := { dst := some 8, op := Op.fieldAddr 28 (Operand.tmp 1) 1, type := 0, pos := "l01_asn.go:137", after := #[], guard := none }) (v := .pointer (some ⟨w.heap.size, 1, none⟩)) rfl (by kernel_rfl) (by kernel_rfl) (by kernel_rfl) (fun _ _ _ h => h) (Or.inl ⟨by rfl, ?_⟩) hS0 ?_
  · intro W hSw; unfold ownS at hSw; obtain ⟨-, -, s0, s1, s2, s3⟩ := hSw; go_simp
  show wpAnyH Try.prog .any ownOps _ (ownS w (.slice (some ⟨b0, 0, none⟩) l0.length c0) (.slice (some ⟨b1, 0, none⟩) l1.length c1) (.slice (some ⟨b2, 0, none⟩) l2.length c2) (.slice (some ⟨b3, 0, none⟩) l3.length c3)) 15 #[false, true, true, false, false, true, false, false, false, false, false, false, false, false, false, false, false, false] { tmps := #[.agg #[.slice (some ⟨b0, 0, none⟩) l0.length c0, .slice (some ⟨b1, 0, none⟩) l1.length c1, .slice (some ⟨b2, 0, none⟩) l2.length c2, .slice (some ⟨b3, 0, none⟩) l3.length c3], .pointer (some ⟨w.heap.size, 0, none⟩), .pointer (some ⟨w.heap.size + 1, 0, none⟩), undef, .pointer (some ⟨w.heap.size, 0, none⟩), .slice (some ⟨b0, 0, none⟩) l0.length c0, undef, undef, .pointer (some ⟨w.heap.size, 1, none⟩), undef, undef, undef, undef, undef, undef, undef, undef, undef, undef, undef], defers := [] } W0.drew
  refine wpAnyH_take (i := 6) (oi := { dst := some 9, op := Op.load 26 (Operand.tmp 8), type := 26, pos := "l01_asn.go:137", after := #[{ on := 5, ground := Ground.data }], guard := none }) (v := .slice (some ⟨b1, 0, none⟩) l1.length c1) rfl (by kernel_rfl) (by kernel_rfl) (by kernel_rfl) (fun _ _ _ h => h) (Or.inl ⟨by rfl, ?_⟩) hS0 ?_
  · intro W hSw; unfold ownS at hSw; obtain ⟨-, -, s0, s1, s2, s3⟩ := hSw; go_simp
  show wpAnyH Try.prog .any ownOps _ (ownS w (.slice (some ⟨b0, 0, none⟩) l0.length c0) (.slice (some ⟨b1, 0, none⟩) l1.length c1) (.slice (some ⟨b2, 0, none⟩) l2.length c2) (.slice (some ⟨b3, 0, none⟩) l3.length c3)) 14 #[false, true, true, false, false, true, true, false, false, false, false, false, false, false, false, false, false, false] { tmps := #[.agg #[.slice (some ⟨b0, 0, none⟩) l0.length c0, .slice (some ⟨b1, 0, none⟩) l1.length c1, .slice (some ⟨b2, 0, none⟩) l2.length c2, .slice (some ⟨b3, 0, none⟩) l3.length c3], .pointer (some ⟨w.heap.size, 0, none⟩), .pointer (some ⟨w.heap.size + 1, 0, none⟩), undef, .pointer (some ⟨w.heap.size, 0, none⟩), .slice (some ⟨b0, 0, none⟩) l0.length c0, undef, undef, .pointer (some ⟨w.heap.size, 1, none⟩), .slice (some ⟨b1, 0, none⟩) l1.length c1, undef, undef, undef, undef, undef, undef, undef, undef, undef, undef], defers := [] } W0.drew
  refine wpAnyH_take (i := 9) (oi := { dst := some 12, op := Op.fieldAddr 28 (Operand.tmp 1) 2, type := 0, pos := "l01_asn.go:137", after := #[], guard := none }) (v := .pointer (some ⟨w.heap.size, 2, none⟩)) rfl (by kernel_rfl) (by kernel_rfl) (by kernel_rfl) (fun _ _ _ h => h) (Or.inl ⟨by rfl, ?_⟩) hS0 ?_
  · intro W hSw; unfold ownS at hSw; obtain ⟨-, -, s0, s1, s2, s3⟩ := hSw; go_simp
  show wpAnyH Try.prog .any ownOps _ (ownS w (.slice (some ⟨b0, 0, none⟩) l0.length c0) (.slice (some ⟨b1, 0, none⟩) l1.length c1) (.slice (some ⟨b2, 0, none⟩) l2.length c2) (.slice (some ⟨b3, 0, none⟩) l3.length c3)) 13 #[false, true, true, false, false, true, true, false, false, true, false, false, false, false, false, false, false, false] { tmps := #[.agg #[.slice (some ⟨b0, 0, none⟩) l0.length c0, .slice (some ⟨b1, 0, none⟩) l1.length c1, .slice (some ⟨b2, 0, none⟩) l2.length c2, .slice (some ⟨b3, 0, none⟩) l3.length c3], .pointer (some ⟨w.heap.size, 0, none⟩), .pointer (some ⟨w.heap.size + 1, 0, none⟩), undef, .pointer (some ⟨w.heap.size, 0, none⟩), .slice (some ⟨b0, 0, none⟩) l0.length c0, undef, undef, .pointer (some ⟨w.heap.size, 1, none⟩), .slice (some ⟨b1, 0, none⟩) l1.length c1, undef, undef, .pointer (some ⟨w.heap.size, 2, none⟩), undef, undef, undef, undef, undef, undef, undef], defers := [] } W0.drew
  refine wpAnyH_take (i := 10) (oi := { dst := some 13, op := Op.load 26 (Operand.tmp 12), type := 26, pos := "l01_asn.go:137", after := #[{ on := 9, ground := Ground.data }], guard := none }) (v := .slice (some ⟨b2, 0, none⟩) l2.length c2) rfl (by kernel_rfl) (by kernel_rfl) (by kernel_rfl) (fun _ _ _ h => h) (Or.inl ⟨by rfl, ?_⟩) hS0 ?_
  · intro W hSw; unfold ownS at hSw; obtain ⟨-, -, s0, s1, s2, s3⟩ := hSw; go_simp
  show wpAnyH Try.prog .any ownOps _ (ownS w (.slice (some ⟨b0, 0, none⟩) l0.length c0) (.slice (some ⟨b1, 0, none⟩) l1.length c1) (.slice (some ⟨b2, 0, none⟩) l2.length c2) (.slice (some ⟨b3, 0, none⟩) l3.length c3)) 12 #[false, true, true, false, false, true, true, false, false, true, true, false, false, false, false, false, false, false] { tmps := #[.agg #[.slice (some ⟨b0, 0, none⟩) l0.length c0, .slice (some ⟨b1, 0, none⟩) l1.length c1, .slice (some ⟨b2, 0, none⟩) l2.length c2, .slice (some ⟨b3, 0, none⟩) l3.length c3], .pointer (some ⟨w.heap.size, 0, none⟩), .pointer (some ⟨w.heap.size + 1, 0, none⟩), undef, .pointer (some ⟨w.heap.size, 0, none⟩), .slice (some ⟨b0, 0, none⟩) l0.length c0, undef, undef, .pointer (some ⟨w.heap.size, 1, none⟩), .slice (some ⟨b1, 0, none⟩) l1.length c1, undef, undef, .pointer (some ⟨w.heap.size, 2, none⟩), .slice (some ⟨b2, 0, none⟩) l2.length c2, undef, undef, undef, undef, undef, undef], defers := [] } W0.drew
  refine wpAnyH_take (i := 13) (oi := { dst := some 16, op := Op.fieldAddr 28 (Operand.tmp 1) 3, type := 0, pos := "l01_asn.go:137", after := #[], guard := none }) (v := .pointer (some ⟨w.heap.size, 3, none⟩)) rfl (by kernel_rfl) (by kernel_rfl) (by kernel_rfl) (fun _ _ _ h => h) (Or.inl ⟨by rfl, ?_⟩) hS0 ?_
  · intro W hSw; unfold ownS at hSw; obtain ⟨-, -, s0, s1, s2, s3⟩ := hSw; go_simp
  show wpAnyH Try.prog .any ownOps _ (ownS w (.slice (some ⟨b0, 0, none⟩) l0.length c0) (.slice (some ⟨b1, 0, none⟩) l1.length c1) (.slice (some ⟨b2, 0, none⟩) l2.length c2) (.slice (some ⟨b3, 0, none⟩) l3.length c3)) 11 #[false, true, true, false, false, true, true, false, false, true, true, false, false, true, false, false, false, false] { tmps := #[.agg #[.slice (some ⟨b0, 0, none⟩) l0.length c0, .slice (some ⟨b1, 0, none⟩) l1.length c1, .slice (some ⟨b2, 0, none⟩) l2.length c2, .slice (some ⟨b3, 0, none⟩) l3.length c3], .pointer (some ⟨w.heap.size, 0, none⟩), .pointer (some ⟨w.heap.size + 1, 0, none⟩), undef, .pointer (some ⟨w.heap.size, 0, none⟩), .slice (some ⟨b0, 0, none⟩) l0.length c0, undef, undef, .pointer (some ⟨w.heap.size, 1, none⟩), .slice (some ⟨b1, 0, none⟩) l1.length c1, undef, undef, .pointer (some ⟨w.heap.size, 2, none⟩), .slice (some ⟨b2, 0, none⟩) l2.length c2, undef, undef, .pointer (some ⟨w.heap.size, 3, none⟩), undef, undef, undef], defers := [] } W0.drew
  refine wpAnyH_take (i := 14) (oi := { dst := some 17, op := Op.load 26 (Operand.tmp 16), type := 26, pos := "l01_asn.go:137", after := #[{ on := 13, ground := Ground.data }], guard := none }) (v := .slice (some ⟨b3, 0, none⟩) l3.length c3) rfl (by kernel_rfl) (by kernel_rfl) (by kernel_rfl) (fun _ _ _ h => h) (Or.inl ⟨by rfl, ?_⟩) hS0 ?_
  · intro W hSw; unfold ownS at hSw; obtain ⟨-, -, s0, s1, s2, s3⟩ := hSw; go_simp
  show wpAnyH Try.prog .any ownOps _ (ownS w (.slice (some ⟨b0, 0, none⟩) l0.length c0) (.slice (some ⟨b1, 0, none⟩) l1.length c1) (.slice (some ⟨b2, 0, none⟩) l2.length c2) (.slice (some ⟨b3, 0, none⟩) l3.length c3)) 10 #[false, true, true, false, false, true, true, false, false, true, true, false, false, true, true, false, false, false] { tmps := #[.agg #[.slice (some ⟨b0, 0, none⟩) l0.length c0, .slice (some ⟨b1, 0, none⟩) l1.length c1, .slice (some ⟨b2, 0, none⟩) l2.length c2, .slice (some ⟨b3, 0, none⟩) l3.length c3], .pointer (some ⟨w.heap.size, 0, none⟩), .pointer (some ⟨w.heap.size + 1, 0, none⟩), undef, .pointer (some ⟨w.heap.size, 0, none⟩), .slice (some ⟨b0, 0, none⟩) l0.length c0, undef, undef, .pointer (some ⟨w.heap.size, 1, none⟩), .slice (some ⟨b1, 0, none⟩) l1.length c1, undef, undef, .pointer (some ⟨w.heap.size, 2, none⟩), .slice (some ⟨b2, 0, none⟩) l2.length c2, undef, undef, .pointer (some ⟨w.heap.size, 3, none⟩), .slice (some ⟨b3, 0, none⟩) l3.length c3, undef, undef], defers := [] } W0.drew
  refine own_nd0_n n0 n1 n2 n3 o0 o1 o2 o3 ?_ _ hS0
  intro W hS z0 z1 z2 z3 a0 e0 m1 t0 g1 k1 a1 e1 m2 t1 g2 k2 a2 e2 m3 t2 g3 k3 a3 e3 m4 t3 g4 k4
  obtain ⟨F, FO⟩ := Own.fill hS.2.1 (.slice a0 l0.length e0) (.slice a1 l1.length e1) (.slice a2 l2.length e2) (.slice a3 l3.length e3)
  have hz := FO.size
  have hB := hS.1
  have q0 := t0.out FO (by omega); have q1 := t1.out FO (by omega); have q2 := t2.out FO (by omega); have q3 := t3.out FO (by omega)
  clear hS
  go_wp2
  have i0 := F.c0; have i1 := F.c1; have i2 := F.c2; have i3 := F.c3
  refine bodyPost_ret (v := .agg #[.slice a0 l0.length e0, .slice a1 l1.length e1, .slice a2 l2.length e2, .slice a3 l3.length e3]) ?_ rfl ⟨a0, a1, a2, a3, e0, e1, e2, e3, m1, m2, m3, m4, rfl, ?_, ?_, ?_, ?_, k1, k2, k3, k4, ?_, ?_⟩
  · simp [results, Try.results150, go_sem, i0, i1, i2, i3]
  · exact q0
  · exact q1
  · exact q2
  · exact q3
  · omega
  · exact hB.trans (FO.below (by omega) hB.size)

end Go.Proofs.Ytphchdjbhbmnbaa
namespace Go.Proofs.Ytphchdjbhbmnbaa
open Go.RowKit

def sw (t b x : Int) : Int := if x = t then b else x
def swapL (t b : Int) (l : List (Int × Int)) : List (Int × Int) := l.map fun p => (sw t b p.1, sw t b p.2)
theorem swapL_length (t b : Int) (l : List (Int × Int)) : (swapL t b l).length = l.length := by simp [swapL]
theorem swapL_step (t b : Int) {l : List (Int × Int)} {k : Nat} (hk : k < l.length) : swapL t b (l.take (k + 1)) = swapL t b (l.take k) ++ [(sw t b (l[k]?.getD (0, 0)).1, sw t b (l[k]?.getD (0, 0)).2)] := by
  unfold swapL
  rw [List.take_succ_eq_append_getElem hk, List.map_append]
  simp [hk]

set_option maxHeartbeats 1000000 in
theorem l1swap_any (b cap : Nat) (l : List (Int × Int)) (t by' : Int) (w : World) (hn : l.length ≤ 1048576) (ho : Own w b l.length l l.length) :
    Calls Try.prog 209 #[.slice (some ⟨b, 0, none⟩) l.length cap, .int .i64 t, .int .i64 by'] w fun e w' => ∃ a c, e = .returned (.slice a l.length c) ∧ RowIn w' w.heap.size w'.heap.size a l.length (swapL t by' l) ∧ Below w.heap.size w w' := by
  obtain ⟨i0, hi, hz0, hz1, hz2⟩ := Try.i57
  have HL : Hid (∀ k, k < l.length → swapL t by' (l.take (k + 1)) = swapL t by' (l.take k) ++ [(sw t by' (l[k]?.getD (0, 0)).1, sw t by' (l[k]?.getD (0, 0)).2)]) := fun k hk => swapL_step t by' hk
  have HE : Hid (swapL t by' (l.take l.length) = swapL t by' l) := by show swapL t by' (l.take l.length) = _; rw [List.take_of_length_le (Nat.le_refl _)]
  generalize hN : l.length = n at *
  clear hN
  go_enter Try.func209, Try.ntmps209
  go_wp2
  go_loopw [7, 8] (fun v i wr => ∃ k : Nat, k ≤ n ∧ i = .int .i64 k ∧ wr.ownsRow w.heap.size 69 2 v k (pc (swapL t by' (l.take k))) ∧ Below w.heap.size w wr) (fun _ i _ => n - (intOf i).toNat)
  case atStart => exact ⟨0, Nat.zero_le _, rfl, World.ownsRow_nil _ _ _ _, Below.refl _ _⟩
  case round =>
    obtain ⟨k, hk, rfl, hown, hbw⟩ := hrel
    by_cases hlt : k < n
    · have hc := (ho.below hbw ho.1).2.2 k hlt
      have hx := hc.1
      have hy := hc.2
      have hst := HL.out k hlt
      rw [List.getD_eq_getElem?_getD] at hx hy
      generalize (l[k]?.getD (0, 0)).1 = x at hx hst
      generalize (l[k]?.getD (0, 0)).2 = y at hy hst
      have HS : Hid (swapL t by' (l.take (k + 1)) = swapL t by' (l.take k) ++ [(sw t by' x, sw t by' y)]) := hst
      clear hst hc
      generalize swapL t by' (l.take k) = ls at *
      have e1 : (x == t) = true → sw t by' x = by' := by intro h; simp at h; simp [sw, h]
      have e2 : (x == t) = false → sw t by' x = x := by intro h; simp at h; simp [sw, h]
      have e3 : (y == t) = true → sw t by' y = by' := by intro h; simp at h; simp [sw, h]
      have e4 : (y == t) = false → sw t by' y = y := by intro h; simp at h; simp [sw, h]
      cases hxt : (x == t)
      all_goals cases hyt : (y == t)
      · have EX := e2 hxt
        have EY := e4 hyt
        replace HS : Hid (swapL t by' (l.take (k + 1)) = ls ++ [(x, y)]) := by have h := HS.out; rw [EX, EY] at h; exact h
        clear e1 e2 e3 e4 EX EY
        go_wp2_with (at_builtin; refine wpList_append_own _ rfl _ _ 26 rfl w.heap.size 69 i0 (.agg #[.int .i64 0, .int .i64 0]) 2 16 Try.underlying26 hi hz0 hz1 hz2 rfl (by decide) _ _ _ rfl ((hown.alloc _).alloc _) ⟨wr.heap.size + 1, 0, none⟩ 1 1 (pc [(x, y)]) rfl rfl ?c1 pc_one ?c3 ?c4 ?c5 ?_)
        case c1 =>
          intro j u hj
          match j, hj with
          | 0, hj => simp [pc] at hj; subst hj; simp [Addr.add]
          | 1, hj => simp [pc] at hj; subst hj; simp [Addr.add]
        case c3 => unfold maxLen; omega
        case c4 => omega
        case c5 => have := hbw.size; simp; omega
        · intro v' w4 hown' hg hiff
          have hb2 := ((hbw.alloc hbw.size _).alloc (Nat.le_trans hbw.size (by simp)) _).grown hg (Nat.le_trans hbw.size (by simp; omega)) (by intro q hq; exact (hown.lt q hq).1)
          rw [← pc_append] at hown'
          clear hiff hg hown hbw
          go_wp2
          first
            | (go_roundw
               case rel => exact ⟨k + 1, by omega, by go_num, by rw [HS.out]; exact hown', hb2⟩
               case measure => simp [intOf]; omega)
            | ((repeat apply Exists.intro); exact ⟨⟨k + 1, by omega, by go_num, by rw [HS.out]; exact hown', hb2⟩, rfl⟩)
      · have EX := e2 hxt
        have EY := e3 hyt
        replace HS : Hid (swapL t by' (l.take (k + 1)) = ls ++ [(x, by')]) := by have h := HS.out; rw [EX, EY] at h; exact h
        clear e1 e2 e3 e4 EX EY
        go_wp2_with (at_builtin; refine wpList_append_own _ rfl _ _ 26 rfl w.heap.size 69 i0 (.agg #[.int .i64 0, .int .i64 0]) 2 16 Try.underlying26 hi hz0 hz1 hz2 rfl (by decide) _ _ _ rfl ((hown.alloc _).alloc _) ⟨wr.heap.size + 1, 0, none⟩ 1 1 (pc [(x, by')]) rfl rfl ?c1 pc_one ?c3 ?c4 ?c5 ?_)
        case c1 =>
          intro j u hj
          match j, hj with
          | 0, hj => simp [pc] at hj; subst hj; simp [Addr.add]
          | 1, hj => simp [pc] at hj; subst hj; simp [Addr.add]
        case c3 => unfold maxLen; omega
        case c4 => omega
        case c5 => have := hbw.size; simp; omega
        · intro v' w4 hown' hg hiff
          have hb2 := ((hbw.alloc hbw.size _).alloc (Nat.le_trans hbw.size (by simp)) _).grown hg (Nat.le_trans hbw.size (by simp; omega)) (by intro q hq; exact (hown.lt q hq).1)
          rw [← pc_append] at hown'
          clear hiff hg hown hbw
          go_wp2
          first
            | (go_roundw
               case rel => exact ⟨k + 1, by omega, by go_num, by rw [HS.out]; exact hown', hb2⟩
               case measure => simp [intOf]; omega)
            | ((repeat apply Exists.intro); exact ⟨⟨k + 1, by omega, by go_num, by rw [HS.out]; exact hown', hb2⟩, rfl⟩)
      · have EX := e1 hxt
        have EY := e4 hyt
        replace HS : Hid (swapL t by' (l.take (k + 1)) = ls ++ [(by', y)]) := by have h := HS.out; rw [EX, EY] at h; exact h
        clear e1 e2 e3 e4 EX EY
        go_wp2_with (at_builtin; refine wpList_append_own _ rfl _ _ 26 rfl w.heap.size 69 i0 (.agg #[.int .i64 0, .int .i64 0]) 2 16 Try.underlying26 hi hz0 hz1 hz2 rfl (by decide) _ _ _ rfl ((hown.alloc _).alloc _) ⟨wr.heap.size + 1, 0, none⟩ 1 1 (pc [(by', y)]) rfl rfl ?c1 pc_one ?c3 ?c4 ?c5 ?_)
        case c1 =>
          intro j u hj
          match j, hj with
          | 0, hj => simp [pc] at hj; subst hj; simp [Addr.add]
          | 1, hj => simp [pc] at hj; subst hj; simp [Addr.add]
        case c3 => unfold maxLen; omega
        case c4 => omega
        case c5 => have := hbw.size; simp; omega
        · intro v' w4 hown' hg hiff
          have hb2 := ((hbw.alloc hbw.size _).alloc (Nat.le_trans hbw.size (by simp)) _).grown hg (Nat.le_trans hbw.size (by simp; omega)) (by intro q hq; exact (hown.lt q hq).1)
          rw [← pc_append] at hown'
          clear hiff hg hown hbw
          go_wp2
          first
            | (go_roundw
               case rel => exact ⟨k + 1, by omega, by go_num, by rw [HS.out]; exact hown', hb2⟩
               case measure => simp [intOf]; omega)
            | ((repeat apply Exists.intro); exact ⟨⟨k + 1, by omega, by go_num, by rw [HS.out]; exact hown', hb2⟩, rfl⟩)
      · have EX := e1 hxt
        have EY := e3 hyt
        replace HS : Hid (swapL t by' (l.take (k + 1)) = ls ++ [(by', by')]) := by have h := HS.out; rw [EX, EY] at h; exact h
        clear e1 e2 e3 e4 EX EY
        go_wp2_with (at_builtin; refine wpList_append_own _ rfl _ _ 26 rfl w.heap.size 69 i0 (.agg #[.int .i64 0, .int .i64 0]) 2 16 Try.underlying26 hi hz0 hz1 hz2 rfl (by decide) _ _ _ rfl ((hown.alloc _).alloc _) ⟨wr.heap.size + 1, 0, none⟩ 1 1 (pc [(by', by')]) rfl rfl ?c1 pc_one ?c3 ?c4 ?c5 ?_)
        case c1 =>
          intro j u hj
          match j, hj with
          | 0, hj => simp [pc] at hj; subst hj; simp [Addr.add]
          | 1, hj => simp [pc] at hj; subst hj; simp [Addr.add]
        case c3 => unfold maxLen; omega
        case c4 => omega
        case c5 => have := hbw.size; simp; omega
        · intro v' w4 hown' hg hiff
          have hb2 := ((hbw.alloc hbw.size _).alloc (Nat.le_trans hbw.size (by simp)) _).grown hg (Nat.le_trans hbw.size (by simp; omega)) (by intro q hq; exact (hown.lt q hq).1)
          rw [← pc_append] at hown'
          clear hiff hg hown hbw
          go_wp2
          first
            | (go_roundw
               case rel => exact ⟨k + 1, by omega, by go_num, by rw [HS.out]; exact hown', hb2⟩
               case measure => simp [intOf]; omega)
            | ((repeat apply Exists.intro); exact ⟨⟨k + 1, by omega, by go_num, by rw [HS.out]; exact hown', hb2⟩, rfl⟩)
    · obtain rfl : k = n := by omega
      rw [HE.out] at hown
      obtain ⟨a, c, rfl, hr⟩ := RowIn.ofOwns hown
      go_wp2
      go_ret
      exact ⟨a, c, rfl, hr, hbw⟩

end Go.Proofs.Ytphchdjbhbmnbaa
namespace Go.Proofs.Ytphchdjbhbmnbaa
open Go.RowKit

set_option maxHeartbeats 2000000 in
theorem l1subst_any (b0 b1 b2 b3 : Nat) (c0 c1 c2 c3 : Nat) (l0 l1 l2 l3 : List (Int × Int)) (t by' : Int) (w : World)
    (n0 : l0.length ≤ 1048576) (n1 : l1.length ≤ 1048576) (n2 : l2.length ≤ 1048576) (n3 : l3.length ≤ 1048576)
    (o0 : Own w b0 l0.length l0 l0.length) (o1 : Own w b1 l1.length l1 l1.length) (o2 : Own w b2 l2.length l2 l2.length) (o3 : Own w b3 l3.length l3 l3.length) :
    Calls Try.prog 131 #[.agg #[.slice (some ⟨b0, 0, none⟩) l0.length c0, .slice (some ⟨b1, 0, none⟩) l1.length c1, .slice (some ⟨b2, 0, none⟩) l2.length c2, .slice (some ⟨b3, 0, none⟩) l3.length c3], .int .i64 t, .int .i64 by'] w fun e w' => ∃ p0 p1 p2 p3 q0 q1 q2 q3,
      e = .returned (.agg #[.slice p0 l0.length q0, .slice p1 l1.length q1, .slice p2 l2.length q2, .slice p3 l3.length q3]) ∧
      RowIn w' w.heap.size w'.heap.size p0 l0.length (swapL t by' l0) ∧ RowIn w' w.heap.size w'.heap.size p1 l1.length (swapL t by' l1) ∧ RowIn w' w.heap.size w'.heap.size p2 l2.length (swapL t by' l2) ∧ RowIn w' w.heap.size w'.heap.size p3 l3.length (swapL t by' l3) ∧ Below w.heap.size w w' := by
  have B0 := (Box.new w (.slice (some ⟨b0, 0, none⟩) l0.length c0) (.slice (some ⟨b1, 0, none⟩) l1.length c1) (.slice (some ⟨b2, 0, none⟩) l2.length c2) (.slice (some ⟨b3, 0, none⟩) l3.length c3) 28).alloc (.cells #[.slice none 0 0, .slice none 0 0, .slice none 0 0, .slice none 0 0] 28)
  have R0 := Box.new (w.alloc (.cells #[.slice (some ⟨b0, 0, none⟩) l0.length c0, .slice (some ⟨b1, 0, none⟩) l1.length c1, .slice (some ⟨b2, 0, none⟩) l2.length c2, .slice (some ⟨b3, 0, none⟩) l3.length c3] 28)) (.slice none 0 0) (.slice none 0 0) (.slice none 0 0) (.slice none 0 0) 28
  have L0 : Below w.heap.size w ((w.alloc (.cells #[.slice (some ⟨b0, 0, none⟩) l0.length c0, .slice (some ⟨b1, 0, none⟩) l1.length c1, .slice (some ⟨b2, 0, none⟩) l2.length c2, .slice (some ⟨b3, 0, none⟩) l3.length c3] 28)).alloc (.cells #[.slice none 0 0, .slice none 0 0, .slice none 0 0, .slice none 0 0] 28)) := ((Below.refl _ _).alloc (Nat.le_refl _) _).alloc (by simp) _
  rw [World.size_alloc] at R0
  go_enter Try.func131, Try.ntmps131
  go_wp2
  have S0 : w.heap.size + 1 < ((w.alloc (.cells #[.slice (some ⟨b0, 0, none⟩) l0.length c0, .slice (some ⟨b1, 0, none⟩) l1.length c1, .slice (some ⟨b2, 0, none⟩) l2.length c2, .slice (some ⟨b3, 0, none⟩) l3.length c3] 28)).alloc (.cells #[.slice none 0 0, .slice none 0 0, .slice none 0 0, .slice none 0 0] 28)).heap.size := by simp
  generalize (w.alloc (.cells #[.slice (some ⟨b0, 0, none⟩) l0.length c0, .slice (some ⟨b1, 0, none⟩) l1.length c1, .slice (some ⟨b2, 0, none⟩) l2.length c2, .slice (some ⟨b3, 0, none⟩) l3.length c3] 28)).alloc (.cells #[.slice none 0 0, .slice none 0 0, .slice none 0 0, .slice none 0 0] 28) = W0 at *
  have x0 := B0.c0; have x1 := B0.c1; have x2 := B0.c2; have x3 := B0.c3
  go_region_held3 (fun w' => w'.cell? ⟨w.heap.size, 0, none⟩ = some (.slice (some ⟨b0, 0, none⟩) l0.length c0) ∧ w'.cell? ⟨w.heap.size, 1, none⟩ = some (.slice (some ⟨b1, 0, none⟩) l1.length c1) ∧ w'.cell? ⟨w.heap.size, 2, none⟩ = some (.slice (some ⟨b2, 0, none⟩) l2.length c2) ∧ w'.cell? ⟨w.heap.size, 3, none⟩ = some (.slice (some ⟨b3, 0, none⟩) l3.length c3)) (go_keep)
    (first
      | (go_at_call_of 209 (Value.slice (some ⟨b0, 0, none⟩) l0.length c0); refine (l1swap_any _ _ _ _ _ _ n0 ?_).mono ?_; exact o0.below L0.drew o0.1; rintro e u1 ⟨p0, q0, rfl, t0, h1⟩; have B1 := B0.drew.below h1 B0.lt; have y0 := B1.c0; have y1 := B1.c1; have y2 := B1.c2; have y3 := B1.c3)
      | (go_at_call_of 209 (Value.slice (some ⟨b1, 0, none⟩) l1.length c1); refine (l1swap_any _ _ _ _ _ _ n1 ?_).mono ?_; exact (o1.below L0.drew o1.1).below h1 (o1.below L0.drew o1.1).1; rintro e u2 ⟨p1, q1, rfl, t1, h2⟩; have B2 := B1.below h2 B1.lt; have z0 := B2.c0; have z1 := B2.c1; have z2 := B2.c2; have z3 := B2.c3)
      | (go_at_call_of 209 (Value.slice (some ⟨b2, 0, none⟩) l2.length c2); refine (l1swap_any _ _ _ _ _ _ n2 ?_).mono ?_; exact ((o2.below L0.drew o2.1).below h1 (o2.below L0.drew o2.1).1).below h2 ((o2.below L0.drew o2.1).below h1 (o2.below L0.drew o2.1).1).1; rintro e u3 ⟨p2, q2, rfl, t2, h3⟩; have B3 := B2.below h3 B2.lt; have m0 := B3.c0; have m1 := B3.c1; have m2 := B3.c2; have m3 := B3.c3)
      | (go_at_call_of 209 (Value.slice (some ⟨b3, 0, none⟩) l3.length c3); refine (l1swap_any _ _ _ _ _ _ n3 ?_).mono ?_; exact (((o3.below L0.drew o3.1).below h1 (o3.below L0.drew o3.1).1).below h2 ((o3.below L0.drew o3.1).below h1 (o3.below L0.drew o3.1).1).1).below h3 (((o3.below L0.drew o3.1).below h1 (o3.below L0.drew o3.1).1).below h2 ((o3.below L0.drew o3.1).below h1 (o3.below L0.drew o3.1).1).1).1; rintro e u4 ⟨p3, q3, rfl, t3, h4⟩; have B4 := B3.below h4 B3.lt; have v0 := B4.c0; have v1 := B4.c1; have v2 := B4.c2; have v3 := B4.c3; have R4 := (((R0.drew.below h1 R0.lt).below h2 (R0.drew.below h1 R0.lt).lt).below h3 ((R0.drew.below h1 R0.lt).below h2 (R0.drew.below h1 R0.lt).lt).lt).below h4 (((R0.drew.below h1 R0.lt).below h2 (R0.drew.below h1 R0.lt).lt).below h3 ((R0.drew.below h1 R0.lt).below h2 (R0.drew.below h1 R0.lt).lt).lt).lt; have j0 := R4.c0; have j1 := R4.c1; have j2 := R4.c2; have j3 := R4.c3; have g0 := R4.f0; have g1 := R4.f1; have g2 := R4.f2; have g3 := R4.f3))
  have M0 := L0.drew
  have M1 := M0.trans (h1.mono M0.size); have M2 := M1.trans (h2.mono M1.size); have M3 := M2.trans (h3.mono M2.size); have M4 := M3.trans (h4.mono M3.size)
  have z1' := h1.size; have z2' := h2.size; have z3' := h3.size; have z4' := h4.size
  rw [World.size_drew] at z1' t0
  replace t0 := ((t0.below h2 (Nat.le_refl _)).below h3 z2').below h4 (by omega)
  replace t1 := (t1.below h3 (Nat.le_refl _)).below h4 z3'
  replace t2 := t2.below h4 (Nat.le_refl _)
  obtain ⟨F, FO⟩ := R4.fill (.slice p0 l0.length q0) (.slice p1 l1.length q1) (.slice p2 l2.length q2) (.slice p3 l3.length q3)
  clear B0 B1 B2 B3 B4 R0 L0 M0 M1 M2 M3 h1 h2 h3 h4
  clear x0 x1 x2 x3 y0 y1 y2 y3 z0 z1 z2 z3 m0 m1 m2 m3 v0 v1 v2 v3
  go_wp2
  have i0 := F.c0; have i1 := F.c1; have i2 := F.c2; have i3 := F.c3
  refine bodyPost_ret (v := .agg #[.slice p0 l0.length q0, .slice p1 l1.length q1, .slice p2 l2.length q2, .slice p3 l3.length q3]) ?_ rfl ⟨p0, p1, p2, p3, q0, q1, q2, q3, rfl, ?_, ?_, ?_, ?_, ?_⟩
  · simp [results, Try.results131, go_sem, i0, i1, i2, i3]
  · exact (t0.out FO (by omega)).mono (by omega) (by have := FO.size; omega)
  · exact (t1.out FO (by omega)).mono (by omega) (by have := FO.size; omega)
  · exact (t2.out FO (by omega)).mono (by omega) (by have := FO.size; omega)
  · exact (t3.out FO (by omega)).mono (by omega) (by have := FO.size; omega)
  · exact M4.trans (FO.below (by omega) M4.size)

end Go.Proofs.Ytphchdjbhbmnbaa
namespace Go.Proofs.Ytphchdjbhbmnbaa
open Go.RowKit

def substB (l0 l1 l2 l3 : List (Int × Int)) (t b : Int) : Bool := asnB l0 l1 l2 l3 && tok t && tok b && !(t == 0)
/-- A list where it is so, else nothing. -/
def okL (ok : Bool) (l : List (Int × Int)) : List (Int × Int) := if ok = true then l else []

set_option maxHeartbeats 2000000 in
theorem sSubst_any (b0 b1 b2 b3 : Nat) (c0 c1 c2 c3 : Nat) (l0 l1 l2 l3 : List (Int × Int)) (t by' : Int) (w : World)
    (n0 : l0.length ≤ 1048576) (n1 : l1.length ≤ 1048576) (n2 : l2.length ≤ 1048576) (n3 : l3.length ≤ 1048576)
    (o0 : Own w b0 l0.length l0 l0.length) (o1 : Own w b1 l1.length l1 l1.length) (o2 : Own w b2 l2.length l2 l2.length) (o3 : Own w b3 l3.length l3 l3.length) :
    Calls Try.prog 40 #[.agg #[.slice (some ⟨b0, 0, none⟩) l0.length c0, .slice (some ⟨b1, 0, none⟩) l1.length c1, .slice (some ⟨b2, 0, none⟩) l2.length c2, .slice (some ⟨b3, 0, none⟩) l3.length c3], .int .i64 t, .int .i64 by'] w fun e w' => ∃ p0 p1 p2 p3 q0 q1 q2 q3, e = .returned (.tuple #[.agg #[.slice p0 (okL (substB l0 l1 l2 l3 t by') (swapL t by' l0)).length q0, .slice p1 (okL (substB l0 l1 l2 l3 t by') (swapL t by' l1)).length q1, .slice p2 (okL (substB l0 l1 l2 l3 t by') (swapL t by' l2)).length q2, .slice p3 (okL (substB l0 l1 l2 l3 t by') (swapL t by' l3)).length q3], .bool (substB l0 l1 l2 l3 t by')]) ∧ RowIn w' w.heap.size w'.heap.size p0 (okL (substB l0 l1 l2 l3 t by') (swapL t by' l0)).length (okL (substB l0 l1 l2 l3 t by') (swapL t by' l0)) ∧ RowIn w' w.heap.size w'.heap.size p1 (okL (substB l0 l1 l2 l3 t by') (swapL t by' l1)).length (okL (substB l0 l1 l2 l3 t by') (swapL t by' l1)) ∧ RowIn w' w.heap.size w'.heap.size p2 (okL (substB l0 l1 l2 l3 t by') (swapL t by' l2)).length (okL (substB l0 l1 l2 l3 t by') (swapL t by' l2)) ∧ RowIn w' w.heap.size w'.heap.size p3 (okL (substB l0 l1 l2 l3 t by') (swapL t by' l3)).length (okL (substB l0 l1 l2 l3 t by') (swapL t by' l3)) ∧ Below w.heap.size w w' := by
  have B0 := (Box.new w (.slice (some ⟨b0, 0, none⟩) l0.length c0) (.slice (some ⟨b1, 0, none⟩) l1.length c1) (.slice (some ⟨b2, 0, none⟩) l2.length c2) (.slice (some ⟨b3, 0, none⟩) l3.length c3) 28).alloc (.cells #[.slice none 0 0, .slice none 0 0, .slice none 0 0, .slice none 0 0] 28)
  have R0 := Box.new (w.alloc (.cells #[.slice (some ⟨b0, 0, none⟩) l0.length c0, .slice (some ⟨b1, 0, none⟩) l1.length c1, .slice (some ⟨b2, 0, none⟩) l2.length c2, .slice (some ⟨b3, 0, none⟩) l3.length c3] 28)) (.slice none 0 0) (.slice none 0 0) (.slice none 0 0) (.slice none 0 0) 28
  have L : Below w.heap.size w ((w.alloc (.cells #[.slice (some ⟨b0, 0, none⟩) l0.length c0, .slice (some ⟨b1, 0, none⟩) l1.length c1, .slice (some ⟨b2, 0, none⟩) l2.length c2, .slice (some ⟨b3, 0, none⟩) l3.length c3] 28)).alloc (.cells #[.slice none 0 0, .slice none 0 0, .slice none 0 0, .slice none 0 0] 28)) := ((Below.refl _ _).alloc (Nat.le_refl _) _).alloc (by simp) _
  rw [World.size_alloc] at R0
  go_enter Try.func40, Try.ntmps40
  go_wp2_with fail
  refine (sAsnOk_any _ _ _ _ _ _ _ _ _ _ _ _ _ n0 n1 n2 n3 (by exact (o0.below L o0.1).row) (by exact (o1.below L o1.1).row) (by exact (o2.below L o2.1).row) (by exact (o3.below L o3.1).row)).mono ?_
  rintro e w1 ⟨rfl, hb⟩
  have B1 := B0.below hb B0.lt; have R1 := R0.below hb R0.lt; have L1 := L.trans (hb.mono L.size)
  replace o0 := o0.below L1 o0.1; replace o1 := o1.below L1 o1.1; replace o2 := o2.below L1 o2.1; replace o3 := o3.below L1 o3.1
  clear hb B0 R0 L
  have x0 := B1.c0; have x1 := B1.c1; have x2 := B1.c2; have x3 := B1.c3
  have j0 := R1.c0; have j1 := R1.c1; have j2 := R1.c2; have j3 := R1.c3
  have g0 := R1.f0; have g1 := R1.f1; have g2 := R1.f2; have g3 := R1.f3
  cases h : asnB l0 l1 l2 l3
  · clear x0 x1 x2 x3
    have HE : Hid (substB l0 l1 l2 l3 t by' = false) := by show substB l0 l1 l2 l3 t by' = false; unfold substB; rw [h]; rfl
    obtain ⟨F, FO⟩ := R1.fill (.slice none 0 0) (.slice none 0 0) (.slice none 0 0) (.slice none 0 0)
    have i0 := F.c0; have i1 := F.c1; have i2 := F.c2; have i3 := F.c3
    go_wp2
    refine bodyPost_ret (v := .tuple #[.agg #[.slice none 0 0, .slice none 0 0, .slice none 0 0, .slice none 0 0], .bool false]) ?_ rfl ⟨none, none, none, none, 0, 0, 0, 0, by rw [HE.out]; rfl, ?_, ?_, ?_, ?_, ?_⟩
    · simp [results, Try.results40, go_sem, i0, i1, i2, i3]
    · rw [HE.out]; exact ⟨rfl, .inl rfl⟩
    · rw [HE.out]; exact ⟨rfl, .inl rfl⟩
    · rw [HE.out]; exact ⟨rfl, .inl rfl⟩
    · rw [HE.out]; exact ⟨rfl, .inl rfl⟩
    · exact L1.trans (FO.below (by omega) L1.size)
  go_wp2_with fail
  refine (sTermOk_any _ _).mono ?_
  rintro e wx ⟨rfl, rfl⟩
  cases ht : tok t
  · clear x0 x1 x2 x3
    have HE : Hid (substB l0 l1 l2 l3 t by' = false) := by show substB l0 l1 l2 l3 t by' = false; unfold substB; rw [h, ht]; rfl
    obtain ⟨F, FO⟩ := R1.fill (.slice none 0 0) (.slice none 0 0) (.slice none 0 0) (.slice none 0 0)
    have i0 := F.c0; have i1 := F.c1; have i2 := F.c2; have i3 := F.c3
    go_wp2
    refine bodyPost_ret (v := .tuple #[.agg #[.slice none 0 0, .slice none 0 0, .slice none 0 0, .slice none 0 0], .bool false]) ?_ rfl ⟨none, none, none, none, 0, 0, 0, 0, by rw [HE.out]; rfl, ?_, ?_, ?_, ?_, ?_⟩
    · simp [results, Try.results40, go_sem, i0, i1, i2, i3]
    · rw [HE.out]; exact ⟨rfl, .inl rfl⟩
    · rw [HE.out]; exact ⟨rfl, .inl rfl⟩
    · rw [HE.out]; exact ⟨rfl, .inl rfl⟩
    · rw [HE.out]; exact ⟨rfl, .inl rfl⟩
    · exact L1.trans (FO.below (by omega) L1.size)
  go_wp2_with fail
  refine (sTermOk_any _ _).mono ?_
  rintro e wx ⟨rfl, rfl⟩
  cases hb : tok by'
  · clear x0 x1 x2 x3
    have HE : Hid (substB l0 l1 l2 l3 t by' = false) := by show substB l0 l1 l2 l3 t by' = false; unfold substB; rw [h, ht, hb]; rfl
    obtain ⟨F, FO⟩ := R1.fill (.slice none 0 0) (.slice none 0 0) (.slice none 0 0) (.slice none 0 0)
    have i0 := F.c0; have i1 := F.c1; have i2 := F.c2; have i3 := F.c3
    go_wp2
    refine bodyPost_ret (v := .tuple #[.agg #[.slice none 0 0, .slice none 0 0, .slice none 0 0, .slice none 0 0], .bool false]) ?_ rfl ⟨none, none, none, none, 0, 0, 0, 0, by rw [HE.out]; rfl, ?_, ?_, ?_, ?_, ?_⟩
    · simp [results, Try.results40, go_sem, i0, i1, i2, i3]
    · rw [HE.out]; exact ⟨rfl, .inl rfl⟩
    · rw [HE.out]; exact ⟨rfl, .inl rfl⟩
    · rw [HE.out]; exact ⟨rfl, .inl rfl⟩
    · rw [HE.out]; exact ⟨rfl, .inl rfl⟩
    · exact L1.trans (FO.below (by omega) L1.size)
  cases hz : (t == 0)
  rotate_left
  · clear x0 x1 x2 x3
    have HE : Hid (substB l0 l1 l2 l3 t by' = false) := by show substB l0 l1 l2 l3 t by' = false; unfold substB; rw [h, ht, hb, hz]; rfl
    obtain ⟨F, FO⟩ := R1.fill (.slice none 0 0) (.slice none 0 0) (.slice none 0 0) (.slice none 0 0)
    have i0 := F.c0; have i1 := F.c1; have i2 := F.c2; have i3 := F.c3
    go_wp2
    refine bodyPost_ret (v := .tuple #[.agg #[.slice none 0 0, .slice none 0 0, .slice none 0 0, .slice none 0 0], .bool false]) ?_ rfl ⟨none, none, none, none, 0, 0, 0, 0, by rw [HE.out]; rfl, ?_, ?_, ?_, ?_, ?_⟩
    · simp [results, Try.results40, go_sem, i0, i1, i2, i3]
    · rw [HE.out]; exact ⟨rfl, .inl rfl⟩
    · rw [HE.out]; exact ⟨rfl, .inl rfl⟩
    · rw [HE.out]; exact ⟨rfl, .inl rfl⟩
    · rw [HE.out]; exact ⟨rfl, .inl rfl⟩
    · exact L1.trans (FO.below (by omega) L1.size)
  have HE : Hid (substB l0 l1 l2 l3 t by' = true) := by show substB l0 l1 l2 l3 t by' = true; unfold substB; rw [h, ht, hb, hz]; rfl
  clear h ht hb
  go_wp2_with fail
  refine (l1subst_any _ _ _ _ _ _ _ _ _ _ _ _ _ _ _ n0 n1 n2 n3 (by exact o0) (by exact o1) (by exact o2) (by exact o3)).mono ?_
  rintro e w2 ⟨p0, p1, p2, p3, q0, q1, q2, q3, rfl, t0, t1, t2, t3, hb⟩
  have R2 := R1.below hb R1.lt
  have L2 := L1.trans (hb.mono L1.size)
  have S1 := R1.lt
  clear hb L1 B1 R1 x0 x1 x2 x3 o0 o1 o2 o3 hz j0 j1 j2 j3 g0 g1 g2 g3
  obtain ⟨F, FO⟩ := R2.fill (.slice p0 l0.length q0) (.slice p1 l1.length q1) (.slice p2 l2.length q2) (.slice p3 l3.length q3)
  have j0 := R2.c0; have j1 := R2.c1; have j2 := R2.c2; have j3 := R2.c3
  have g0 := R2.f0; have g1 := R2.f1; have g2 := R2.f2; have g3 := R2.f3
  go_wp2
  have i0 := F.c0; have i1 := F.c1; have i2 := F.c2; have i3 := F.c3
  have e0 := swapL_length t by' l0; have e1 := swapL_length t by' l1; have e2 := swapL_length t by' l2; have e3 := swapL_length t by' l3
  refine bodyPost_ret (v := .tuple #[.agg #[.slice p0 l0.length q0, .slice p1 l1.length q1, .slice p2 l2.length q2, .slice p3 l3.length q3], .bool true]) ?_ rfl ⟨p0, p1, p2, p3, q0, q1, q2, q3, by rw [HE.out]; simp only [okL, if_pos, e0, e1, e2, e3], ?_, ?_, ?_, ?_, ?_⟩
  · simp [results, Try.results40, go_sem, i0, i1, i2, i3]
  · rw [HE.out]; simp only [okL, if_pos, e0]; exact (t0.out FO (by omega)).mono (by have := L2.size; omega) (by have := FO.size; omega)
  · rw [HE.out]; simp only [okL, if_pos, e1]; exact (t1.out FO (by omega)).mono (by have := L2.size; omega) (by have := FO.size; omega)
  · rw [HE.out]; simp only [okL, if_pos, e2]; exact (t2.out FO (by omega)).mono (by have := L2.size; omega) (by have := FO.size; omega)
  · rw [HE.out]; simp only [okL, if_pos, e3]; exact (t3.out FO (by omega)).mono (by have := L2.size; omega) (by have := FO.size; omega)
  · exact L2.trans (FO.below (by omega) L2.size)

end Go.Proofs.Ytphchdjbhbmnbaa
namespace Go.Proofs.Ytphchdjbhbmnbaa
open Go.RowKit

/-- The list of a kind. -/
def kindL (l0 l1 l2 l3 : List (Int × Int)) (k : Int) : List (Int × Int) := if k = 0 then l0 else if k = 1 then l1 else if k = 2 then l2 else l3
def kindB (b0 b1 b2 b3 : Nat) (k : Int) : Nat := if k = 0 then b0 else if k = 1 then b1 else if k = 2 then b2 else b3

set_option maxHeartbeats 1000000 in
theorem l1kind_any (b0 b1 b2 b3 : Nat) (c0 c1 c2 c3 : Nat) (l0 l1 l2 l3 : List (Int × Int)) (k : Int) (w : World) (h0 : 0 ≤ k) (h3 : k ≤ 3) :
    Calls Try.prog 142 #[.agg #[.slice (some ⟨b0, 0, none⟩) l0.length c0, .slice (some ⟨b1, 0, none⟩) l1.length c1, .slice (some ⟨b2, 0, none⟩) l2.length c2, .slice (some ⟨b3, 0, none⟩) l3.length c3], .int .i64 k] w fun e w' => ∃ c, e = .returned (.slice (some ⟨kindB b0 b1 b2 b3 k, 0, none⟩) (kindL l0 l1 l2 l3 k).length c) ∧ Below w.heap.size w w' := by
  obtain ⟨k, rfl⟩ := Int.eq_ofNat_of_zero_le h0
  obtain rfl | rfl | rfl | rfl : k = 0 ∨ k = 1 ∨ k = 2 ∨ k = 3 := by omega
  · go_enter Try.func142, Try.ntmps142
    go_wp2
    go_ret
    exact ⟨c0, rfl, (Below.refl _ _).alloc (Nat.le_refl _) _⟩
  · go_enter Try.func142, Try.ntmps142
    go_wp2
    go_ret
    exact ⟨c1, rfl, (Below.refl _ _).alloc (Nat.le_refl _) _⟩
  · go_enter Try.func142, Try.ntmps142
    go_wp2
    go_ret
    exact ⟨c2, rfl, (Below.refl _ _).alloc (Nat.le_refl _) _⟩
  · go_enter Try.func142, Try.ntmps142
    go_wp2
    go_ret
    exact ⟨c3, rfl, (Below.refl _ _).alloc (Nat.le_refl _) _⟩

theorem kind_own {w : World} {b0 b1 b2 b3 : Nat} {l0 l1 l2 l3 : List (Int × Int)} (o0 : Own w b0 l0.length l0 l0.length) (o1 : Own w b1 l1.length l1 l1.length) (o2 : Own w b2 l2.length l2 l2.length) (o3 : Own w b3 l3.length l3 l3.length) (k : Int) :
    Own w (kindB b0 b1 b2 b3 k) (kindL l0 l1 l2 l3 k).length (kindL l0 l1 l2 l3 k) (kindL l0 l1 l2 l3 k).length := by
  unfold kindB kindL
  split
  · exact o0
  · split
    · exact o1
    · split
      · exact o2
      · exact o3

theorem kind_le {l0 l1 l2 l3 : List (Int × Int)} (n0 : l0.length ≤ 1048576) (n1 : l1.length ≤ 1048576) (n2 : l2.length ≤ 1048576) (n3 : l3.length ≤ 1048576) (k : Int) : (kindL l0 l1 l2 l3 k).length ≤ 1048576 := by
  unfold kindL
  split
  · exact n0
  · split
    · exact n1
    · split
      · exact n2
      · exact n3

def pairsV (l0 l1 l2 l3 : List (Int × Int)) (k : Int) : List (Int × Int) := if asnB l0 l1 l2 l3 = true ∧ 0 ≤ k ∧ k ≤ 3 then kindL l0 l1 l2 l3 k else []

set_option maxHeartbeats 1000000 in
theorem sPairsOf_any (b0 b1 b2 b3 : Nat) (c0 c1 c2 c3 : Nat) (l0 l1 l2 l3 : List (Int × Int)) (k : Int) (w : World)
    (n0 : l0.length ≤ 1048576) (n1 : l1.length ≤ 1048576) (n2 : l2.length ≤ 1048576) (n3 : l3.length ≤ 1048576)
    (o0 : Own w b0 l0.length l0 l0.length) (o1 : Own w b1 l1.length l1 l1.length) (o2 : Own w b2 l2.length l2 l2.length) (o3 : Own w b3 l3.length l3 l3.length) :
    Calls Try.prog 50 #[.agg #[.slice (some ⟨b0, 0, none⟩) l0.length c0, .slice (some ⟨b1, 0, none⟩) l1.length c1, .slice (some ⟨b2, 0, none⟩) l2.length c2, .slice (some ⟨b3, 0, none⟩) l3.length c3], .int .i64 k] w fun e w' => ∃ a c, e = .returned (.slice a (pairsV l0 l1 l2 l3 k).length c) ∧ RowIn w' w.heap.size w'.heap.size a (pairsV l0 l1 l2 l3 k).length (pairsV l0 l1 l2 l3 k) ∧ Below w.heap.size w w' := by
  have B0 := Box.new w (.slice (some ⟨b0, 0, none⟩) l0.length c0) (.slice (some ⟨b1, 0, none⟩) l1.length c1) (.slice (some ⟨b2, 0, none⟩) l2.length c2) (.slice (some ⟨b3, 0, none⟩) l3.length c3) 28
  have L : Below w.heap.size w (w.alloc (.cells #[.slice (some ⟨b0, 0, none⟩) l0.length c0, .slice (some ⟨b1, 0, none⟩) l1.length c1, .slice (some ⟨b2, 0, none⟩) l2.length c2, .slice (some ⟨b3, 0, none⟩) l3.length c3] 28)) := (Below.refl _ _).alloc (Nat.le_refl _) _
  go_enter Try.func50, Try.ntmps50
  go_wp2_with fail
  refine (sAsnOk_any _ _ _ _ _ _ _ _ _ _ _ _ _ n0 n1 n2 n3 (by exact (o0.alloc _).row) (by exact (o1.alloc _).row) (by exact (o2.alloc _).row) (by exact (o3.alloc _).row)).mono ?_
  rintro e w1 ⟨rfl, hb⟩
  have B1 := B0.below hb B0.lt; have L1 := L.trans (hb.mono L.size)
  replace o0 := o0.below L1 o0.1; replace o1 := o1.below L1 o1.1; replace o2 := o2.below L1 o2.1; replace o3 := o3.below L1 o3.1
  clear hb B0 L
  have x0 := B1.c0; have x1 := B1.c1; have x2 := B1.c2; have x3 := B1.c3
  cases h : asnB l0 l1 l2 l3
  · have e : pairsV l0 l1 l2 l3 k = [] := by unfold pairsV; rw [if_neg (by simp [h])]
    have HE : Hid (pairsV l0 l1 l2 l3 k = []) := e
    clear e
    go_wp2
    go_ret
    exact ⟨none, 0, by rw [HE.out]; rfl, by rw [HE.out]; exact ⟨rfl, .inl rfl⟩, L1⟩
  by_cases k0 : k < 0
  · have e : pairsV l0 l1 l2 l3 k = [] := by unfold pairsV; rw [if_neg (by omega)]
    have HE : Hid (pairsV l0 l1 l2 l3 k = []) := e
    clear e
    go_wp2
    go_ret
    exact ⟨none, 0, by rw [HE.out]; rfl, by rw [HE.out]; exact ⟨rfl, .inl rfl⟩, L1⟩
  by_cases k3 : 3 < k
  · have e : pairsV l0 l1 l2 l3 k = [] := by unfold pairsV; rw [if_neg (by omega)]
    have HE : Hid (pairsV l0 l1 l2 l3 k = []) := e
    clear e
    go_wp2
    go_ret
    exact ⟨none, 0, by rw [HE.out]; rfl, by rw [HE.out]; exact ⟨rfl, .inl rfl⟩, L1⟩
  have HE : Hid (pairsV l0 l1 l2 l3 k = kindL l0 l1 l2 l3 k) := by show pairsV l0 l1 l2 l3 k = _; unfold pairsV; rw [if_pos ⟨h, by omega, by omega⟩]
  clear h
  have z := B1.lt
  go_wp2_with fail
  have hown := World.ownsRow_lit (base := w.heap.size) (e := 69) (size := 2) w1 #[] 0 L1.size (Nat.zero_le _) rfl
  have L2 := L1.alloc L1.size (.cells #[] 69)
  refine (l1kind_any _ _ _ _ _ _ _ _ _ _ _ _ _ _ (by omega) (by omega)).mono ?_
  rintro e w3 ⟨cs, rfl, hb⟩
  replace hown := owns_below hown hb
  have ho := (kind_own (o0.alloc (.cells #[] 69)) (o1.alloc _) (o2.alloc _) (o3.alloc _) k).below hb (kind_own (o0.alloc (.cells #[] 69)) (o1.alloc _) (o2.alloc _) (o3.alloc _) k).1
  have hn := kind_le n0 n1 n2 n3 k
  have L3 := L2.trans (hb.mono L2.size)
  clear hb L1 L2 B1 o0 o1 o2 o3 x0 x1 x2 x3 z n0 n1 n2 n3
  generalize kindB b0 b1 b2 b3 k = b at *
  generalize kindL l0 l1 l2 l3 k = l at *
  obtain ⟨i0, hi, hz0, hz1, hz2⟩ := Try.i57
  generalize w1.heap.size = g at *
  go_wp2_with (at_builtin; refine wpList_append_own _ rfl _ _ 26 rfl w.heap.size 69 i0 (.agg #[.int .i64 0, .int .i64 0]) 2 16 Try.underlying26 hi hz0 hz1 hz2 rfl (by decide) _ _ _ rfl hown ⟨b, 0, none⟩ l.length cs (pc l) rfl (pc_length l) ?c1 pc_one ?c3 ?c4 ?c5 ?_)
  case c1 => exact ho.news
  case c3 => unfold maxLen; omega
  case c4 => omega
  case c5 => exact L3.size
  intro v1 w4 hown' hg hiff
  obtain ⟨a, c, rfl, hr⟩ := RowIn.ofOwns hown'
  have hb := L3.grown hg L3.size (by intro q hq; exact ((hown.lt q hq).1))
  clear hiff hown hown' hg
  go_wp2
  go_ret
  exact ⟨a, c, by rw [HE.out]; rfl, by rw [HE.out]; exact hr, hb⟩


def kok (k : Int) : Bool := decide (0 ≤ k ∧ k < 4)

theorem kindOk_any (x : Int) (w : World) : Calls Try.prog 143 #[.int .i64 x] w fun e w' => e = .returned (.bool (kok x)) ∧ w' = w := by
  by_cases c1 : 0 ≤ x
  · by_cases c2 : x < 4
    · go_enter Try.func143, Try.ntmps143
      go_wp2
      go_ret
      exact ⟨ret_bool (by simp [kok, c1, c2]), rfl⟩
    · go_enter Try.func143, Try.ntmps143
      go_wp2
      go_ret
      exact ⟨ret_bool (by simp [kok]; omega), rfl⟩
  · go_enter Try.func143, Try.ntmps143
    go_wp2
    go_ret
    exact ⟨ret_bool (by simp [kok]; omega), rfl⟩

set_option maxHeartbeats 1000000 in
theorem iPairsOf_any (b0 b1 b2 b3 : Nat) (c0 c1 c2 c3 : Nat) (l0 l1 l2 l3 : List (Int × Int)) (k : Int) (w : World)
    (n0 : l0.length ≤ 1048576) (n1 : l1.length ≤ 1048576) (n2 : l2.length ≤ 1048576) (n3 : l3.length ≤ 1048576)
    (o0 : Own w b0 l0.length l0 l0.length) (o1 : Own w b1 l1.length l1 l1.length) (o2 : Own w b2 l2.length l2 l2.length) (o3 : Own w b3 l3.length l3 l3.length) :
    Calls Try.prog 51 #[.agg #[.slice (some ⟨b0, 0, none⟩) l0.length c0, .slice (some ⟨b1, 0, none⟩) l1.length c1, .slice (some ⟨b2, 0, none⟩) l2.length c2, .slice (some ⟨b3, 0, none⟩) l3.length c3], .int .i64 k] w fun e w' => ∃ a c, e = .returned (.slice a (pairsV l0 l1 l2 l3 k).length c) ∧ RowIn w' w.heap.size w'.heap.size a (pairsV l0 l1 l2 l3 k).length (pairsV l0 l1 l2 l3 k) ∧ Below w.heap.size w w' := by
  have B0 := Box.new w (.slice (some ⟨b0, 0, none⟩) l0.length c0) (.slice (some ⟨b1, 0, none⟩) l1.length c1) (.slice (some ⟨b2, 0, none⟩) l2.length c2) (.slice (some ⟨b3, 0, none⟩) l3.length c3) 28
  have L : Below w.heap.size w (w.alloc (.cells #[.slice (some ⟨b0, 0, none⟩) l0.length c0, .slice (some ⟨b1, 0, none⟩) l1.length c1, .slice (some ⟨b2, 0, none⟩) l2.length c2, .slice (some ⟨b3, 0, none⟩) l3.length c3] 28)) := (Below.refl _ _).alloc (Nat.le_refl _) _
  go_enter Try.func51, Try.ntmps51
  go_wp2_with fail
  refine (iAsnOk_any _ _ _ _ _ _ _ _ _ _ _ _ _ n0 n1 n2 n3 (by exact (o0.alloc _).row) (by exact (o1.alloc _).row) (by exact (o2.alloc _).row) (by exact (o3.alloc _).row)).mono ?_
  rintro e w1 ⟨rfl, hb⟩
  have B1 := B0.below hb B0.lt; have L1 := L.trans (hb.mono L.size)
  replace o0 := o0.below L1 o0.1; replace o1 := o1.below L1 o1.1; replace o2 := o2.below L1 o2.1; replace o3 := o3.below L1 o3.1
  clear hb B0 L
  have x0 := B1.c0; have x1 := B1.c1; have x2 := B1.c2; have x3 := B1.c3
  cases h : asnB l0 l1 l2 l3
  · have HE : Hid (pairsV l0 l1 l2 l3 k = []) := by show pairsV l0 l1 l2 l3 k = []; unfold pairsV; rw [if_neg (by simp [h])]
    go_wp2
    go_ret
    exact ⟨none, 0, by rw [HE.out]; rfl, by rw [HE.out]; exact ⟨rfl, .inl rfl⟩, L1⟩
  go_wp2_with fail
  refine (kindOk_any _ _).mono ?_
  rintro e w2 ⟨rfl, rfl⟩
  cases hk : kok k
  · have HE : Hid (pairsV l0 l1 l2 l3 k = []) := by show pairsV l0 l1 l2 l3 k = []; unfold pairsV; rw [if_neg (by simp [kok] at hk; omega)]
    go_wp2
    go_ret
    exact ⟨none, 0, by rw [HE.out]; rfl, by rw [HE.out]; exact ⟨rfl, .inl rfl⟩, L1⟩
  obtain ⟨k0, k3⟩ : 0 ≤ k ∧ k < 4 := by simpa [kok] using hk
  have HE : Hid (pairsV l0 l1 l2 l3 k = kindL l0 l1 l2 l3 k) := by show pairsV l0 l1 l2 l3 k = _; unfold pairsV; rw [if_pos ⟨h, by omega, by omega⟩]
  clear h
  have hx : ∀ w : World, ∃ c, (Instr.index 88 (.agg #[.slice (some ⟨b0, 0, none⟩) l0.length c0, .slice (some ⟨b1, 0, none⟩) l1.length c1, .slice (some ⟨b2, 0, none⟩) l2.length c2, .slice (some ⟨b3, 0, none⟩) l3.length c3]) (.int .i64 k)).run Try.prog w = .ok (.slice (some ⟨kindB b0 b1 b2 b3 k, 0, none⟩) (kindL l0 l1 l2 l3 k).length c) w := by
    obtain ⟨k, rfl⟩ := Int.eq_ofNat_of_zero_le k0
    obtain rfl | rfl | rfl | rfl : k = 0 ∨ k = 1 ∨ k = 2 ∨ k = 3 := by omega
    · exact fun w => ⟨c0, idx0 _ _ _ _ _ _ _ _ _ _ _ _ w⟩
    · exact fun w => ⟨c1, idx1 _ _ _ _ _ _ _ _ _ _ _ _ w⟩
    · exact fun w => ⟨c2, idx2 _ _ _ _ _ _ _ _ _ _ _ _ w⟩
    · exact fun w => ⟨c3, idx3 _ _ _ _ _ _ _ _ _ _ _ _ w⟩
  have HX := (show Hid (∀ w : World, ∃ c, (Instr.index 88 (.agg #[.slice (some ⟨b0, 0, none⟩) l0.length c0, .slice (some ⟨b1, 0, none⟩) l1.length c1, .slice (some ⟨b2, 0, none⟩) l2.length c2, .slice (some ⟨b3, 0, none⟩) l3.length c3]) (.int .i64 k)).run Try.prog w = .ok (.slice (some ⟨kindB b0 b1 b2 b3 k, 0, none⟩) (kindL l0 l1 l2 l3 k).length c) w) from hx)
  clear hx
  go_wp2_with fail
  refine (listsOf_any _ _ _ _ _ ⟨_, _, _, rfl⟩ ⟨_, _, _, rfl⟩ ⟨_, _, _, rfl⟩ ⟨_, _, _, rfl⟩).mono ?_
  rintro e w3 ⟨rfl, hb⟩
  have ho := (kind_own o0 o1 o2 o3 k).below hb (kind_own o0 o1 o2 o3 k).1
  have hn := kind_le n0 n1 n2 n3 k
  have L3 := L1.trans (hb.mono L1.size)
  clear hb L1 B1 o0 o1 o2 o3 x0 x1 x2 x3 n0 n1 n2 n3
  obtain ⟨cs, hx⟩ : ∃ cs, (Instr.index 88 (.agg #[.slice (some ⟨b0, 0, none⟩) l0.length c0, .slice (some ⟨b1, 0, none⟩) l1.length c1, .slice (some ⟨b2, 0, none⟩) l2.length c2, .slice (some ⟨b3, 0, none⟩) l3.length c3]) (.int .i64 k)).run Try.prog w3 = .ok (.slice (some ⟨kindB b0 b1 b2 b3 k, 0, none⟩) (kindL l0 l1 l2 l3 k).length cs) w3 := HX.out w3
  clear HX
  generalize kindB b0 b1 b2 b3 k = b at *
  generalize kindL l0 l1 l2 l3 k = l at *
  go_wp2_with fail
  refine (copyOf_any _ _ _ _ hn ho).mono ?_
  rintro e w4 ⟨a, c, rfl, hr, hb⟩
  have L4 := L3.trans (hb.mono L3.size)
  go_wp2
  go_ret
  exact ⟨a, c, by rw [HE.out]; rfl, by rw [HE.out]; exact hr.mono L3.size (Nat.le_refl _), L4⟩

theorem val_le (l0 l1 l2 l3 : List (Int × Int)) (k : Int) (n0 : l0.length ≤ 1048576) (n1 : l1.length ≤ 1048576) (n2 : l2.length ≤ 1048576) (n3 : l3.length ≤ 1048576) : (pairsV l0 l1 l2 l3 k).length ≤ 1048576 := by
  unfold pairsV
  split
  · exact kind_le n0 n1 n2 n3 k
  · exact Nat.zero_le _

end Go.Proofs.Ytphchdjbhbmnbaa
