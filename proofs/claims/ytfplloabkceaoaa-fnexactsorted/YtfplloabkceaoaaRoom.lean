/-
  Rows of pairs that may be appended to, and what is appended onto an empty slice literal, as one step of a region that draws its order.
-/
import Derived.Test.YtfplloabkceaoaaApp
import Derived.Test.YtfplloabkceaoaaOkI
import Derived.Deep.RegionLawGrows
import Derived.Deep.RegionHeld3
namespace Go.Proofs.Ytfplloabkceaoaa
open Go.RowKit

/-- A slice of n pairs that reads as l and may be appended to: an empty one without room, or a row of the call's own, in a block from lo to hi. -/
def RoomIn (w : World) (lo hi : Nat) (a : Option Addr) (n c : Nat) (l : List (Int × Int)) : Prop :=
  l.length = n ∧ ((n = 0 ∧ c = 0 ∧ ∃ Z, a = some ⟨Z, 0, none⟩) ∨ ∃ b, a = some ⟨b, 0, none⟩ ∧ lo ≤ b ∧ b < hi ∧ w.ownsRow lo 69 2 (.slice a n c) n (pc l))

theorem owns_mono {w : World} {base base' n : Nat} {v : Value} {xs : List Value} (h : w.ownsRow base 69 2 v n xs) (hb : base' ≤ base) : w.ownsRow base' 69 2 v n xs := by
  obtain ⟨h1, h2 | ⟨g, cap, cur, e1, e2, e3⟩⟩ := h
  · exact ⟨h1, .inl h2⟩
  · exact ⟨h1, .inr ⟨g, cap, cur, e1, Nat.le_trans hb e2, e3⟩⟩

theorem RoomIn.row {w : World} {lo hi n c : Nat} {a : Option Addr} {l : List (Int × Int)} (h : RoomIn w lo hi a n c l) : RowIn w lo hi a n l := by
  obtain ⟨hl, ⟨h0, _⟩ | ⟨b, rfl, h1, h2, h3⟩⟩ := h
  · exact ⟨hl, .inl h0⟩
  · exact RowIn.ofOwn (Own.ofOwns h3).2.2 hl h1 h2

theorem RoomIn.below {lo hi B n c : Nat} {w w' : World} {a : Option Addr} {l : List (Int × Int)} (h : RoomIn w lo hi a n c l) (ho : Below B w w') (hr : hi ≤ B) : RoomIn w' lo hi a n c l := by
  obtain ⟨hl, h0 | ⟨b, rfl, h1, h2, h3, h4 | ⟨g, cap, cur, e1, e2, e3, e4⟩⟩⟩ := h
  · exact ⟨hl, .inl h0⟩
  · cases h4.1
  · injection e1 with e1; injection e1 with e1; injection e1 with e1; subst e1
    exact ⟨hl, .inr ⟨b, rfl, h1, h2, h3, .inr ⟨b, c, cur, rfl, e2, by rw [ho.block b (by omega)]; exact e3, by simp_all⟩⟩⟩

theorem RoomIn.out {lo hi lo' hi' n c : Nat} {w w' : World} {a : Option Addr} {l : List (Int × Int)} (h : RoomIn w lo hi a n c l) (ho : Out lo' hi' w w') (hr : hi ≤ lo' ∨ hi' ≤ lo) : RoomIn w' lo hi a n c l := by
  obtain ⟨hl, h0 | ⟨b, rfl, h1, h2, h3⟩⟩ := h
  · exact ⟨hl, .inl h0⟩
  · have hlt := (h3.lt b rfl).2
    obtain ⟨h3, h4 | ⟨g, cap, cur, e1, e2, e3, e4⟩⟩ := h3
    · cases h4.1
    · injection e1 with e1; injection e1 with e1; injection e1 with e1; subst e1
      exact ⟨hl, .inr ⟨b, rfl, h1, h2, h3, .inr ⟨b, c, cur, rfl, e2, by rw [ho.block b hlt (by omega)]; exact e3, by simp_all⟩⟩⟩

theorem RoomIn.mono {lo hi lo' hi' n c : Nat} {w : World} {a : Option Addr} {l : List (Int × Int)} (h : RoomIn w lo hi a n c l) (h1 : lo' ≤ lo) (h2 : hi ≤ hi') : RoomIn w lo' hi' a n c l := by
  obtain ⟨hl, h0 | ⟨b, rfl, h3, h4, h5⟩⟩ := h
  · exact ⟨hl, .inl h0⟩
  · exact ⟨hl, .inr ⟨b, rfl, by omega, by omega, owns_mono h5 h1⟩⟩

theorem RoomIn.ofOwns {w : World} {base n : Nat} {v : Value} {l : List (Int × Int)} (h : w.ownsRow base 69 2 v n (pc l)) (hp : 0 < n) : ∃ a cap, v = .slice a n cap ∧ RoomIn w base w.heap.size a n cap l := by
  rcases h.2 with ⟨rfl, rfl⟩ | ⟨g, cap, cur, rfl, _⟩
  · omega
  · obtain ⟨hl, hb, ho⟩ := Own.ofOwns h
    exact ⟨_, _, rfl, hl, .inr ⟨g, rfl, hb, ho.1, h⟩⟩

theorem step_fresh {ops : Array Oper} {o : Oper} {a : Act} {w : World} {K : Act → World → Prop} {Q : Exit → Act → World → Prop} {E : Prop}
    (hg : o.guard = none) (s x : Operand) (hop : o.op = Op.call { callee := Callee.builtin Builtin.append, args := #[s, x], argTypes := #[26, 26] })
    (Z b m c : Nat) (l : List (Int × Int)) (hs : a.eval s = .slice (some ⟨Z, 0, none⟩) 0 0) (hx : a.eval x = .slice (some ⟨b, 0, none⟩) m c) (hl : l.length = m) (ho : Own w b m l m) (hm : m ≤ 1048576)
    (hK : ∀ a' c' w', RoomIn w' w.heap.size w'.heap.size a' m c' l → Below w.heap.size w w' → K (a.put o.dst (.slice a' m c')) w') :
    if Region.wanted o (yielded ops a.tmps) = true then Oper.wp Try.prog o a w K Q else E := by
  obtain ⟨i0, hi, hz0, hz1, hz2⟩ := Try.i57
  subst hl
  by_cases e : l.length = 0
  · have el : l = [] := List.eq_nil_of_length_eq_zero e
    subst el
    refine step_append_room hg s x 26 hop 69 i0 2 Try.underlying26 hi hz1 Z 0 0 0 hs ⟨b, 0, none⟩ 0 c [] hx rfl (by intro j u h; cases h) (by intro u h; cases h) (Nat.le_refl _) (by intro j h; exact absurd h (Nat.not_lt_zero _)) ?_
    exact hK _ _ _ ⟨rfl, .inl ⟨rfl, rfl, _, rfl⟩⟩ (Below.refl _ _)
  · refine step_append_grows hg s x 26 hop 69 i0 (.agg #[.int .i64 0, .int .i64 0]) 2 16 Try.underlying26 hi hz0 hz1 hz2 rfl (by decide) (some ⟨Z, 0, none⟩) 0 0 [] hs (by intro h; cases h) rfl (by intro b h j u hu; cases hu) ⟨b, 0, none⟩ l.length c (pc l) hx (pc_length l) ho.news pc_one (by omega) (by unfold maxLen; omega) (by omega) ?_
    intro v' w' hown hgr
    rw [Nat.zero_add, List.nil_append] at hown
    obtain ⟨a', c', rfl, hr⟩ := RoomIn.ofOwns hown (by omega)
    exact hK _ _ _ hr ((Below.refl _ _).grown hgr (Nat.le_refl _) (by intro k hk; cases hk))

theorem step_lit {ops : Array Oper} {o : Oper} {a : Act} {w : World} {K : Act → World → Prop} {Q : Exit → Act → World → Prop} {E : Prop}
    (hg : o.guard = none) (hop : o.op = Op.buildSlice 26 0 #[])
    (hK : ∀ Z w', Below w.heap.size w w' → K (a.put o.dst (.slice (some ⟨Z, 0, none⟩) 0 0)) w') :
    if Region.wanted o (yielded ops a.tmps) = true then Oper.wp Try.prog o a w K Q else E := by
  obtain ⟨dst, op, type, pos, after, guard⟩ := o
  dsimp only at hg hop hK
  subst hg hop
  replace hK : Shut (∀ Z w', Below w.heap.size w w' → K (a.put dst (.slice (some ⟨Z, 0, none⟩) 0 0)) w') := hK
  go_simp
  refine hK.out _ _ ?_
  exact (Below.refl _ _).alloc (Nat.le_refl _) _

end Go.Proofs.Ytfplloabkceaoaa
