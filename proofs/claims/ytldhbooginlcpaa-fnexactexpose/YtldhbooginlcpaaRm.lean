/-
  What is appended onto a row of the call's own: in its place where there is room, else in a new block.
-/
import Derived.Test.YtldhbooginlcpaaOw
namespace Go.Proofs.Ytldhbooginlcpaa
open Go.RowKit

/-- A slice of n pairs that reads as l, in a block of the call's own from lo to hi or from S on. -/
def RowOr (w : World) (lo hi S : Nat) (a : Option Addr) (n : Nat) (l : List (Int × Int)) : Prop :=
  l.length = n ∧ (n = 0 ∨ ∃ b, a = some ⟨b, 0, none⟩ ∧ (lo ≤ b ∧ b < hi ∨ S ≤ b) ∧ Own w b n l n)

theorem owns_room {w : World} {base n b c : Nat} {xs : List Value} (h : w.ownsRow base 67 2 (.slice (some ⟨b, 0, none⟩) n c) n xs) (j : Nat) (hj : j < c * 2) :
    (w.cell? ⟨b, j, none⟩).isSome = true ∧ w.frozen? ⟨b, j, none⟩ = false := by
  obtain ⟨h3, h4 | ⟨g, cap, cur, e1, e2, e3, e4, e5, e6, e7⟩⟩ := h
  · cases h4.1
  · injection e1 with e0 e1 e8; injection e0 with e0; injection e0 with e0; subst e0; subst e8
    refine ⟨?_, ?_⟩
    · simp [World.cell?, e3, e6, hj]
    · simp [World.frozen?, e3]

theorem step_room {ops : Array Oper} {o : Oper} {a : Act} {w : World} {K : Act → World → Prop} {Q : Exit → Act → World → Prop} {E : Prop}
    (hg : o.guard = none) (s x : Operand) (hop : o.op = Op.call { callee := Callee.builtin Builtin.append, args := #[s, x], argTypes := #[26, 26] })
    (lo hi : Nat) (a' : Option Addr) (n c : Nat) (l : List (Int × Int)) (hs : a.eval s = .slice a' n c) (hr : RoomIn w lo hi a' n c l)
    (b m d : Nat) (k : List (Int × Int)) (hx : a.eval x = .slice (some ⟨b, 0, none⟩) m d) (hk : k.length = m) (ho : Own w b m k m) (hn : n + m ≤ 2097152) (hlo : lo ≤ w.heap.size)
    (hK : ∀ a'' c'' w', RowOr w' lo hi w.heap.size a'' (n + m) (l ++ k) → Out lo hi w w' → K (a.put o.dst (.slice a'' (n + m) c'')) w') :
    if Region.wanted o (yielded ops a.tmps) = true then Oper.wp Try.prog o a w K Q else E := by
  obtain ⟨i0, hi0, hz0, hz1, hz2⟩ := Try.i57
  subst hk
  have hl := hr.1
  by_cases hc : c < n + k.length
  · refine step_append_grows hg s x 26 hop 67 i0 (.agg #[.int .i64 0, .int .i64 0]) 2 16 Try.underlying26 hi0 hz0 hz1 hz2 rfl (by decide) a' n c (pc l) hs ?_ (by rw [pc_length, hl]) ?_ ⟨b, 0, none⟩ k.length d (pc k) hx (pc_length k) ho.news pc_one hc (by unfold maxLen; omega) (by omega) ?_
    · obtain ⟨_, ⟨_, _, _, rfl⟩ | ⟨_, rfl, _⟩⟩ := hr <;> intro h <;> cases h
    · intro ad had j u hu
      obtain ⟨_, ⟨h0, _, _, rfl⟩ | ⟨b1, rfl, _, _, hw⟩⟩ := hr
      · have : l = [] := List.eq_nil_of_length_eq_zero (by omega)
        subst this; cases hu
      · cases had; exact hw.cells rfl j u hu
    · intro v' w' hown hgr
      rw [← pc_append] at hown
      obtain ⟨a1, c1, rfl, hl1, h0 | ⟨b1, rfl, h1, h2, h3⟩⟩ := RowIn.ofOwns hown
      · omega
      · exact hK _ _ _ ⟨hl1, .inr ⟨b1, rfl, .inr h1, h3⟩⟩ (Out.ofBelow ((Below.refl _ _).grown hgr (Nat.le_refl _) (by intro k hk; cases hk)))
  · obtain ⟨_, ⟨h0, h00, Z, rfl⟩ | ⟨b1, rfl, g1, g2, hw⟩⟩ := hr
    · have hl0 : l = [] := List.eq_nil_of_length_eq_zero (by omega)
      have hk0 : k = [] := List.eq_nil_of_length_eq_zero (by omega)
      subst hl0 hk0 h00 h0
      refine step_append_room hg s x 26 hop 67 i0 2 Try.underlying26 hi0 hz1 Z 0 0 0 hs ⟨b, 0, none⟩ 0 d [] hx rfl (by intro j u h; cases h) (by intro u h; cases h) (Nat.le_refl _) (by intro j h; exact absurd h (Nat.not_lt_zero _)) ?_
      exact hK _ _ _ ⟨rfl, .inl rfl⟩ (Out.refl _ _ _)
    · have sp : ∀ j, j < (pc k).length → (w.cell? ⟨b1, 0 + n * 2 + j, none⟩).isSome = true ∧ w.frozen? ⟨b1, 0 + n * 2 + j, none⟩ = false := fun j hj => owns_room hw _ (by rw [pc_length] at hj; omega)
      obtain ⟨v', w', hrun, r1, r2, _⟩ := run_append_own (P := Try.prog) w lo 26 o.type 67 i0 (.agg #[.int .i64 0, .int .i64 0]) 2 16 Try.underlying26 hi0 hz0 hz1 hz2 rfl (by decide) _ n (pc l) hw ⟨b, 0, none⟩ k.length d (pc k) (pc_length k) ho.news pc_one (by unfold maxLen; omega) (by omega) hlo
      have hrun2 := run_append_room_cells (P := Try.prog) w 26 o.type 67 i0 Try.underlying26 hi0 b1 0 n c ⟨b, 0, none⟩ k.length d (pc k) (by rw [hz1]; exact pc_length k) ho.news pc_one (by omega) (by rw [hz1]; exact fun j hj => (sp j hj).1) (by rw [hz1]; exact fun j hj => (sp j hj).2)
      rw [hrun] at hrun2
      rw [hz1] at hrun2
      injection hrun2 with e1 e2
      subst e1 e2
      rw [← pc_append] at r1
      obtain ⟨q1, q2, q3⟩ := Own.ofOwns r1
      refine step_append_room hg s x 26 hop 67 i0 2 Try.underlying26 hi0 hz1 b1 0 n c hs ⟨b, 0, none⟩ k.length d (pc k) hx (pc_length k) ho.news pc_one (by omega) sp ?_
      exact hK _ _ _ ⟨q1, .inr ⟨b1, rfl, .inl ⟨g1, g2⟩, q3⟩⟩ ⟨r2.os, r2.tape, r2.output, r2.size, fun i hi' hr' => r2.block i hi' (by intro e; injection e with e; subst e; omega)⟩

end Go.Proofs.Ytldhbooginlcpaa
