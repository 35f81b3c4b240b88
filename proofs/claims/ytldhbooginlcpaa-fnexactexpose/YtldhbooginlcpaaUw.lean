/-
  The contract of spec.l4without: a row without one of its pairs, in memory of its own that may be appended to.
-/
import Derived.Test.YtldhbooginlcpaaWtt
namespace Go.Proofs.Ytldhbooginlcpaa
open Go.RowKit
set_option linter.unusedVariables false

theorem step_roomR {ops : Array Oper} {o : Oper} {a : Act} {w : World} {K : Act → World → Prop} {Q : Exit → Act → World → Prop} {E : Prop}
    (hg : o.guard = none) (s x : Operand) (hop : o.op = Op.call { callee := Callee.builtin Builtin.append, args := #[s, x], argTypes := #[26, 26] })
    (lo hi : Nat) (a' : Option Addr) (n c : Nat) (l : List (Int × Int)) (hs : a.eval s = .slice a' n c) (hr : RoomIn w lo hi a' n c l)
    (p : Addr) (m d : Nat) (k : List (Int × Int)) (hx : a.eval x = .slice (some p) m d) (hk : k.length = m) (ho : PRow w (some p) k) (hn : n + m ≤ 2097152) (hlo : lo ≤ w.heap.size) (hhi : hi ≤ w.heap.size)
    (hK : ∀ a'' c'' w', RoomIn w' lo w'.heap.size a'' (n + m) c'' (l ++ k) → Out lo hi w w' → K (a.put o.dst (.slice a'' (n + m) c'')) w') :
    if Region.wanted o (yielded ops a.tmps) = true then Oper.wp Try.prog o a w K Q else E := by
  obtain ⟨i0, hi0, hz0, hz1, hz2⟩ := Try.i57
  subst hk
  have hl := hr.1
  by_cases hc : c < n + k.length
  · refine step_append_grows hg s x 26 hop 67 i0 (.agg #[.int .i64 0, .int .i64 0]) 2 16 Try.underlying26 hi0 hz0 hz1 hz2 rfl (by decide) a' n c (pc l) hs ?_ (by rw [pc_length, hl]) ?_ p k.length d (pc k) hx (pc_length k) ho.news pc_one hc (by unfold maxLen; omega) (by omega) ?_
    · obtain ⟨_, ⟨_, _, _, rfl⟩ | ⟨_, rfl, _⟩⟩ := hr <;> intro h <;> cases h
    · intro ad had j u hu
      obtain ⟨_, ⟨h0, _, _, rfl⟩ | ⟨b1, rfl, _, _, hw⟩⟩ := hr
      · have : l = [] := List.eq_nil_of_length_eq_zero (by omega)
        subst this; cases hu
      · cases had; exact hw.cells rfl j u hu
    · intro v' w' hown hgr
      rw [← pc_append] at hown
      obtain ⟨a1, c1, rfl, hR⟩ := RoomIn.ofOwns hown (by omega)
      exact hK _ _ _ (hR.mono hlo (Nat.le_refl _)) (Out.ofBelow ((Below.refl _ _).grown hgr (Nat.le_refl _) (by intro k hk; cases hk)))
  · obtain ⟨_, ⟨h0, h00, Z, rfl⟩ | ⟨b1, rfl, g1, g2, hw⟩⟩ := hr
    · have hl0 : l = [] := List.eq_nil_of_length_eq_zero (by omega)
      have hk0 : k = [] := List.eq_nil_of_length_eq_zero (by omega)
      subst hl0 hk0 h00 h0
      refine step_append_room hg s x 26 hop 67 i0 2 Try.underlying26 hi0 hz1 Z 0 0 0 hs p 0 d [] hx rfl (by intro j u h; cases h) (by intro u h; cases h) (Nat.le_refl _) (by intro j h; exact absurd h (Nat.not_lt_zero _)) ?_
      exact hK _ _ _ ⟨rfl, .inl ⟨rfl, rfl, _, rfl⟩⟩ (Out.refl _ _ _)
    · have sp : ∀ j, j < (pc k).length → (w.cell? ⟨b1, 0 + n * 2 + j, none⟩).isSome = true ∧ w.frozen? ⟨b1, 0 + n * 2 + j, none⟩ = false := fun j hj => owns_room hw _ (by rw [pc_length] at hj; omega)
      obtain ⟨v', w', hrun, r1, r2, _⟩ := run_append_own (P := Try.prog) w lo 26 o.type 67 i0 (.agg #[.int .i64 0, .int .i64 0]) 2 16 Try.underlying26 hi0 hz0 hz1 hz2 rfl (by decide) _ n (pc l) hw p k.length d (pc k) (pc_length k) ho.news pc_one (by unfold maxLen; omega) (by omega) hlo
      have hrun2 := run_append_room_cells (P := Try.prog) w 26 o.type 67 i0 Try.underlying26 hi0 b1 0 n c p k.length d (pc k) (by rw [hz1]; exact pc_length k) ho.news pc_one (by omega) (by rw [hz1]; exact fun j hj => (sp j hj).1) (by rw [hz1]; exact fun j hj => (sp j hj).2)
      rw [hrun] at hrun2
      rw [hz1] at hrun2
      injection hrun2 with e1 e2
      subst e1 e2
      rw [← pc_append] at r1
      obtain ⟨q1, q2, q3⟩ := Own.ofOwns r1
      refine step_append_room hg s x 26 hop 67 i0 2 Try.underlying26 hi0 hz1 b1 0 n c hs p k.length d (pc k) hx (pc_length k) ho.news pc_one (by omega) sp ?_
      exact hK _ _ _ ⟨q1, .inr ⟨b1, rfl, g1, Nat.lt_of_lt_of_le g2 (Nat.le_trans hhi r2.size), r1⟩⟩ ⟨r2.os, r2.tape, r2.output, r2.size, fun i hi' hr' => r2.block i hi' (by intro e; injection e with e; subst e; omega)⟩

def KB (w W : World) : Prop := Below w.heap.size w W ∧ w.heap.size ≤ W.heap.size
theorem KB.mk {w W : World} (h : Below w.heap.size w W) : Below w.heap.size w W ∧ w.heap.size ≤ W.heap.size := ⟨h, h.size⟩
theorem kb_al {w W : World} (o : Obj) (h : Below w.heap.size w W ∧ w.heap.size ≤ W.heap.size) : Below w.heap.size w (W.alloc o) ∧ w.heap.size ≤ (W.alloc o).heap.size := KB.mk (h.1.alloc h.2 o)
theorem kb_ad {w W : World} (h : Below w.heap.size w W ∧ w.heap.size ≤ W.heap.size) : Below w.heap.size w W.drew ∧ w.heap.size ≤ W.drew.heap.size := KB.mk h.1.drew
theorem kb_be {w W u : World} (h : Below w.heap.size w W ∧ w.heap.size ≤ W.heap.size) (hb : Below W.heap.size W u) : Below w.heap.size w u ∧ w.heap.size ≤ u.heap.size := KB.mk (h.1.trans (hb.mono h.2))
theorem kb_out {w W u : World} {lo hi : Nat} (h : Below w.heap.size w W ∧ w.heap.size ≤ W.heap.size) (hb : Out lo hi W u) (hl : w.heap.size ≤ lo) : Below w.heap.size w u ∧ w.heap.size ≤ u.heap.size := KB.mk (h.1.trans (hb.below hl h.2))
theorem kb_fresh {w W u : World} {a : Option Addr} {m c : Nat} {l : List (Int × Int)} (h : Below w.heap.size w W ∧ w.heap.size ≤ W.heap.size) (hb : Below W.heap.size W u) (d : RoomIn u W.heap.size u.heap.size a m c l) : (Below w.heap.size w u ∧ w.heap.size ≤ u.heap.size) ∧ RoomIn u w.heap.size u.heap.size a m c l := ⟨kb_be h hb, d.mono h.2 (Nat.le_refl _)⟩
theorem kb_row {w W : World} {a : Option Addr} {l : List (Int × Int)} (r : PRow w a l) (h : Below w.heap.size w W ∧ w.heap.size ≤ W.heap.size) : PRow W a l := r.below h.1 (Nat.le_refl _)

set_option maxHeartbeats 2000000 in
theorem l4without_any (b cp : Nat) (l : List (Int × Int)) (i : Nat) (w : World) (hi : i < l.length) (hn : l.length ≤ 1048576) (hc : l.length ≤ cp) (ho : Own w b l.length l l.length) :
    Calls Try.prog 162 #[.slice (some ⟨b, 0, none⟩) l.length cp, .int .i64 i] w fun e w' => ∃ a c, e = .returned (.slice a (i + (l.length - (i + 1))) c) ∧ RoomIn w' w.heap.size w'.heap.size a (i + (l.length - (i + 1))) c (l.take i ++ l.drop (i + 1)) ∧ Below w.heap.size w w' := by
  have e1 : (l.take i).length = i := by rw [List.length_take]; omega
  have e2 : (l.drop (i + 1)).length = l.length - (i + 1) := by rw [List.length_drop]
  have rt : PRow w (some ⟨b, 0, none⟩) (l.take i) := ho.row.take i
  have rd : PRow w (some (dropA b 0 cp (i + 1))) (l.drop (i + 1)) := drop_row ho.row (i + 1) hc
  have hx : ∀ w : World, (Instr.slice 26 (.slice (some ⟨b, 0, none⟩) l.length cp) none (some (.int .i64 (i : Int))) none).run Try.prog w = .ok (.slice (some ⟨b, 0, none⟩) i cp) w := fun w => cut_hi _ _ _ _ i (by omega) w
  have hy : ∀ w : World, (Instr.slice 26 (.slice (some ⟨b, 0, none⟩) l.length cp) (some (.int .i64 ((i : Int) + 1))) none none).run Try.prog w = .ok (.slice (some (dropA b 0 cp (i + 1))) (l.length - (i + 1)) (cp - (i + 1))) w := fun w => cut_lo _ _ _ _ (i + 1) (by omega) w
  have hwr : IntKind.i64.wrap ((i : Int) + 1) = (i : Int) + 1 := by rw [IntKind.wrap_i64]; omega
  have hS1 : Below w.heap.size w w ∧ w.heap.size ≤ w.heap.size := KB.mk (Below.refl _ _)
  have hS0 := kb_ad hS1
  clear ho hc
  generalize l.take i = lt at *
  generalize l.drop (i + 1) = ld at *
  generalize l.length = n at *
  generalize dropA b 0 cp (i + 1) = ad at *
  go_enter Try.func162, Try.ntmps162
  go_wp2
  go_region_held3 (fun W => Below w.heap.size w W ∧ w.heap.size ≤ W.heap.size)
    (first | exact hS0 | exact hS1 | assumption | exact kb_al _ hS0 | exact kb_al _ hS1 | exact kb_ad (kb_al _ hS1) | exact kb_al _ (by assumption) | (refine ⟨?_, ?_⟩ <;> assumption))
    (first
      | (refine step_freshP (by rfl) _ _ (by rfl) _ ⟨b, 0, none⟩ i cp lt (by rfl) (by rfl) e1 (kb_row rt (by assumption)) (by omega) ?_; rintro x1 y1 u1 d1 h1; have kk := kb_fresh (by assumption) h1 d1; have k1 := kk.1; have d1' := kk.2)
      | (refine step_roomR (by rfl) _ _ (by rfl) w.heap.size u1.heap.size x1 i y1 lt (by rfl) d1' ad (n - (i + 1)) (cp - (i + 1)) ld (by rfl) e2 (kb_row rd k1) (by omega) k1.2 (Nat.le_refl _) ?_; rintro x2 y2 u2 d2 h2; have k2 := kb_out k1 h2 (Nat.le_refl _)))
  all_goals
    go_wp2
    go_ret
    exact ⟨x2, y2, rfl, d2, k2.1⟩

end Go.Proofs.Ytldhbooginlcpaa
