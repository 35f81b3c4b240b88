/-
  The methods members and links of classes.
-/
import Derived.Test.YtiolgbckichneaaL3
import Derived.Test.YtiolgbckichneaaCl
namespace Go.Proofs.Ytiolgbckichneaa
open Go.RowKit
def membersK (c : List Int) (u : Int) (k : Nat) : List Int := ((List.range k).filter fun t => decide (c.getD t 0 = u)).map fun (t : Nat) => (t : Int)
def membersV (c : List Int) (u : Int) : List Int := membersK c u 16
theorem membersK_succ (c : List Int) (u : Int) (k : Nat) : membersK c u (k + 1) = membersK c u k ++ if c.getD k 0 = u then [(k : Int)] else [] := by
  unfold membersK
  rw [List.range_succ, List.filter_append, List.map_append]
  by_cases h : c.getD k 0 = u
  · rw [if_pos h]; simp only [List.filter_cons, List.filter_nil, h, decide_true, if_true, List.map_cons, List.map_nil]
  · rw [if_neg h]; simp only [List.filter_cons, List.filter_nil, h, decide_false, Bool.false_eq_true, if_false, List.map_nil]
theorem membersK_le (c : List Int) (u : Int) (k : Nat) : (membersK c u k).length ≤ k := by
  unfold membersK
  rw [List.length_map]
  have := List.length_filter_le (fun t => decide (c.getD t 0 = u)) (List.range k)
  simpa using this

set_option maxRecDepth 3000 in
set_option maxHeartbeats 1000000 in
theorem members_any (c : List Int) (u : Int) (hl : c.length = 16) (w : World) :
    Calls Try.prog 88 #[aV c, .int .i64 u] w fun e w' => ∃ a cq, e = .returned (.slice a (membersV c u).length cq) ∧ IntIn w' w.heap.size w'.heap.size a (membersV c u).length (membersV c u) ∧ Below w.heap.size w w' := by
  have CW := OwnI.new w c 16 hl 67
  have LW : Below w.heap.size w (w.alloc (.cells (ic c).toArray 67)) := (Below.refl _ _).alloc (Nat.le_refl _) _
  have sW : w.heap.size ≤ (w.alloc (.cells (ic c).toArray 67)).heap.size := by simp
  obtain ⟨i0, hi, hz0, hz1, hz2⟩ := Try.i3
  unfold aV
  go_enter Try.func88, Try.ntmps88
  iterate 23 go_step
  refine wl67 rfl (.tmp 2) rfl _ rfl CW hl ?_
  generalize w.alloc (.cells (ic c).toArray 67) = W at *
  have HS : Hid (c.length = 16) := hl
  clear hl
  go_wp2_with fail
  go_loopw [5, 9] (fun v i wr => ∃ k : Nat, k ≤ 16 ∧ i = .int .i64 k ∧ wr.ownsRow W.heap.size 3 1 v (membersK c u k).length (ic (membersK c u k)) ∧ Below W.heap.size W wr) (fun _ i _ => 16 - (intOf i).toNat)
  case atStart => exact ⟨0, by omega, rfl, World.ownsRow_nil _ _ _ _, Below.refl _ _⟩
  case round =>
    obtain ⟨k, hk, rfl, hown, hbw⟩ := hrel
    by_cases hlt : k < 16
    · have hix := idx67 c k HS.out hlt
      have hkn : (k : Int) < 16 := by omega
      have hle := membersK_le c u k
      by_cases hf : c.getD k 0 = u
      · have HF : Hid (membersK c u (k + 1) = membersK c u k ++ [(k : Int)]) := by unfold Hid; rw [membersK_succ, if_pos hf]
        generalize membersK c u k = ls at *
        generalize c.getD k 0 = z at *
        go_wp2_with (at_builtin; refine wpList_append_own _ rfl _ _ 39 rfl W.heap.size 3 i0 (.int .i64 0) 1 8 Try.underlying39 hi hz0 hz1 hz2 rfl (by decide) _ _ _ rfl (hown.alloc _) ⟨wr.heap.size, 0, none⟩ 1 1 [.int .i64 k] rfl rfl ?c1 ?c2 ?c3 ?c4 ?c5 ?_)
        case c1 =>
          intro j u hj
          match j, hj with
          | 0, hj => simp at hj; subst hj; simp [Addr.add]
        case c2 => intro u hu; simp at hu; subst hu; rfl
        case c3 => unfold maxLen; omega
        case c4 => omega
        case c5 => have := hbw.size; simp; omega
        · intro v' w4 hown' hg hiff
          have hb2 := (hbw.alloc hbw.size _).grown hg (Nat.le_trans hbw.size (by simp)) (by intro q hq; exact (hown.lt q hq).1)
          clear hiff hg hown hbw
          go_wp2
          first
            | (go_roundw
               case rel => exact ⟨k + 1, by omega, by go_num, by rw [HF.out]; simpa [ic] using hown', hb2⟩
               case measure => simp [intOf]; omega)
            | ((repeat apply Exists.intro); exact ⟨⟨k + 1, by omega, by go_num, by rw [HF.out]; simpa [ic] using hown', hb2⟩, rfl⟩)
      · have HF : Hid (membersK c u (k + 1) = membersK c u k) := by unfold Hid; rw [membersK_succ, if_neg hf, List.append_nil]
        generalize c.getD k 0 = z at *
        go_wp2
        go_roundw
        case rel => exact ⟨k + 1, by omega, by go_num, by rw [HF.out]; exact hown, hbw⟩
        case measure => simp [intOf]; omega
    · have hown2 := hown
      rw [show k = 16 by omega] at hown2
      have hge : ¬ ((k : Int) < 16) := by omega
      clear hown
      obtain ⟨a, cq, rfl, hr⟩ := IntIn.ofOwns hown2
      have L3 := LW.trans (hbw.mono sW)
      go_wp2
      go_ret
      exact ⟨a, ⟨cq, rfl⟩, hr.mono sW (Nat.le_refl _), L3⟩
end Go.Proofs.Ytiolgbckichneaa
