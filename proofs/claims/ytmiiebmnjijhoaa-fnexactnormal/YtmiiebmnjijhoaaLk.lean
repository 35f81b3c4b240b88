/-
  The method links of classes: each term that is not its class, with that.
-/
import Derived.Test.YtmiiebmnjijhoaaL3
import Derived.Test.YtmiiebmnjijhoaaCl
namespace Go.Proofs.Ytmiiebmnjijhoaa
open Go.RowKit
def linksK (c : List Int) (k : Nat) : List (Int × Int) := ((List.range k).filter fun t => decide (¬ c.getD t 0 = (t : Int))).map fun (t : Nat) => ((t : Int), c.getD t 0)
def linksV (c : List Int) : List (Int × Int) := linksK c 16
theorem linksK_succ (c : List Int) (k : Nat) : linksK c (k + 1) = linksK c k ++ if c.getD k 0 = (k : Int) then [] else [((k : Int), c.getD k 0)] := by
  unfold linksK
  rw [List.range_succ, List.filter_append, List.map_append]
  by_cases h : c.getD k 0 = (k : Int)
  · rw [if_pos h]; simp only [List.filter_cons, List.filter_nil, h, not_true_eq_false, decide_false, Bool.false_eq_true, if_false, List.map_nil]
  · rw [if_neg h]; simp only [List.filter_cons, List.filter_nil, h, not_false_eq_true, decide_true, if_true, List.map_cons, List.map_nil]
theorem linksK_le (c : List Int) (k : Nat) : (linksK c k).length ≤ k := by
  unfold linksK
  rw [List.length_map]
  have := List.length_filter_le (fun t => decide (¬ c.getD t 0 = (t : Int))) (List.range k)
  simpa using this

set_option maxRecDepth 3000 in
set_option maxHeartbeats 1000000 in
theorem links_any (c : List Int) (hl : c.length = 16) (w : World) :
    Calls Try.prog 132 #[aV c] w fun e w' => ∃ a cq, e = .returned (.slice a (linksV c).length cq) ∧ RowIn w' w.heap.size w'.heap.size a (linksV c).length (linksV c) ∧ Below w.heap.size w w' := by
  have CW := OwnI.new w c 16 hl 88
  have LW : Below w.heap.size w (w.alloc (.cells (ic c).toArray 88)) := (Below.refl _ _).alloc (Nat.le_refl _) _
  have sW : w.heap.size ≤ (w.alloc (.cells (ic c).toArray 88)).heap.size := by simp
  obtain ⟨i0, hi, hz0, hz1, hz2⟩ := Try.i57
  unfold aV
  go_enter Try.func132, Try.ntmps132
  iterate 23 go_step
  refine wl67 rfl (.tmp 1) rfl _ rfl CW hl ?_
  generalize w.alloc (.cells (ic c).toArray 88) = W at *
  have HS : Hid (c.length = 16) := hl
  clear hl
  go_wp2_with fail
  go_loopw [3, 7] (fun v i wr => ∃ k : Nat, k ≤ 16 ∧ i = .int .i64 k ∧ wr.ownsRow W.heap.size 67 2 v (linksK c k).length (pc (linksK c k)) ∧ Below W.heap.size W wr) (fun _ i _ => 16 - (intOf i).toNat)
  case atStart => exact ⟨0, by omega, rfl, World.ownsRow_nil _ _ _ _, Below.refl _ _⟩
  case round =>
    obtain ⟨k, hk, rfl, hown, hbw⟩ := hrel
    by_cases hlt : k < 16
    · have hix := idx67 c k HS.out hlt
      have hkn : (k : Int) < 16 := by omega
      have hle := linksK_le c k
      by_cases hf : c.getD k 0 = (k : Int)
      · have HF : Hid (linksK c (k + 1) = linksK c k) := by unfold Hid; rw [linksK_succ, if_pos hf, List.append_nil]
        generalize c.getD k 0 = z at *
        go_wp2
        go_roundw
        case rel => exact ⟨k + 1, by omega, by go_num, by rw [HF.out]; exact hown, hbw⟩
        case measure => simp [intOf]; omega
      · have HF : Hid (linksK c (k + 1) = linksK c k ++ [((k : Int), c.getD k 0)]) := by unfold Hid; rw [linksK_succ, if_neg hf]
        generalize linksK c k = ls at *
        generalize c.getD k 0 = z at *
        go_wp2_with (at_builtin; refine wpList_append_own _ rfl _ _ 26 rfl W.heap.size 67 i0 (.agg #[.int .i64 0, .int .i64 0]) 2 16 Try.underlying26 hi hz0 hz1 hz2 rfl (by decide) _ _ _ rfl (hown.alloc _) ⟨wr.heap.size, 0, none⟩ 1 1 [.int .i64 k, .int .i64 z] rfl rfl ?c1 ?c2 ?c3 ?c4 ?c5 ?_)
        case c1 =>
          intro j u hj
          match j, hj with
          | 0, hj => simp at hj; subst hj; simp [Addr.add]
          | 1, hj => simp at hj; subst hj; simp [Addr.add]
          | j + 2, hj => simp at hj
        case c2 => intro u hu; simp at hu; rcases hu with rfl | rfl <;> rfl
        case c3 => unfold maxLen; omega
        case c4 => omega
        case c5 => have := hbw.size; simp; omega
        · intro v' w4 hown' hg hiff
          have hb2 := (hbw.alloc hbw.size _).grown hg (Nat.le_trans hbw.size (by simp)) (by intro q hq; exact (hown.lt q hq).1)
          clear hiff hg hown hbw
          go_wp2
          first
            | (go_roundw
               case rel => exact ⟨k + 1, by omega, by go_num, by rw [HF.out]; simpa [pc] using hown', hb2⟩
               case measure => simp [intOf]; omega)
            | ((repeat apply Exists.intro); exact ⟨⟨k + 1, by omega, by go_num, by rw [HF.out]; simpa [pc] using hown', hb2⟩, rfl⟩)
    · have hown2 := hown
      rw [show k = 16 by omega] at hown2
      have hge : ¬ ((k : Int) < 16) := by omega
      clear hown
      obtain ⟨a, cq, rfl, hr⟩ := RowIn.ofOwns hown2
      have L3 := LW.trans (hbw.mono sW)
      go_wp2
      go_ret
      exact ⟨a, ⟨cq, rfl⟩, hr.mono sW (Nat.le_refl _), L3⟩
end Go.Proofs.Ytmiiebmnjijhoaa
