/-
  The contract of spec.l3heads, with the room behind what it answers.
-/
import Derived.Test.YtldhbooginlcpaaHd
namespace Go.Proofs.Ytldhbooginlcpaa
open Go.RowKit
theorem IntIn.ofOwnsC {w : World} {base n : Nat} {v : Value} {l : List Int} (h : w.ownsRow base 3 1 v n (ic l)) : ∃ a cap, v = .slice a n cap ∧ n ≤ cap ∧ IntIn w base w.heap.size a n l := by
  have h0 := h
  rcases h.2 with ⟨rfl, rfl⟩ | ⟨g, cap, cur, rfl, _, _, hcap, _⟩
  · exact ⟨none, 0, rfl, Nat.le_refl _, by have := h.1; rw [ic_length] at this; omega, .inl rfl⟩
  · obtain ⟨hl, hb, ho⟩ := OwnI.ofOwns h0
    exact ⟨_, _, rfl, hcap, hl, .inr ⟨g, rfl, hb, ho.1, ho⟩⟩

set_option maxRecDepth 3000 in
set_option maxHeartbeats 2000000 in
theorem l3heads_cap (a0 a1 a2 a3 : Option Addr) (c0 c1 c2 c3 : Nat) (l0 l1 l2 l3 : List (Int × Int)) (b cp : Nat) (c : List Int) (hl : c.length = 16) (w : World) (n2 : l2.length ≤ 1048576) (n3 : l3.length ≤ 1048576) (t2 : toks l2 = true) (t3 : toks l3 = true) (r2 : PRow w a2 l2) (r3 : PRow w a3 l3) (CO : OwnI w b 16 c 16) :
    Calls Try.prog 145 #[.agg #[.slice a0 l0.length c0, .slice a1 l1.length c1, .slice a2 l2.length c2, .slice a3 l3.length c3], .slice (some ⟨b, 0, none⟩) 16 cp] w fun e w' => ∃ a cq, e = .returned (.slice a (headsV c l2 l3).length cq) ∧ (headsV c l2 l3).length ≤ cq ∧ IntIn w' w.heap.size w'.heap.size a (headsV c l2 l3).length (headsV c l2 l3) ∧ Below w.heap.size w w' := by
  have CW := CO.alloc (.cells #[.slice a0 l0.length c0, .slice a1 l1.length c1, .slice a2 l2.length c2, .slice a3 l3.length c3] 28)
  have BW := Box.new w (.slice a0 l0.length c0) (.slice a1 l1.length c1) (.slice a2 l2.length c2) (.slice a3 l3.length c3) 28
  have LW : Below w.heap.size w (w.alloc (.cells #[.slice a0 l0.length c0, .slice a1 l1.length c1, .slice a2 l2.length c2, .slice a3 l3.length c3] 28)) := (Below.refl _ _).alloc (Nat.le_refl _) _
  have y2 := BW.c2; have y3 := BW.c3
  have sW : w.heap.size ≤ (w.alloc (.cells #[.slice a0 l0.length c0, .slice a1 l1.length c1, .slice a2 l2.length c2, .slice a3 l3.length c3] 28)).heap.size := by simp
  obtain ⟨i0, hi, hz0, hz1, hz2⟩ := Try.i3
  have HV : Hid (headsV c l2 l3 = headsOf c l2 ++ headsOf c l3) := rfl
  have HHL : Hid (c.length = 16) := hl
  clear hl
  go_enter Try.func145, Try.ntmps145
  go_wp2_with fail
  generalize (w.alloc (.cells #[.slice a0 l0.length c0, .slice a1 l1.length c1, .slice a2 l2.length c2, .slice a3 l3.length c3] 28)) = W at *
  clear y2 y3
  go_loopw [5, 6] (fun v i wr => ∃ k : Nat, k ≤ l2.length ∧ i = .int .i64 k ∧ wr.ownsRow W.heap.size 3 1 v (headsOf c (l2.take k)).length (ic (headsOf c (l2.take k))) ∧ Below W.heap.size W wr) (fun _ i _ => l2.length - (intOf i).toNat)
  case atStart => exact ⟨0, Nat.zero_le _, rfl, World.ownsRow_nil _ _ _ _, Below.refl _ _⟩
  case round =>
    skip
    obtain ⟨k, hk, rfl, hown, hbw⟩ := hrel
    by_cases hlt : k < l2.length
    · rcases r2 with hnil | ⟨b2, off, rfl, hb, hc⟩
      · rw [hnil] at hlt; simp at hlt
      have hq0 : wr.cell? ⟨b2, off + k * 2, none⟩ = some (.int .i64 (l2.getD k (0, 0)).1) := by rw [hbw.cell (p := ⟨b2, _, none⟩) (Nat.lt_of_lt_of_le hb sW)]; rw [LW.cell (p := ⟨b2, _, none⟩) hb]; exact (hc k hlt).1
      have hq1 : wr.cell? ⟨b2, off + k * 2 + 1, none⟩ = some (.int .i64 (l2.getD k (0, 0)).2) := by rw [hbw.cell (p := ⟨b2, _, none⟩) (Nat.lt_of_lt_of_le hb sW)]; rw [LW.cell (p := ⟨b2, _, none⟩) hb]; exact (hc k hlt).2
      have hkn : (k : Int) < (l2.length : Int) := by omega
      have hk0' : (0 : Int) ≤ (k : Int) := by omega
      have htk := (toks_get t2 hlt).1
      have HF : Hid ((headsOf c (l2.take (k + 1))) = (headsOf c (l2.take k)) ++ [c.getD (l2.getD k (0, 0)).1.toNat 0]) := by unfold Hid; rw [headsOf_step c hlt]
      have hle : (headsOf c (l2.take k)).length ≤ 2097152 := by have := headsOf_len c (l2.take k); simp only [List.length_take] at *; omega
      generalize (headsOf c (l2.take k)) = ls at *
      generalize l2.getD k (0, 0) = p at *
      clear hc
      obtain ⟨q1, q2⟩ := htk
      obtain ⟨x, y, rfl, hx⟩ : ∃ (x : Nat) (y : Int), p = ((x : Int), y) ∧ x < 16 := ⟨p.1.toNat, p.2, by rw [Int.toNat_of_nonneg q1], by omega⟩
      clear q1 q2
      dsimp only at hq0 hq1
      rw [Int.toNat_natCast] at HF
      have hxi : (x : Int) < 16 := by omega
      have hx0 : (0 : Int) ≤ (x : Int) := by omega
      have eb := (BW.below hbw BW.lt).c2
      have eu := (CW.below hbw CW.1).2.2 x hx
      have hbw0 := hbw
      have hown0 := hown
      skip
      generalize c.getD x 0 = u at *
      go_wp2_with (at_builtin; refine wpList_append_own _ rfl _ _ 44 rfl W.heap.size 3 i0 (.int .i64 0) 1 8 Try.underlying44 hi hz0 hz1 hz2 rfl (by decide) _ _ _ rfl (hown.alloc _) ⟨wr.heap.size, 0, none⟩ 1 1 [.int .i64 u] rfl rfl ?c1 ?c2 ?c3 ?c4 ?c5 ?_)
      case c1 =>
        intro j u hj
        match j, hj with
        | 0, hj => simp at hj; subst hj; simp [Addr.add]
      case c2 => intro u hu; simp at hu; subst hu; rfl
      case c3 => unfold maxLen; omega
      case c4 => omega
      case c5 => have := hbw0.size; simp; omega
      · intro v' w4 hown' hg hiff
        have hb2 := (hbw.alloc hbw.size _).grown hg (Nat.le_trans hbw.size (by simp)) (by intro q hq; exact (hown.lt q hq).1)
        clear hiff hg hown hbw hown0 hbw0 eu eb
        go_wp2
        first
          | (go_roundw
             case rel => exact ⟨k + 1, by omega, by go_num, by rw [HF.out]; simpa [ic] using hown', hb2⟩
             case measure => simp [intOf]; omega)
          | ((repeat apply Exists.intro); exact ⟨⟨k + 1, by omega, by go_num, by rw [HF.out]; simpa [ic] using hown', hb2⟩, rfl⟩)
    · have hown2 := hown
      rw [show k = l2.length by omega, List.take_length] at hown2
      clear hown
      have hge : ¬ ((k : Int) < (l2.length : Int)) := by omega
      have eb := (BW.below hbw BW.lt).c2
      have eb3 := (BW.below hbw BW.lt).c3
      rw [show headsOf c l2 = headsOf c l2 ++ headsOf c (l3.take 0) by simp [headsOf]] at hown2
      go_wp2_with fail
      have hbwA := hbw
      clear hbw eb eb3
      go_loopw [5, 7] (fun v i wr => ∃ k : Nat, k ≤ l3.length ∧ i = .int .i64 k ∧ wr.ownsRow W.heap.size 3 1 v (headsOf c l2 ++ headsOf c (l3.take k)).length (ic (headsOf c l2 ++ headsOf c (l3.take k))) ∧ Below W.heap.size W wr) (fun _ i _ => l3.length - (intOf i).toNat)
      case atStart => exact ⟨0, Nat.zero_le _, rfl, hown2, hbwA⟩
      case round =>
        clear hown2 hbwA
        obtain ⟨k, hk, rfl, hown, hbw⟩ := hrel
        by_cases hlt : k < l3.length
        · rcases r3 with hnil | ⟨b3, off, rfl, hb, hc⟩
          · rw [hnil] at hlt; simp at hlt
          have hq0 : wr.cell? ⟨b3, off + k * 2, none⟩ = some (.int .i64 (l3.getD k (0, 0)).1) := by rw [hbw.cell (p := ⟨b3, _, none⟩) (Nat.lt_of_lt_of_le hb sW)]; rw [LW.cell (p := ⟨b3, _, none⟩) hb]; exact (hc k hlt).1
          have hq1 : wr.cell? ⟨b3, off + k * 2 + 1, none⟩ = some (.int .i64 (l3.getD k (0, 0)).2) := by rw [hbw.cell (p := ⟨b3, _, none⟩) (Nat.lt_of_lt_of_le hb sW)]; rw [LW.cell (p := ⟨b3, _, none⟩) hb]; exact (hc k hlt).2
          have hkn : (k : Int) < (l3.length : Int) := by omega
          have hk0' : (0 : Int) ≤ (k : Int) := by omega
          have htk := (toks_get t3 hlt).1
          have HF : Hid ((headsOf c l2 ++ headsOf c (l3.take (k + 1))) = (headsOf c l2 ++ headsOf c (l3.take k)) ++ [c.getD (l3.getD k (0, 0)).1.toNat 0]) := by unfold Hid; rw [headsOf_step c hlt]; simp
          have hle : (headsOf c l2 ++ headsOf c (l3.take k)).length ≤ 2097152 := by have := headsOf_len c (l3.take k); have := headsOf_len c l2; simp only [List.length_append, List.length_take] at *; omega
          generalize (headsOf c l2 ++ headsOf c (l3.take k)) = ls at *
          generalize l3.getD k (0, 0) = p at *
          clear hc
          obtain ⟨q1, q2⟩ := htk
          obtain ⟨x, y, rfl, hx⟩ : ∃ (x : Nat) (y : Int), p = ((x : Int), y) ∧ x < 16 := ⟨p.1.toNat, p.2, by rw [Int.toNat_of_nonneg q1], by omega⟩
          clear q1 q2
          dsimp only at hq0 hq1
          rw [Int.toNat_natCast] at HF
          have hxi : (x : Int) < 16 := by omega
          have hx0 : (0 : Int) ≤ (x : Int) := by omega
          have eb := (BW.below hbw BW.lt).c3
          have eu := (CW.below hbw CW.1).2.2 x hx
          have hbw0 := hbw
          have hown0 := hown
          skip
          generalize c.getD x 0 = u at *
          go_wp2_with (at_builtin; refine wpList_append_own _ rfl _ _ 44 rfl W.heap.size 3 i0 (.int .i64 0) 1 8 Try.underlying44 hi hz0 hz1 hz2 rfl (by decide) _ _ _ rfl (hown.alloc _) ⟨wr.heap.size, 0, none⟩ 1 1 [.int .i64 u] rfl rfl ?c1 ?c2 ?c3 ?c4 ?c5 ?_)
          case c1 =>
            intro j u hj
            match j, hj with
            | 0, hj => simp at hj; subst hj; simp [Addr.add]
          case c2 => intro u hu; simp at hu; subst hu; rfl
          case c3 => unfold maxLen; omega
          case c4 => omega
          case c5 => have := hbw0.size; simp; omega
          · intro v' w4 hown' hg hiff
            have hb2 := (hbw.alloc hbw.size _).grown hg (Nat.le_trans hbw.size (by simp)) (by intro q hq; exact (hown.lt q hq).1)
            clear hiff hg hown hbw hown0 hbw0 eu eb
            go_wp2
            first
              | (go_roundw
                 case rel => exact ⟨k + 1, by omega, by go_num, by rw [HF.out]; simpa [ic] using hown', hb2⟩
                 case measure => simp [intOf]; omega)
              | ((repeat apply Exists.intro); exact ⟨⟨k + 1, by omega, by go_num, by rw [HF.out]; simpa [ic] using hown', hb2⟩, rfl⟩)
        · have hown2 := hown
          rw [show k = l3.length by omega, List.take_length] at hown2
          clear hown
          have hge : ¬ ((k : Int) < (l3.length : Int)) := by omega
          have eb := (BW.below hbw BW.lt).c3
          have eb3 := (BW.below hbw BW.lt).c3
          obtain ⟨a, cq, rfl, hcap, hr⟩ := IntIn.ofOwnsC hown2
          have L3 := LW.trans (hbw.mono sW)
          have HCAP : Hid ((headsV c l2 l3).length ≤ cq) := by unfold Hid; rw [HV.out]; exact hcap
          clear hcap
          go_wp2
          go_ret
          exact ⟨a, cq, by rw [HV.out, List.length_append]; rfl, HCAP.out, by rw [HV.out]; exact hr.mono sW (Nat.le_refl _), L3⟩

end Go.Proofs.Ytldhbooginlcpaa
