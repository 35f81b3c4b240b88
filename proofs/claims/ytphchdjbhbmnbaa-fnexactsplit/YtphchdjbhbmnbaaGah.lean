/-
  Plain lemmas and contracts of functions for the other texts of this seat: Hs, Hc, Ct, Ra, Cu, Sr.
-/
import Derived.Test.YtphchdjbhbmnbaaGag
import Derived.Deep.QuietTactic
import Derived.BigQuiet
import Derived.Test.YtphchdjbhbmnbaaGaf
import Derived.Deep.Onto
import Derived.Laws.OwnMore
import Derived.Test.YtphchdjbhbmnbaaGab
import Derived.Test.YtphchdjbhbmnbaaGaa
import Derived.Test.YtphchdjbhbmnbaaGad
namespace Go.Proofs.Ytphchdjbhbmnbaa
open Go.RowKit
def headsA (l0 l1 l2 l3 : List (Int × Int)) : List Int := if asnB l0 l1 l2 l3 = true then headsV (clsV l0) l2 l3 else []
theorem headsA_le (l0 l1 l2 l3 : List (Int × Int)) : (headsA l0 l1 l2 l3).length ≤ 1048576 := by
  unfold headsA
  split
  · rename_i h
    unfold asnB at h
    simp only [Bool.and_eq_true, decide_eq_true_eq] at h
    unfold headsV
    rw [List.length_append, headsOf_len, headsOf_len]
    omega
  · exact Nat.zero_le _
theorem keepB {q : Nat} {y0 y1 y2 y3 : Value} {w w1 w2 : World}
    (h : Below w.heap.size w w1 ∧ w1.cell? ⟨q, 0, none⟩ = some y0 ∧ w1.cell? ⟨q, 1, none⟩ = some y1 ∧ w1.cell? ⟨q, 2, none⟩ = some y2 ∧ w1.cell? ⟨q, 3, none⟩ = some y3)
    (hb : Below w1.heap.size w1 w2) (h2 : q < w1.heap.size) :
    Below w.heap.size w w2 ∧ w2.cell? ⟨q, 0, none⟩ = some y0 ∧ w2.cell? ⟨q, 1, none⟩ = some y1 ∧ w2.cell? ⟨q, 2, none⟩ = some y2 ∧ w2.cell? ⟨q, 3, none⟩ = some y3 := by
  obtain ⟨a1, a2, a3, a4, a5⟩ := h
  refine ⟨a1.trans (hb.mono a1.size), ?_, ?_, ?_, ?_⟩
  · rw [hb.cell (p := ⟨q, _, none⟩) h2]; exact a2
  · rw [hb.cell (p := ⟨q, _, none⟩) h2]; exact a3
  · rw [hb.cell (p := ⟨q, _, none⟩) h2]; exact a4
  · rw [hb.cell (p := ⟨q, _, none⟩) h2]; exact a5

set_option maxRecDepth 3000 in
set_option maxHeartbeats 1000000 in
theorem sHeads_any (a0 a1 a2 a3 : Option Addr) (c0 c1 c2 c3 : Nat) (l0 l1 l2 l3 : List (Int × Int)) (w : World)
    (n0 : l0.length ≤ 1048576) (n1 : l1.length ≤ 1048576) (n2 : l2.length ≤ 1048576) (n3 : l3.length ≤ 1048576)
    (r0 : PRow w a0 l0) (r1 : PRow w a1 l1) (r2 : PRow w a2 l2) (r3 : PRow w a3 l3) :
    Calls Try.prog 70 #[.agg #[.slice a0 l0.length c0, .slice a1 l1.length c1, .slice a2 l2.length c2, .slice a3 l3.length c3]] w fun e w' => ∃ a cq, e = .returned (.slice a (headsA l0 l1 l2 l3).length cq) ∧ IntIn w' w.heap.size w'.heap.size a (headsA l0 l1 l2 l3).length (headsA l0 l1 l2 l3) ∧ Below w.heap.size w w' := by
  have B0 := Box.new w (.slice a0 l0.length c0) (.slice a1 l1.length c1) (.slice a2 l2.length c2) (.slice a3 l3.length c3) 28
  have L0 : Below w.heap.size w (w.alloc (.cells #[.slice a0 l0.length c0, .slice a1 l1.length c1, .slice a2 l2.length c2, .slice a3 l3.length c3] 28)) := (Below.refl _ _).alloc (Nat.le_refl _) _
  go_enter Try.func70, Try.ntmps70
  go_wp2_with fail
  refine (sAsnOk_any _ _ _ _ _ _ _ _ _ _ _ _ _ n0 n1 n2 n3 (by exact r0.below L0 (Nat.le_refl _)) (by exact r1.below L0 (Nat.le_refl _)) (by exact r2.below L0 (Nat.le_refl _)) (by exact r3.below L0 (Nat.le_refl _))).mono ?_
  rintro e w1 ⟨rfl, hb⟩
  have B1 := B0.below hb B0.lt; have L1 := L0.trans (hb.mono L0.size)
  clear hb B0 L0
  cases ha : asnB l0 l1 l2 l3
  · have HE : Hid (headsA l0 l1 l2 l3 = []) := by unfold Hid headsA; rw [ha]; rfl
    go_wp2
    go_ret
    rw [HE.out]
    exact ⟨none, 0, rfl, ⟨rfl, .inl rfl⟩, L1⟩
  have HE : Hid (headsA l0 l1 l2 l3 = headsV (clsV l0) l2 l3) := by unfold Hid headsA; rw [ha]; rfl
  have ht := asnB_tokA ha
  have HC := (Cls.all ht.1).1
  replace HC : Hid ((clsV l0).length = 16) := HC
  clear ha
  have x0 := B1.c0; have x1 := B1.c1; have x2 := B1.c2; have x3 := B1.c3
  go_wp2_with fail
  have hS0 : Below w.heap.size w w1.drew ∧ w1.drew.cell? ⟨w.heap.size, 0, none⟩ = some (.slice a0 l0.length c0) ∧ w1.drew.cell? ⟨w.heap.size, 1, none⟩ = some (.slice a1 l1.length c1) ∧ w1.drew.cell? ⟨w.heap.size, 2, none⟩ = some (.slice a2 l2.length c2) ∧ w1.drew.cell? ⟨w.heap.size, 3, none⟩ = some (.slice a3 l3.length c3) := ⟨L1.drew, x0, x1, x2, x3⟩
  have hq := B1.lt
  clear B1 x0 x1 x2 x3
  go_region_held3 (fun w' => Below w.heap.size w w' ∧ w'.cell? ⟨w.heap.size, 0, none⟩ = some (.slice a0 l0.length c0) ∧ w'.cell? ⟨w.heap.size, 1, none⟩ = some (.slice a1 l1.length c1) ∧ w'.cell? ⟨w.heap.size, 2, none⟩ = some (.slice a2 l2.length c2) ∧ w'.cell? ⟨w.heap.size, 3, none⟩ = some (.slice a3 l3.length c3))
    (first | exact hS0 | assumption | (refine ⟨?_, ?_, ?_, ?_, ?_⟩ <;> assumption))
    (first
      | (go_at_call 151; refine (l3classes_any _ _ _ _ _ _ _ _ _ _ _ _ _ n0 ht.1 (r0.below hS0.1 (Nat.le_refl _))).mono ?_; rintro e u0 ⟨b, cp, rfl, hbb, O, h0⟩; have k0 := keepB hS0 h0 (by simpa using hq))
      | (go_at_call 163; refine (l3heads_any _ _ _ _ _ _ _ _ _ _ _ _ b cp (clsV l0) HC.out _ n2 n3 ht.2.2.1 ht.2.2.2 (r2.below k0.1 (Nat.le_refl _)) (r3.below k0.1 (Nat.le_refl _)) O).mono ?_; rintro e u1 ⟨ag, cg, rfl, G, h1⟩; have k1 := keepB k0 h1 (by have := h0.size; simp at this; omega)))
  all_goals
    have s0 := k0.1.size
    go_wp2
    go_ret
    rw [HE.out]
    exact ⟨ag, cg, rfl, G.mono s0 (Nat.le_refl _), k1.1⟩

set_option maxRecDepth 3000 in
set_option maxHeartbeats 1000000 in
theorem iHeads_any (a0 a1 a2 a3 : Option Addr) (c0 c1 c2 c3 : Nat) (l0 l1 l2 l3 : List (Int × Int)) (w : World)
    (n0 : l0.length ≤ 1048576) (n1 : l1.length ≤ 1048576) (n2 : l2.length ≤ 1048576) (n3 : l3.length ≤ 1048576)
    (r0 : PRow w a0 l0) (r1 : PRow w a1 l1) (r2 : PRow w a2 l2) (r3 : PRow w a3 l3) :
    Calls Try.prog 71 #[.agg #[.slice a0 l0.length c0, .slice a1 l1.length c1, .slice a2 l2.length c2, .slice a3 l3.length c3]] w fun e w' => ∃ a cq, e = .returned (.slice a (headsA l0 l1 l2 l3).length cq) ∧ IntIn w' w.heap.size w'.heap.size a (headsA l0 l1 l2 l3).length (headsA l0 l1 l2 l3) ∧ Below w.heap.size w w' := by
  have B0 := Box.new w (.slice a0 l0.length c0) (.slice a1 l1.length c1) (.slice a2 l2.length c2) (.slice a3 l3.length c3) 28
  have L0 : Below w.heap.size w (w.alloc (.cells #[.slice a0 l0.length c0, .slice a1 l1.length c1, .slice a2 l2.length c2, .slice a3 l3.length c3] 28)) := (Below.refl _ _).alloc (Nat.le_refl _) _
  go_enter Try.func71, Try.ntmps71
  go_wp2_with fail
  refine (iAsnOk_any _ _ _ _ _ _ _ _ _ _ _ _ _ n0 n1 n2 n3 (by exact r0.below L0 (Nat.le_refl _)) (by exact r1.below L0 (Nat.le_refl _)) (by exact r2.below L0 (Nat.le_refl _)) (by exact r3.below L0 (Nat.le_refl _))).mono ?_
  rintro e w1 ⟨rfl, hb⟩
  have B1 := B0.below hb B0.lt; have L1 := L0.trans (hb.mono L0.size)
  clear hb B0 L0
  cases ha : asnB l0 l1 l2 l3
  · have HE : Hid (headsA l0 l1 l2 l3 = []) := by unfold Hid headsA; rw [ha]; rfl
    go_wp2
    go_ret
    rw [HE.out]
    exact ⟨none, 0, rfl, ⟨rfl, .inl rfl⟩, L1⟩
  have HE : Hid (headsA l0 l1 l2 l3 = headsV (clsV l0) l2 l3) := by unfold Hid headsA; rw [ha]; rfl
  have ht := asnB_tokA ha
  have HC := (Cls.all ht.1).1
  replace HC : Hid ((clsV l0).length = 16) := HC
  clear ha
  have x0 := B1.c0; have x1 := B1.c1; have x2 := B1.c2; have x3 := B1.c3
  go_wp2_with fail
  have hS0 : Below w.heap.size w w1.drew ∧ w1.drew.cell? ⟨w.heap.size, 0, none⟩ = some (.slice a0 l0.length c0) ∧ w1.drew.cell? ⟨w.heap.size, 1, none⟩ = some (.slice a1 l1.length c1) ∧ w1.drew.cell? ⟨w.heap.size, 2, none⟩ = some (.slice a2 l2.length c2) ∧ w1.drew.cell? ⟨w.heap.size, 3, none⟩ = some (.slice a3 l3.length c3) := ⟨L1.drew, x0, x1, x2, x3⟩
  have hq := B1.lt
  clear B1 x0 x1 x2 x3
  go_region_held3 (fun w' => Below w.heap.size w w' ∧ w'.cell? ⟨w.heap.size, 0, none⟩ = some (.slice a0 l0.length c0) ∧ w'.cell? ⟨w.heap.size, 1, none⟩ = some (.slice a1 l1.length c1) ∧ w'.cell? ⟨w.heap.size, 2, none⟩ = some (.slice a2 l2.length c2) ∧ w'.cell? ⟨w.heap.size, 3, none⟩ = some (.slice a3 l3.length c3))
    (first | exact hS0 | assumption | (refine ⟨?_, ?_, ?_, ?_, ?_⟩ <;> assumption))
    (first
      | (go_at_call 152; refine (classesOf_any _ _ _ _ _ _ _ _ _ _ _ _ _ n0 ht.1 (r0.below hS0.1 (Nat.le_refl _))).mono ?_; rintro e u0 ⟨rfl, h0⟩; have k0 := keepB hS0 h0 (by simpa using hq))
      | (go_at_call 159; refine (heads_any _ _ _ _ _ _ _ _ _ _ _ _ (clsV l0) HC.out _ n2 n3 ht.2.2.1 ht.2.2.2 (r2.below k0.1 (Nat.le_refl _)) (r3.below k0.1 (Nat.le_refl _))).mono ?_; rintro e u1 ⟨ag, cg, rfl, G, h1⟩; have k1 := keepB k0 h1 (by have := h0.size; simp at this; omega)))
  all_goals
    have s0 := k0.1.size
    go_wp2
    go_ret
    rw [HE.out]
    exact ⟨ag, cg, rfl, G.mono s0 (Nat.le_refl _), k1.1⟩
end Go.Proofs.Ytphchdjbhbmnbaa
namespace Go.Proofs.Ytphchdjbhbmnbaa
open Go.RowKit
theorem IntIn.ofOwnsC {w : World} {base n : Nat} {v : Value} {l : List Int} (h : w.ownsRow base 3 1 v n (ic l)) : ∃ a cap, v = .slice a n cap ∧ n ≤ cap ∧ IntIn w base w.heap.size a n l := by
  have h0 := h
  rcases h.2 with ⟨rfl, rfl⟩ | ⟨g, cap, cur, rfl, _, _, hcap, _⟩
  · exact ⟨none, 0, rfl, Nat.le_refl _, by have := h.1; rw [ic_length] at this; omega, .inl rfl⟩
  · obtain ⟨hl, hb, ho⟩ := OwnI.ofOwns h0
    exact ⟨_, _, rfl, hcap, hl, .inr ⟨g, rfl, hb, ho.1, ho⟩⟩

set_option maxRecDepth 3000 in
set_option maxHeartbeats 2000000 in
theorem l3heads_cap (a0 a1 a2 a3 : Option Addr) (c0 c1 c2 c3 : Nat) (l0 l1 l2 l3 : List (Int × Int)) (b cp : Nat) (c : List Int) (hl : c.length = 16) (w : World) (n2 : l2.length ≤ 1048576) (n3 : l3.length ≤ 1048576) (t2 : toks l2 = true) (t3 : toks l3 = true) (r2 : PRow w a2 l2) (r3 : PRow w a3 l3) (CO : OwnI w b 16 c 16) :
    Calls Try.prog 163 #[.agg #[.slice a0 l0.length c0, .slice a1 l1.length c1, .slice a2 l2.length c2, .slice a3 l3.length c3], .slice (some ⟨b, 0, none⟩) 16 cp] w fun e w' => ∃ a cq, e = .returned (.slice a (headsV c l2 l3).length cq) ∧ (headsV c l2 l3).length ≤ cq ∧ IntIn w' w.heap.size w'.heap.size a (headsV c l2 l3).length (headsV c l2 l3) ∧ Below w.heap.size w w' := by
  have CW := CO.alloc (.cells #[.slice a0 l0.length c0, .slice a1 l1.length c1, .slice a2 l2.length c2, .slice a3 l3.length c3] 28)
  have BW := Box.new w (.slice a0 l0.length c0) (.slice a1 l1.length c1) (.slice a2 l2.length c2) (.slice a3 l3.length c3) 28
  have LW : Below w.heap.size w (w.alloc (.cells #[.slice a0 l0.length c0, .slice a1 l1.length c1, .slice a2 l2.length c2, .slice a3 l3.length c3] 28)) := (Below.refl _ _).alloc (Nat.le_refl _) _
  have y2 := BW.c2; have y3 := BW.c3
  have sW : w.heap.size ≤ (w.alloc (.cells #[.slice a0 l0.length c0, .slice a1 l1.length c1, .slice a2 l2.length c2, .slice a3 l3.length c3] 28)).heap.size := by simp
  obtain ⟨i0, hi, hz0, hz1, hz2⟩ := Try.i3
  have HV : Hid (headsV c l2 l3 = headsOf c l2 ++ headsOf c l3) := rfl
  have HHL : Hid (c.length = 16) := hl
  clear hl
  go_enter Try.func163, Try.ntmps163
  go_wp2_with fail
  generalize (w.alloc (.cells #[.slice a0 l0.length c0, .slice a1 l1.length c1, .slice a2 l2.length c2, .slice a3 l3.length c3] 28)) = W at *
  clear y2 y3
  go_loopw [5, 6] (fun v i wr => ∃ k : Nat, k ≤ l2.length ∧ i = .int .i64 k ∧ wr.ownsRow W.heap.size 3 1 v (headsOf c (l2.take k)).length (ic (headsOf c (l2.take k))) ∧ Below W.heap.size W wr) (fun _ i _ => l2.length - (intOf i).toNat)
  case atStart => exact ⟨0, Nat.zero_le _, rfl, World.ownsRow_nil _ _ _ _, Below.refl _ _⟩
  case round =>
    skip
    obtain ⟨k, hk, rfl, hown, hbw⟩ := hrel
    by_cases hlt : k < l2.length
    · rcases r2 with hnil | ⟨b2, off, rfl, hb, hc⟩
      · rw [hnil] at hlt; simp at hlt
      have hq0 : wr.cell? ⟨b2, off + k * 2, none⟩ = some (.int .i64 (l2.getD k (0, 0)).1) := by rw [hbw.cell (p := ⟨b2, _, none⟩) (Nat.lt_of_lt_of_le hb sW)]; rw [LW.cell (p := ⟨b2, _, none⟩) hb]; exact (hc k hlt).1
      have hq1 : wr.cell? ⟨b2, off + k * 2 + 1, none⟩ = some (.int .i64 (l2.getD k (0, 0)).2) := by rw [hbw.cell (p := ⟨b2, _, none⟩) (Nat.lt_of_lt_of_le hb sW)]; rw [LW.cell (p := ⟨b2, _, none⟩) hb]; exact (hc k hlt).2
      have hkn : (k : Int) < (l2.length : Int) := by omega
      have hk0' : (0 : Int) ≤ (k : Int) := by omega
      have htk := (toks_get t2 hlt).1
      have HF : Hid ((headsOf c (l2.take (k + 1))) = (headsOf c (l2.take k)) ++ [c.getD (l2.getD k (0, 0)).1.toNat 0]) := by unfold Hid; rw [headsOf_step c hlt]
      have hle : (headsOf c (l2.take k)).length ≤ 2097152 := by have := headsOf_len c (l2.take k); simp only [List.length_take] at *; omega
      generalize (headsOf c (l2.take k)) = ls at *
      generalize l2.getD k (0, 0) = p at *
      clear hc
      obtain ⟨q1, q2⟩ := htk
      obtain ⟨x, y, rfl, hx⟩ : ∃ (x : Nat) (y : Int), p = ((x : Int), y) ∧ x < 16 := ⟨p.1.toNat, p.2, by rw [Int.toNat_of_nonneg q1], by omega⟩
      clear q1 q2
      dsimp only at hq0 hq1
      rw [Int.toNat_natCast] at HF
      have hxi : (x : Int) < 16 := by omega
      have hx0 : (0 : Int) ≤ (x : Int) := by omega
      have eb := (BW.below hbw BW.lt).c2
      have eu := (CW.below hbw CW.1).2.2 x hx
      have hbw0 := hbw
      have hown0 := hown
      skip
      generalize c.getD x 0 = u at *
      go_wp2_with (at_builtin; refine wpList_append_own _ rfl _ _ 44 rfl W.heap.size 3 i0 (.int .i64 0) 1 8 Try.underlying44 hi hz0 hz1 hz2 rfl (by decide) _ _ _ rfl (hown.alloc _) ⟨wr.heap.size, 0, none⟩ 1 1 [.int .i64 u] rfl rfl ?c1 ?c2 ?c3 ?c4 ?c5 ?_)
      case c1 =>
        intro j u hj
        match j, hj with
        | 0, hj => simp at hj; subst hj; simp [Addr.add]
      case c2 => intro u hu; simp at hu; subst hu; rfl
      case c3 => unfold maxLen; omega
      case c4 => omega
      case c5 => have := hbw0.size; simp; omega
      · intro v' w4 hown' hg hiff
        have hb2 := (hbw.alloc hbw.size _).grown hg (Nat.le_trans hbw.size (by simp)) (by intro q hq; exact (hown.lt q hq).1)
        clear hiff hg hown hbw hown0 hbw0 eu eb
        go_wp2
        first
          | (go_roundw
             case rel => exact ⟨k + 1, by omega, by go_num, by rw [HF.out]; simpa [ic] using hown', hb2⟩
             case measure => simp [intOf]; omega)
          | ((repeat apply Exists.intro); exact ⟨⟨k + 1, by omega, by go_num, by rw [HF.out]; simpa [ic] using hown', hb2⟩, rfl⟩)
    · have hown2 := hown
      rw [show k = l2.length by omega, List.take_length] at hown2
      clear hown
      have hge : ¬ ((k : Int) < (l2.length : Int)) := by omega
      have eb := (BW.below hbw BW.lt).c2
      have eb3 := (BW.below hbw BW.lt).c3
      rw [show headsOf c l2 = headsOf c l2 ++ headsOf c (l3.take 0) by simp [headsOf]] at hown2
      go_wp2_with fail
      have hbwA := hbw
      clear hbw eb eb3
      go_loopw [5, 7] (fun v i wr => ∃ k : Nat, k ≤ l3.length ∧ i = .int .i64 k ∧ wr.ownsRow W.heap.size 3 1 v (headsOf c l2 ++ headsOf c (l3.take k)).length (ic (headsOf c l2 ++ headsOf c (l3.take k))) ∧ Below W.heap.size W wr) (fun _ i _ => l3.length - (intOf i).toNat)
      case atStart => exact ⟨0, Nat.zero_le _, rfl, hown2, hbwA⟩
      case round =>
        clear hown2 hbwA
        obtain ⟨k, hk, rfl, hown, hbw⟩ := hrel
        by_cases hlt : k < l3.length
        · rcases r3 with hnil | ⟨b3, off, rfl, hb, hc⟩
          · rw [hnil] at hlt; simp at hlt
          have hq0 : wr.cell? ⟨b3, off + k * 2, none⟩ = some (.int .i64 (l3.getD k (0, 0)).1) := by rw [hbw.cell (p := ⟨b3, _, none⟩) (Nat.lt_of_lt_of_le hb sW)]; rw [LW.cell (p := ⟨b3, _, none⟩) hb]; exact (hc k hlt).1
          have hq1 : wr.cell? ⟨b3, off + k * 2 + 1, none⟩ = some (.int .i64 (l3.getD k (0, 0)).2) := by rw [hbw.cell (p := ⟨b3, _, none⟩) (Nat.lt_of_lt_of_le hb sW)]; rw [LW.cell (p := ⟨b3, _, none⟩) hb]; exact (hc k hlt).2
          have hkn : (k : Int) < (l3.length : Int) := by omega
          have hk0' : (0 : Int) ≤ (k : Int) := by omega
          have htk := (toks_get t3 hlt).1
          have HF : Hid ((headsOf c l2 ++ headsOf c (l3.take (k + 1))) = (headsOf c l2 ++ headsOf c (l3.take k)) ++ [c.getD (l3.getD k (0, 0)).1.toNat 0]) := by unfold Hid; rw [headsOf_step c hlt]; simp
          have hle : (headsOf c l2 ++ headsOf c (l3.take k)).length ≤ 2097152 := by have := headsOf_len c (l3.take k); have := headsOf_len c l2; simp only [List.length_append, List.length_take] at *; omega
          generalize (headsOf c l2 ++ headsOf c (l3.take k)) = ls at *
          generalize l3.getD k (0, 0) = p at *
          clear hc
          obtain ⟨q1, q2⟩ := htk
          obtain ⟨x, y, rfl, hx⟩ : ∃ (x : Nat) (y : Int), p = ((x : Int), y) ∧ x < 16 := ⟨p.1.toNat, p.2, by rw [Int.toNat_of_nonneg q1], by omega⟩
          clear q1 q2
          dsimp only at hq0 hq1
          rw [Int.toNat_natCast] at HF
          have hxi : (x : Int) < 16 := by omega
          have hx0 : (0 : Int) ≤ (x : Int) := by omega
          have eb := (BW.below hbw BW.lt).c3
          have eu := (CW.below hbw CW.1).2.2 x hx
          have hbw0 := hbw
          have hown0 := hown
          skip
          generalize c.getD x 0 = u at *
          go_wp2_with (at_builtin; refine wpList_append_own _ rfl _ _ 44 rfl W.heap.size 3 i0 (.int .i64 0) 1 8 Try.underlying44 hi hz0 hz1 hz2 rfl (by decide) _ _ _ rfl (hown.alloc _) ⟨wr.heap.size, 0, none⟩ 1 1 [.int .i64 u] rfl rfl ?c1 ?c2 ?c3 ?c4 ?c5 ?_)
          case c1 =>
            intro j u hj
            match j, hj with
            | 0, hj => simp at hj; subst hj; simp [Addr.add]
          case c2 => intro u hu; simp at hu; subst hu; rfl
          case c3 => unfold maxLen; omega
          case c4 => omega
          case c5 => have := hbw0.size; simp; omega
          · intro v' w4 hown' hg hiff
            have hb2 := (hbw.alloc hbw.size _).grown hg (Nat.le_trans hbw.size (by simp)) (by intro q hq; exact (hown.lt q hq).1)
            clear hiff hg hown hbw hown0 hbw0 eu eb
            go_wp2
            first
              | (go_roundw
                 case rel => exact ⟨k + 1, by omega, by go_num, by rw [HF.out]; simpa [ic] using hown', hb2⟩
                 case measure => simp [intOf]; omega)
              | ((repeat apply Exists.intro); exact ⟨⟨k + 1, by omega, by go_num, by rw [HF.out]; simpa [ic] using hown', hb2⟩, rfl⟩)
        · have hown2 := hown
          rw [show k = l3.length by omega, List.take_length] at hown2
          clear hown
          have hge : ¬ ((k : Int) < (l3.length : Int)) := by omega
          have eb := (BW.below hbw BW.lt).c3
          have eb3 := (BW.below hbw BW.lt).c3
          obtain ⟨a, cq, rfl, hcap, hr⟩ := IntIn.ofOwnsC hown2
          have L3 := LW.trans (hbw.mono sW)
          have HCAP : Hid ((headsV c l2 l3).length ≤ cq) := by unfold Hid; rw [HV.out]; exact hcap
          clear hcap
          go_wp2
          go_ret
          exact ⟨a, cq, by rw [HV.out, List.length_append]; rfl, HCAP.out, by rw [HV.out]; exact hr.mono sW (Nat.le_refl _), L3⟩

end Go.Proofs.Ytphchdjbhbmnbaa
namespace Go.Proofs.Ytphchdjbhbmnbaa
open Go.RowKit
def sameV (c : List Int) (l : List (Int × Int)) : Bool := l.any fun p => decide (c.getD p.1.toNat 0 = c.getD p.2.toNat 0)
def dupV (h : List Int) : Bool := (List.range h.length).any fun i => decide (h.getD i 0 = 0) || hasV (h.take i) (h.getD i 0)
def contraV (c : List Int) (l1 l2 l3 : List (Int × Int)) : Bool := sameV c l1 || dupV (headsV c l2 l3)
theorem same_hit {c : List Int} {l : List (Int × Int)} {k : Nat} (hk : k < l.length) (h : c.getD (l.getD k (0, 0)).1.toNat 0 = c.getD (l.getD k (0, 0)).2.toNat 0) : sameV c l = true := by
  unfold sameV
  rw [List.any_eq_true]
  refine ⟨l[k], List.getElem_mem hk, ?_⟩
  simpa [hk] using h
theorem same_none {c : List Int} {l : List (Int × Int)} (h : ∀ k, k < l.length → ¬ c.getD (l.getD k (0, 0)).1.toNat 0 = c.getD (l.getD k (0, 0)).2.toNat 0) : sameV c l = false := by
  unfold sameV
  rw [List.any_eq_false]
  intro p hp
  obtain ⟨k, hk, rfl⟩ := List.getElem_of_mem hp
  have := h k hk
  simpa [hk] using this
theorem dup_hit {h : List Int} {k : Nat} (hk : k < h.length) (e : (decide (h.getD k 0 = 0) || hasV (h.take k) (h.getD k 0)) = true) : dupV h = true := by
  unfold dupV
  rw [List.any_eq_true]
  exact ⟨k, by simpa using hk, e⟩
theorem dup_none {h : List Int} (e : ∀ k, k < h.length → (decide (h.getD k 0 = 0) || hasV (h.take k) (h.getD k 0)) = false) : dupV h = false := by
  unfold dupV
  rw [List.any_eq_false]
  intro k hk
  rw [e k (by simpa using hk)]
  decide
theorem OwnI.prefix {w : World} {b n : Nat} {l : List Int} (h : OwnI w b n l n) {k : Nat} (hk : k ≤ n) : OwnI w b k (l.take k) k := by
  obtain ⟨h1, h2, h3⟩ := h
  refine ⟨h1, fun j hj => h2 j (by omega), fun i hi => ?_⟩
  rw [h3 i (by omega)]
  congr 2
  rw [List.getD_eq_getElem?_getD, List.getD_eq_getElem?_getD, List.getElem?_take, if_pos hi]

set_option maxRecDepth 3000 in
set_option maxHeartbeats 2000000 in
theorem l3contra_any (a0 a1 a2 a3 : Option Addr) (c0 c1 c2 c3 : Nat) (l0 l1 l2 l3 : List (Int × Int)) (b cp : Nat) (c : List Int) (hl : c.length = 16) (w : World) (n1 : l1.length ≤ 1048576) (n2 : l2.length ≤ 1048576) (n3 : l3.length ≤ 1048576) (hh : (headsV c l2 l3).length ≤ 1048576) (t1 : toks l1 = true) (t2 : toks l2 = true) (t3 : toks l3 = true) (r1 : PRow w a1 l1) (r2 : PRow w a2 l2) (r3 : PRow w a3 l3) (CO : OwnI w b 16 c 16) :
    Calls Try.prog 164 #[.agg #[.slice a0 l0.length c0, .slice a1 l1.length c1, .slice a2 l2.length c2, .slice a3 l3.length c3], .slice (some ⟨b, 0, none⟩) 16 cp] w fun e w' => e = .returned (.bool (contraV c l1 l2 l3)) ∧ Below w.heap.size w w' := by
  have CW := CO.alloc (.cells #[.slice a0 l0.length c0, .slice a1 l1.length c1, .slice a2 l2.length c2, .slice a3 l3.length c3] 28)
  have BW := Box.new w (.slice a0 l0.length c0) (.slice a1 l1.length c1) (.slice a2 l2.length c2) (.slice a3 l3.length c3) 28
  have LW : Below w.heap.size w (w.alloc (.cells #[.slice a0 l0.length c0, .slice a1 l1.length c1, .slice a2 l2.length c2, .slice a3 l3.length c3] 28)) := (Below.refl _ _).alloc (Nat.le_refl _) _
  have HL : Hid (c.length = 16) := hl
  have HH : Hid ((headsV c l2 l3).length ≤ 1048576) := hh
  clear CO hh hl
  go_enter Try.func164, Try.ntmps164
  go_wp2_with fail
  generalize (w.alloc (.cells #[.slice a0 l0.length c0, .slice a1 l1.length c1, .slice a2 l2.length c2, .slice a3 l3.length c3] 28)) = W at *
  go_loopw [5] (fun i wr => ∃ m : Nat, m ≤ l1.length ∧ i = .int .i64 m ∧ Hid (∀ j, j < m → ¬ c.getD (l1.getD j (0, 0)).1.toNat 0 = c.getD (l1.getD j (0, 0)).2.toNat 0) ∧ OwnI wr b 16 c 16 ∧ Box wr w.heap.size (.slice a0 l0.length c0) (.slice a1 l1.length c1) (.slice a2 l2.length c2) (.slice a3 l3.length c3) ∧ Below w.heap.size w wr) (fun i _ => l1.length - (intOf i).toNat)
  case atStart => exact ⟨0, Nat.zero_le _, rfl, fun j hj => absurd hj (Nat.not_lt_zero _), CW, BW, LW⟩
  case round =>
    clear CW BW LW
    obtain ⟨m, hm, rfl, HM, C, B, L⟩ := hrel
    have e1 := B.c1
    by_cases hlty : m < l1.length
    · rcases r1 with hnil | ⟨b1, off1, rfl, hb1, hcl1⟩
      · rw [hnil] at hlty; simp at hlty
      have hyq0 : wr.cell? ⟨b1, off1 + m * 2, none⟩ = some (.int .i64 (l1.getD m (0, 0)).1) := by rw [L.cell (p := ⟨b1, _, none⟩) hb1]; exact (hcl1 m hlty).1
      have hyq1 : wr.cell? ⟨b1, off1 + m * 2 + 1, none⟩ = some (.int .i64 (l1.getD m (0, 0)).2) := by rw [L.cell (p := ⟨b1, _, none⟩) hb1]; exact (hcl1 m hlty).2
      have hmn : (m : Int) < (l1.length : Int) := by omega
      have hm0 : (0 : Int) ≤ (m : Int) := by omega
      have htm := toks_get t1 hlty
      have HHIT : Hid (c.getD (l1.getD m (0, 0)).1.toNat 0 = c.getD (l1.getD m (0, 0)).2.toNat 0 → sameV c l1 = true) := fun h => same_hit hlty h
      have HM2 : Hid (¬ c.getD (l1.getD m (0, 0)).1.toNat 0 = c.getD (l1.getD m (0, 0)).2.toNat 0 → ∀ j, j < m + 1 → ¬ c.getD (l1.getD j (0, 0)).1.toNat 0 = c.getD (l1.getD j (0, 0)).2.toNat 0) := by
        intro hf j hj
        by_cases e : j = m
        · subst e; exact hf
        · exact HM.out j (by omega)
      generalize l1.getD m (0, 0) = pp at *
      clear hcl1
      obtain ⟨⟨q1, q2⟩, q3, q4⟩ := htm
      obtain ⟨s, t, rfl, hs, hts⟩ : ∃ s t : Nat, pp = ((s : Int), (t : Int)) ∧ s < 16 ∧ t < 16 := ⟨pp.1.toNat, pp.2.toNat, by rw [Int.toNat_of_nonneg q1, Int.toNat_of_nonneg q3], by omega, by omega⟩
      clear q1 q2 q3 q4
      dsimp only at hyq0 hyq1
      simp only [Int.toNat_natCast] at HHIT HM2
      have hsa : (s : Int) < 16 := by omega
      have hta : (t : Int) < 16 := by omega
      have hsb : (0 : Int) ≤ (s : Int) := by omega
      have htb : (0 : Int) ≤ (t : Int) := by omega
      have ep := C.2.2 s hs
      have eq := C.2.2 t hts
      generalize c.getD s 0 = p at *
      generalize c.getD t 0 = q at *
      go_wp2_with fail
      have hS0 : Below w.heap.size w wr.drew ∧ wr.drew.cell? ⟨w.heap.size, 1, none⟩ = some (.slice (some ⟨b1, off1, none⟩) l1.length c1) ∧ wr.drew.cell? ⟨b1, off1 + m * 2, none⟩ = some (.int .i64 s) ∧ wr.drew.cell? ⟨b1, off1 + m * 2 + 1, none⟩ = some (.int .i64 t) ∧ wr.drew.cell? ⟨b, s, none⟩ = some (.int .i64 p) ∧ wr.drew.cell? ⟨b, t, none⟩ = some (.int .i64 q) := ⟨L.drew, e1, hyq0, hyq1, ep, eq⟩
      have C2 := C.drew; have B2 := B.drew
      go_region_held3 (fun w' => Below w.heap.size w w' ∧ w'.cell? ⟨w.heap.size, 1, none⟩ = some (.slice (some ⟨b1, off1, none⟩) l1.length c1) ∧ w'.cell? ⟨b1, off1 + m * 2, none⟩ = some (.int .i64 s) ∧ w'.cell? ⟨b1, off1 + m * 2 + 1, none⟩ = some (.int .i64 t) ∧ w'.cell? ⟨b, s, none⟩ = some (.int .i64 p) ∧ w'.cell? ⟨b, t, none⟩ = some (.int .i64 q))
        (first | exact hS0 | assumption | (refine ⟨?_, ?_, ?_, ?_, ?_, ?_⟩ <;> assumption))
        (fail)
      replace L := hS0.1
      clear hS0 C B e1 ep eq hyq0 hyq1
      generalize wr.drew = wd at *
      by_cases h1 : p = q
      · have HV : Hid (contraV c l1 l2 l3 = true) := by unfold Hid contraV; rw [HHIT.out h1]; rfl
        go_wp2
        go_ret
        exact ⟨by rw [HV.out]; rfl, L⟩
      · have HU2 : Hid (∀ j, j < m + 1 → ¬ c.getD (l1.getD j (0, 0)).1.toNat 0 = c.getD (l1.getD j (0, 0)).2.toNat 0) := HM2.out h1
        go_wp2
        go_roundw
        case rel => exact ⟨m + 1, by omega, by go_num, HU2, C2, B2, L⟩
        case measure => simp [intOf]; omega
    · have HA : Hid (contraV c l1 l2 l3 = dupV (headsV c l2 l3)) := by
        unfold Hid contraV
        rw [same_none (fun j hj => HM.out j (by omega))]
        rfl
      have hge : ¬ ((m : Int) < (l1.length : Int)) := by omega
      have e0 := B.c0; have e2 := B.c2; have e3 := B.c3
      go_wp2_with fail
      refine (l3heads_cap _ _ _ _ _ _ _ _ _ _ _ _ b cp c HL.out _ n2 n3 t2 t3 (by exact r2.below L (Nat.le_refl _)) (by exact r3.below L (Nat.le_refl _)) (by exact C)).mono ?_
      rintro e w3 ⟨ag, cg, rfl, hcap, G, hb⟩
      have L3 := L.trans (hb.mono L.size)
      clear hb B C e0 e1 e2 e3
      have hn := HH.out
      generalize headsV c l2 l3 = hs at *
      obtain ⟨_, hr⟩ := G
      generalize hn2 : hs.length = n at *
      replace hn2 : Hid (hs.length = n) := hn2
      go_wp2_with fail
      go_loopw [7] (fun i wx => ∃ k : Nat, k ≤ n ∧ i = .int .i64 k ∧ Hid (∀ j, j < k → (decide (hs.getD j 0 = 0) || hasV (hs.take j) (hs.getD j 0)) = false) ∧ Below w3.heap.size w3 wx) (fun i _ => n - (intOf i).toNat)
      case atStart => exact ⟨0, Nat.zero_le _, rfl, fun j hj => absurd hj (Nat.not_lt_zero _), Below.refl _ _⟩
      case round =>
        obtain ⟨k, hk, rfl, HK, hbw⟩ := hrel
        have L4 := L3.trans (hbw.mono L3.size)
        by_cases hlt : k < n
        · rcases hr with h0 | ⟨bh, rfl, _, _, OH⟩
          · omega
          have OH2 := OH.below hbw OH.1
          have ev := OH2.2.2 k hlt
          have hkn : (k : Int) < (n : Int) := by omega
          have hk0 : (0 : Int) ≤ (k : Int) := by omega
          have G2 : IntIn wr 0 (bh + 1) (some ⟨bh, 0, none⟩) k (hs.take k) := ⟨by rw [List.length_take, hn2.out]; omega, .inr ⟨bh, rfl, Nat.zero_le _, Nat.lt_succ_self _, OH2.prefix (by omega)⟩⟩
          have HHIT : Hid ((decide (hs.getD k 0 = 0) || hasV (hs.take k) (hs.getD k 0)) = true → contraV c l1 l2 l3 = true) := fun e => by rw [HA.out]; exact dup_hit (by have := hn2.out; omega) e
          have HK2 : Hid ((decide (hs.getD k 0 = 0) || hasV (hs.take k) (hs.getD k 0)) = false → ∀ j, j < k + 1 → (decide (hs.getD j 0 = 0) || hasV (hs.take j) (hs.getD j 0)) = false) := by
            intro hf j hj
            by_cases e : j = k
            · subst e; exact hf
            · exact HK.out j (by omega)
          have hkn3 : (k : Int) ≤ (cg : Int) := by omega
          have HZ : Hid (∃ z, hs.getD k 0 = z) := ⟨_, rfl⟩
          clear HZ
          generalize hs.getD k 0 = z at *
          generalize hs.take k = ts at *
          cases hz : (z == 0)
          · have DZ : decide (z = 0) = false := by rw [beq_eq_false_iff_ne] at hz; exact decide_eq_false hz
            rw [DZ, Bool.false_or] at HHIT HK2
            clear DZ
            go_wp2_with fail
            have hS0 : Below w3.heap.size w3 wr.drew ∧ wr.drew.cell? ⟨bh, k, none⟩ = some (.int .i64 z) ∧ IntIn wr.drew 0 (bh + 1) (some ⟨bh, 0, none⟩) k ts := ⟨hbw.drew, ev, G2.below ((Below.refl _ _).drew) OH2.1⟩
            go_region_held3 (fun w' => Below w3.heap.size w3 w' ∧ w'.cell? ⟨bh, k, none⟩ = some (.int .i64 z) ∧ IntIn w' 0 (bh + 1) (some ⟨bh, 0, none⟩) k ts)
              (first | exact hS0 | assumption | (refine ⟨?_, ?_, ?_⟩ <;> assumption))
              (first
                | (go_at_call 216; refine (l3has_any 0 (bh + 1) k _ _ ts z _ (by omega) hS0.2.2).mono ?_; rintro e wz ⟨rfl, rfl⟩))
            all_goals
              have hbw2 := hS0.1
              clear hS0
              generalize wr.drew = wd at *
              have L5 := L3.trans (hbw2.mono L3.size)
              cases hf : hasV ts z
              · have HK3 : Hid (∀ j, j < k + 1 → (decide (hs.getD j 0 = 0) || hasV (hs.take j) (hs.getD j 0)) = false) := HK2.out hf
                go_wp2
                go_roundw
                case rel => exact ⟨k + 1, by omega, by go_num, HK3, hbw2⟩
                case measure => simp [intOf]; omega
              · have HV : Hid (contraV c l1 l2 l3 = true) := HHIT.out hf
                go_wp2
                go_ret
                exact ⟨by rw [HV.out]; rfl, L5⟩
          · have DZ : decide (z = 0) = true := by rw [beq_iff_eq] at hz; exact decide_eq_true hz
            have HV : Hid (contraV c l1 l2 l3 = true) := HHIT.out (by rw [DZ]; rfl)
            clear DZ
            go_wp2_with fail
            go_quiet (fail)
            go_wp2
            go_ret
            refine ⟨by rw [HV.out]; rfl, ?_⟩
            exact L4.trans ⟨rfl, rfl, rfl, Nat.le_refl _, fun _ _ => rfl⟩
        · have HV : Hid (contraV c l1 l2 l3 = false) := by unfold Hid; rw [HA.out]; exact dup_none (fun j hj => HK.out j (by have := hn2.out; omega))
          have hge2 : ¬ ((k : Int) < (n : Int)) := by omega
          go_wp2
          go_ret
          exact ⟨by rw [HV.out]; rfl, L4⟩
end Go.Proofs.Ytphchdjbhbmnbaa
namespace Go.Proofs.Ytphchdjbhbmnbaa
open Go.RowKit
set_option linter.unusedVariables false

abbrev A4 := List (Int × Int) × List (Int × Int) × List (Int × Int) × List (Int × Int)

/-- Cells that read as assertions, whose rows lie in blocks from lo to hi. -/
def VS (w : World) (lo hi : Nat) : List A4 → List Value → Prop
  | [], xs => xs = []
  | x :: L, xs => ∃ p0 p1 p2 p3 q0 q1 q2 q3 ys, xs = .slice p0 x.1.length q0 :: .slice p1 x.2.1.length q1 :: .slice p2 x.2.2.1.length q2 :: .slice p3 x.2.2.2.length q3 :: ys ∧ Seen w lo hi p0 p1 p2 p3 x.1.length x.2.1.length x.2.2.1.length x.2.2.2.length x.1 x.2.1 x.2.2.1 x.2.2.2 ∧ VS w lo hi L ys

theorem VS.len {w : World} {lo hi : Nat} : ∀ {L : List A4} {xs : List Value}, VS w lo hi L xs → xs.length = L.length * 4
  | [], xs, h => by rw [show xs = [] from h]; rfl
  | x :: L, xs, h => by
    obtain ⟨p0, p1, p2, p3, q0, q1, q2, q3, ys, rfl, _, h⟩ := h
    have := VS.len h
    simp only [List.length_cons]
    omega
theorem VS.one {w : World} {lo hi : Nat} : ∀ {L : List A4} {xs : List Value}, VS w lo hi L xs → ∀ u ∈ xs, u.oneCell' = true
  | [], xs, h => by rw [show xs = [] from h]; intro u hu; cases hu
  | x :: L, xs, h => by
    obtain ⟨p0, p1, p2, p3, q0, q1, q2, q3, ys, rfl, _, h⟩ := h
    intro u hu
    simp only [List.mem_cons] at hu
    rcases hu with rfl | rfl | rfl | rfl | hu
    · rfl
    · rfl
    · rfl
    · rfl
    · exact VS.one h u hu
theorem VS.below {w w' : World} {lo hi B : Nat} (hb : Below B w w') (hr : hi ≤ B) : ∀ {L : List A4} {xs : List Value}, VS w lo hi L xs → VS w' lo hi L xs
  | [], xs, h => h
  | x :: L, xs, h => by
    obtain ⟨p0, p1, p2, p3, q0, q1, q2, q3, ys, rfl, T, h⟩ := h
    exact ⟨p0, p1, p2, p3, q0, q1, q2, q3, ys, rfl, T.below hb hr, VS.below hb hr h⟩
theorem VS.out {w w' : World} {lo hi lo' hi' : Nat} (hb : Out lo' hi' w w') (hr : hi ≤ lo' ∨ hi' ≤ lo) : ∀ {L : List A4} {xs : List Value}, VS w lo hi L xs → VS w' lo hi L xs
  | [], xs, h => h
  | x :: L, xs, h => by
    obtain ⟨p0, p1, p2, p3, q0, q1, q2, q3, ys, rfl, T, h⟩ := h
    exact ⟨p0, p1, p2, p3, q0, q1, q2, q3, ys, rfl, T.out hb hr, VS.out hb hr h⟩
theorem VS.mono {w : World} {lo hi lo' hi' : Nat} (h1 : lo' ≤ lo) (h2 : hi ≤ hi') : ∀ {L : List A4} {xs : List Value}, VS w lo hi L xs → VS w lo' hi' L xs
  | [], xs, h => h
  | x :: L, xs, h => by
    obtain ⟨p0, p1, p2, p3, q0, q1, q2, q3, ys, rfl, T, h⟩ := h
    exact ⟨p0, p1, p2, p3, q0, q1, q2, q3, ys, rfl, T.mono h1 h2, VS.mono h1 h2 h⟩
theorem VS.append {w : World} {lo hi : Nat} : ∀ {L M : List A4} {xs ys : List Value}, VS w lo hi L xs → VS w lo hi M ys → VS w lo hi (L ++ M) (xs ++ ys)
  | [], M, xs, ys, h, k => by rw [show xs = [] from h]; exact k
  | x :: L, M, xs, ys, h, k => by
    obtain ⟨p0, p1, p2, p3, q0, q1, q2, q3, zs, rfl, T, h⟩ := h
    exact ⟨p0, p1, p2, p3, q0, q1, q2, q3, zs ++ ys, rfl, T, VS.append h k⟩

theorem Try.iA : ∃ i, Try.prog.info? 28 = some i ∧ i.zero = some (.agg #[.slice none 0 0, .slice none 0 0, .slice none 0 0, .slice none 0 0]) ∧ i.size = 4 ∧ i.bytes = 96 := by
  have h : (Try.prog.info? 28).map (fun i => (i.zero, i.size, i.bytes)) = some (some (.agg #[.slice none 0 0, .slice none 0 0, .slice none 0 0, .slice none 0 0]), 4, 96) := by kernel_rfl
  cases hi : Try.prog.info? 28 with
  | none => rw [hi] at h; simp at h
  | some i =>
    rw [hi] at h
    simp only [Option.map_some, Option.some.injEq, Prod.mk.injEq] at h
    exact ⟨i, rfl, h.1, h.2.1, h.2.2⟩
theorem grown_refl (w : World) (row : Option Nat) : w.grownBy w row := ⟨rfl, rfl, rfl, Nat.le_refl _, fun _ _ _ => rfl⟩

theorem run_append_nilnil (w : World) (ty : TypeId) (c : Nat) :
    (Builtin.append_ #[51, 51] ty #[.slice none 0 0, .slice none 0 c]).run Try.prog w = .ok (.slice none 0 0) w := by
  obtain ⟨i0, hi, hz0, hz1, hz2⟩ := Try.iA
  simp [Builtin.append_, run_underlying Try.underlying51, sizeOf, typeInfo, hi, Builtin.lenOf, Builtin.firstCells]

theorem owns_roomA {w : World} {base n b c : Nat} {xs : List Value} (h : w.ownsRow base 28 4 (.slice (some ⟨b, 0, none⟩) n c) n xs) (j : Nat) (hj : j < c * 4) :
    (w.cell? ⟨b, j, none⟩).isSome = true ∧ w.frozen? ⟨b, j, none⟩ = false := by
  obtain ⟨h3, h4 | ⟨g, cap, cur, e1, e2, e3, e4, e5, e6, e7⟩⟩ := h
  · cases h4.1
  · injection e1 with e0 e1 e8; injection e0 with e0; injection e0 with e0; subst e0; subst e8
    refine ⟨?_, ?_⟩
    · simp [World.cell?, e3, e6, hj]
    · simp [World.frozen?, e3]

/-- append, of a row of assertions of the call's own onto another one, whatever room there is. -/
theorem step_ownA {ops : Array Oper} {o : Oper} {a : Act} {w : World} {K : Act → World → Prop} {Q : Exit → Act → World → Prop} {E : Prop}
    (hg : o.guard = none) (s x : Operand) (hop : o.op = Op.call { callee := Callee.builtin Builtin.append, args := #[s, x], argTypes := #[51, 51] })
    (base lo : Nat) (v u : Value) (n m : Nat) (xs ys : List Value) (hs : a.eval s = v) (hown : w.ownsRow base 28 4 v n xs) (hx : a.eval x = u) (hown2 : w.ownsRow lo 28 4 u m ys) (h1 : ∀ y ∈ ys, y.oneCell' = true) (hn : n + m ≤ 1048576) (hb : base ≤ w.heap.size)
    (hK : ∀ v' w', w'.ownsRow base 28 4 v' (n + m) (xs ++ ys) → w.grownBy w' v.ownBlock → (v' = .slice none 0 0 ↔ v = .slice none 0 0 ∧ m = 0) → (v'.ownBlock = v.ownBlock ∨ v'.ownBlock = some w.heap.size) → K (a.put o.dst v') w') :
    if Region.wanted o (yielded ops a.tmps) = true then Oper.wp Try.prog o a w K Q else E := by
  obtain ⟨i0, hi, hz0, hz1, hz2⟩ := Try.iA
  have hw : Region.wanted o (yielded ops a.tmps) = true := by simp [Region.wanted, hg]
  rw [if_pos hw]
  have hrun : ∃ v' w', (Builtin.append_ #[51, 51] o.type #[v, u]).run Try.prog w = .ok v' w' ∧ w'.ownsRow base 28 4 v' (n + m) (xs ++ ys) ∧ w.grownBy w' v.ownBlock ∧ (v' = .slice none 0 0 ↔ v = .slice none 0 0 ∧ m = 0) ∧ (v'.ownBlock = v.ownBlock ∨ v'.ownBlock = some w.heap.size) := by
    rcases hown2.2 with ⟨rfl, rfl⟩ | ⟨g, cap, cur, rfl, _⟩
    · have hy : ys = [] := List.eq_nil_of_length_eq_zero (by rw [hown2.1])
      subst hy
      rw [List.append_nil]
      rcases hown.2 with ⟨rfl, rfl⟩ | ⟨g, cap, cur, rfl, _, _, hc, _⟩
      · exact ⟨_, _, run_append_nilnil w o.type 0, hown, grown_refl _ _, by simp, .inl rfl⟩
      · have h := run_append_room_src (P := Try.prog) w 51 51 o.type 28 i0 Try.underlying51 hi g 0 n cap (.slice none 0 0) 0 [] (Src.ofNil (P := Try.prog) w Try.underlying51 0) hc (by intro j h; cases h) (by intro j h; cases h)
        exact ⟨_, _, by simpa [World.setCells] using h, hown, grown_refl _ _, by simp, .inl rfl⟩
    · obtain ⟨v', w', r0, r1, r2, r3⟩ := run_append_own (P := Try.prog) w base 51 o.type 28 i0 _ 4 96 Try.underlying51 hi hz0 hz1 hz2 rfl (by decide) v n xs hown ⟨g, 0, none⟩ m cap ys hown2.1 (hown2.cells rfl) h1 (by unfold maxLen; omega) (by omega) hb
      refine ⟨v', w', r0, r1, r2, r3, ?_⟩
      have hsrc := Src.ofSlice (P := Try.prog) w (size := 4) Try.underlying51 ⟨g, 0, none⟩ m cap ys hown2.1 (hown2.cells rfl) h1
      rcases hown.2 with ⟨rfl, rfl⟩ | ⟨g', cap', cur', rfl, h2, h3, hc, hm, hsz, htk⟩
      · by_cases hm0 : m = 0
        · rw [r3.2 ⟨rfl, hm0⟩]; exact .inl rfl
        · have h := run_append_grow_src (P := Try.prog) w 51 51 o.type 28 i0 _ Try.underlying51 hi hz0 none 0 0 [] (by rw [hz1]; exact run_firstCells_none w.drew 4 0 0 0) (.slice (some ⟨g, 0, none⟩) m cap) m ys (by rw [hz1]; exact hsrc) (by omega) (by omega) (by rw [hz2]; exact growslice_fits (by omega) (by omega))
          rw [r0] at h
          injection h with h4 _
          rw [h4]; exact .inr rfl
      · by_cases hroom : n + m ≤ cap'
        · have h := run_append_room_src (P := Try.prog) w 51 51 o.type 28 i0 Try.underlying51 hi g' 0 n cap' (.slice (some ⟨g, 0, none⟩) m cap) m ys (by rw [hz1]; exact hsrc) hroom
            (fun j hj => by rw [hz1]; exact (owns_roomA hown _ (by rw [hown2.1] at hj; omega)).1)
            (fun j hj => by rw [hz1]; exact (owns_roomA hown _ (by rw [hown2.1] at hj; omega)).2)
          rw [r0] at h
          injection h with h4 _
          rw [h4]; exact .inl rfl
        · have h := run_append_grow_src (P := Try.prog) w 51 51 o.type 28 i0 _ Try.underlying51 hi hz0 (some ⟨g', 0, none⟩) n cap' xs (by rw [hz1]; exact run_firstCells_some w.drew 4 n ⟨g', 0, none⟩ n cap' xs hown.1 (by simpa using hown.cells rfl)) (.slice (some ⟨g, 0, none⟩) m cap) m ys (by rw [hz1]; exact hsrc) (by omega) (by omega) (by rw [hz2]; exact growslice_fits (by omega) (by omega))
          rw [r0] at h
          injection h with h4 _
          rw [h4]; exact .inr rfl
  obtain ⟨v', w', hrun, r1, r2, r3, r4⟩ := hrun
  unfold Oper.wp
  simp [execOp, hop, resolve, invoke, builtin, hs, hx, hrun, Result.andThen]
  exact hK v' w' r1 r2 r3 r4

theorem owns_belowA {w w' : World} {base n : Nat} {v : Value} {xs : List Value} (h : w.ownsRow base 28 4 v n xs) (hb : Below w.heap.size w w') : w'.ownsRow base 28 4 v n xs :=
  h.kept (Below.grows hb) (by cases e : v.ownBlock <;> simp)
theorem toks_app {a b : List (Int × Int)} (h : toks a = true) (k : toks b = true) : toks (a ++ b) = true := by
  unfold toks at h k ⊢
  rw [List.all_append, h, k]; rfl

/-- What is appended to in its place is no row of pairs. -/
theorem RowIn.grown {w w' : World} {lo hi n : Nat} {a : Option Addr} {l : List (Int × Int)} {row : Option Nat} (h : RowIn w lo hi a n l) (hg : w.grownBy w' row) (hr : ∀ g, row = some g → ∃ p k c, w.cell? ⟨g, 0, Option.none⟩ = some (.slice p k c)) : RowIn w' lo hi a n l := by
  obtain ⟨hl, h0 | ⟨b, ha, h1, h2, h3⟩⟩ := h
  · exact ⟨hl, .inl h0⟩
  · by_cases e : n = 0
    · exact ⟨hl, .inl e⟩
    · refine ⟨hl, .inr ⟨b, ha, h1, h2, ?_⟩⟩
      have hne : some b ≠ row := by
        intro e'
        obtain ⟨p, k, c, hc⟩ := hr b e'.symm
        have := (h3.2.2 0 (by omega)).1
        rw [Nat.zero_mul] at this
        rw [this] at hc
        cases hc
      have e := hg.block b h3.1 hne
      refine ⟨Nat.lt_of_lt_of_le h3.1 hg.size, fun j hj => ?_, fun i hi => ?_⟩
      · rw [World.cell?_of_block (a := ⟨b, j, none⟩) e, World.frozen?_of_block (a := ⟨b, j, none⟩) e]; exact h3.2.1 j hj
      · rw [World.cell?_of_block (a := ⟨b, _, none⟩) e, World.cell?_of_block (a := ⟨b, _, none⟩) e]; exact h3.2.2 i hi
theorem Seen.grown {w w' : World} {lo hi n0 n1 n2 n3 : Nat} {a0 a1 a2 a3 : Option Addr} {l0 l1 l2 l3 : List (Int × Int)} {row : Option Nat} (h : Seen w lo hi a0 a1 a2 a3 n0 n1 n2 n3 l0 l1 l2 l3) (hg : w.grownBy w' row) (hr : ∀ g, row = some g → ∃ p k c, w.cell? ⟨g, 0, Option.none⟩ = some (.slice p k c)) : Seen w' lo hi a0 a1 a2 a3 n0 n1 n2 n3 l0 l1 l2 l3 :=
  ⟨h.1.grown hg hr, h.2.1.grown hg hr, h.2.2.1.grown hg hr, h.2.2.2.grown hg hr⟩
theorem VS.grown {w w' : World} {lo hi : Nat} {row : Option Nat} (hg : w.grownBy w' row) (hr : ∀ g, row = some g → ∃ p k c, w.cell? ⟨g, 0, Option.none⟩ = some (.slice p k c)) : ∀ {L : List A4} {xs : List Value}, VS w lo hi L xs → VS w' lo hi L xs
  | [], xs, h => h
  | x :: L, xs, h => by
    obtain ⟨p0, p1, p2, p3, q0, q1, q2, q3, ys, rfl, T, h⟩ := h
    exact ⟨p0, p1, p2, p3, q0, q1, q2, q3, ys, rfl, T.grown hg hr, VS.grown hg hr h⟩
/-- The first cell of a row of assertions is a slice. -/
theorem VS.head {w w1 : World} {lo hi base n : Nat} {v : Value} {L : List A4} {xs : List Value} (h : VS w1 lo hi L xs) (ho : w.ownsRow base 28 4 v n xs) (hn : L = [] → v = .slice none 0 0) : ∀ g, v.ownBlock = some g → ∃ p k c, w.cell? ⟨g, 0, Option.none⟩ = some (.slice p k c) := by
  intro g hg
  cases L with
  | nil => rw [hn rfl] at hg; cases hg
  | cons x L =>
    obtain ⟨p0, p1, p2, p3, q0, q1, q2, q3, ys, rfl, T, h⟩ := h
    exact ⟨_, _, _, ho.cells hg 0 _ rfl⟩

/-- Of each segment that it has nothing, or something; those that are contrary are left out. -/
def casesV (l2 : List (Int × Int)) : List (Int × Int) → List (Int × Int) → List (Int × Int) → List (Int × Int) → List A4
  | [], l0, l1, l3 => if contraV (clsV l0) l1 l2 l3 = true then [] else [(l0, l1, l2, l3)]
  | p :: t, l0, l1, l3 => casesV l2 t (l0 ++ [p]) l1 l3 ++ casesV l2 t l0 (l1 ++ [p]) (l3 ++ [p])

theorem casesV_len (l2 : List (Int × Int)) : ∀ (t l0 l1 l3 : List (Int × Int)), (casesV l2 t l0 l1 l3).length ≤ 2 ^ t.length
  | [], l0, l1, l3 => by unfold casesV; split <;> simp
  | p :: t, l0, l1, l3 => by
    unfold casesV
    rw [List.length_append, List.length_cons, Nat.pow_succ]
    have h1 := casesV_len l2 t (l0 ++ [p]) l1 l3
    have h2 := casesV_len l2 t l0 (l1 ++ [p]) (l3 ++ [p])
    omega
theorem casesV_le (l2 t l0 l1 l3 : List (Int × Int)) (h : t.length ≤ 6) : (casesV l2 t l0 l1 l3).length ≤ 64 :=
  Nat.le_trans (casesV_len l2 t l0 l1 l3) (Nat.le_trans (Nat.pow_le_pow_right (by omega) h) (by decide))

end Go.Proofs.Ytphchdjbhbmnbaa
namespace Go.Proofs.Ytphchdjbhbmnbaa
open Go.RowKit

theorem Below.link {a b c : World} (h : Below a.heap.size a b) (k : Below b.heap.size b c) : Below a.heap.size a c := h.trans (k.mono h.size)
theorem Box.keep2 {w w' : World} {b : Nat} {v0 v1 v2 v3 : Value} (h : Box w b v0 v1 v2 v3) (hb : Below w.heap.size w w') : Box w' b v0 v1 v2 v3 := h.below hb h.lt
theorem own1 {w w' : World} {b n k : Nat} {l : List (Int × Int)} (h : Own w b n l k) (hb : Below w.heap.size w w') : Own w' b n l k := h.below hb h.1
theorem own2 {w w' u : World} {b n k : Nat} {l : List (Int × Int)} (h : Own w b n l k) (hb : Below w.heap.size w w') (hc : Below w'.heap.size w' u) : Own u b n l k := own1 (own1 h hb) hc

theorem Below.link' {B : Nat} {a b c : World} (h : Below B a b) (k : Below b.heap.size b c) (hB : B ≤ a.heap.size) : Below B a c := h.trans (k.mono (Nat.le_trans hB h.size))

theorem sK {w W u : World} {v0 v1 v2 v3 v4 v5 v6 v7 : Value} (h : Below w.heap.size w W ∧ w.heap.size + 2 ≤ W.heap.size ∧ W.cell? ⟨w.heap.size, 0, none⟩ = some v0 ∧ W.cell? ⟨w.heap.size, 1, none⟩ = some v1 ∧ W.cell? ⟨w.heap.size, 2, none⟩ = some v2 ∧ W.cell? ⟨w.heap.size, 3, none⟩ = some v3 ∧ W.cell? ⟨w.heap.size + 1, 0, none⟩ = some v4 ∧ W.cell? ⟨w.heap.size + 1, 1, none⟩ = some v5 ∧ W.cell? ⟨w.heap.size + 1, 2, none⟩ = some v6 ∧ W.cell? ⟨w.heap.size + 1, 3, none⟩ = some v7) (hb : Below W.heap.size W u) : Below w.heap.size w u ∧ w.heap.size + 2 ≤ u.heap.size ∧ u.cell? ⟨w.heap.size, 0, none⟩ = some v0 ∧ u.cell? ⟨w.heap.size, 1, none⟩ = some v1 ∧ u.cell? ⟨w.heap.size, 2, none⟩ = some v2 ∧ u.cell? ⟨w.heap.size, 3, none⟩ = some v3 ∧ u.cell? ⟨w.heap.size + 1, 0, none⟩ = some v4 ∧ u.cell? ⟨w.heap.size + 1, 1, none⟩ = some v5 ∧ u.cell? ⟨w.heap.size + 1, 2, none⟩ = some v6 ∧ u.cell? ⟨w.heap.size + 1, 3, none⟩ = some v7 := by
  obtain ⟨h0, h1, c0, c1, c2, c3, c4, c5, c6, c7⟩ := h
  have key : ∀ (b o : Nat) (v : Value), W.cell? ⟨b, o, none⟩ = some v → u.cell? ⟨b, o, none⟩ = some v := fun b o v hc => by rw [hb.cell (p := ⟨b, o, none⟩) (World.block_lt_of_cell? _ _ hc)]; exact hc
  exact ⟨Below.link' h0 hb (Nat.le_refl _), Nat.le_trans h1 hb.size, key _ _ _ c0, key _ _ _ c1, key _ _ _ c2, key _ _ _ c3, key _ _ _ c4, key _ _ _ c5, key _ _ _ c6, key _ _ _ c7⟩
theorem sAl {w W : World} {v0 v1 v2 v3 v4 v5 v6 v7 : Value} (o : Obj) (h : Below w.heap.size w W ∧ w.heap.size + 2 ≤ W.heap.size ∧ W.cell? ⟨w.heap.size, 0, none⟩ = some v0 ∧ W.cell? ⟨w.heap.size, 1, none⟩ = some v1 ∧ W.cell? ⟨w.heap.size, 2, none⟩ = some v2 ∧ W.cell? ⟨w.heap.size, 3, none⟩ = some v3 ∧ W.cell? ⟨w.heap.size + 1, 0, none⟩ = some v4 ∧ W.cell? ⟨w.heap.size + 1, 1, none⟩ = some v5 ∧ W.cell? ⟨w.heap.size + 1, 2, none⟩ = some v6 ∧ W.cell? ⟨w.heap.size + 1, 3, none⟩ = some v7) : Below w.heap.size w (W.alloc o) ∧ w.heap.size + 2 ≤ (W.alloc o).heap.size ∧ (W.alloc o).cell? ⟨w.heap.size, 0, none⟩ = some v0 ∧ (W.alloc o).cell? ⟨w.heap.size, 1, none⟩ = some v1 ∧ (W.alloc o).cell? ⟨w.heap.size, 2, none⟩ = some v2 ∧ (W.alloc o).cell? ⟨w.heap.size, 3, none⟩ = some v3 ∧ (W.alloc o).cell? ⟨w.heap.size + 1, 0, none⟩ = some v4 ∧ (W.alloc o).cell? ⟨w.heap.size + 1, 1, none⟩ = some v5 ∧ (W.alloc o).cell? ⟨w.heap.size + 1, 2, none⟩ = some v6 ∧ (W.alloc o).cell? ⟨w.heap.size + 1, 3, none⟩ = some v7 := sK h ((Below.refl _ _).alloc (Nat.le_refl _) o)
theorem sAd {w W : World} {v0 v1 v2 v3 v4 v5 v6 v7 : Value} (o : Obj) (h : Below w.heap.size w W.drew ∧ w.heap.size + 2 ≤ W.drew.heap.size ∧ W.drew.cell? ⟨w.heap.size, 0, none⟩ = some v0 ∧ W.drew.cell? ⟨w.heap.size, 1, none⟩ = some v1 ∧ W.drew.cell? ⟨w.heap.size, 2, none⟩ = some v2 ∧ W.drew.cell? ⟨w.heap.size, 3, none⟩ = some v3 ∧ W.drew.cell? ⟨w.heap.size + 1, 0, none⟩ = some v4 ∧ W.drew.cell? ⟨w.heap.size + 1, 1, none⟩ = some v5 ∧ W.drew.cell? ⟨w.heap.size + 1, 2, none⟩ = some v6 ∧ W.drew.cell? ⟨w.heap.size + 1, 3, none⟩ = some v7) : Below w.heap.size w (W.alloc o).drew ∧ w.heap.size + 2 ≤ (W.alloc o).drew.heap.size ∧ (W.alloc o).drew.cell? ⟨w.heap.size, 0, none⟩ = some v0 ∧ (W.alloc o).drew.cell? ⟨w.heap.size, 1, none⟩ = some v1 ∧ (W.alloc o).drew.cell? ⟨w.heap.size, 2, none⟩ = some v2 ∧ (W.alloc o).drew.cell? ⟨w.heap.size, 3, none⟩ = some v3 ∧ (W.alloc o).drew.cell? ⟨w.heap.size + 1, 0, none⟩ = some v4 ∧ (W.alloc o).drew.cell? ⟨w.heap.size + 1, 1, none⟩ = some v5 ∧ (W.alloc o).drew.cell? ⟨w.heap.size + 1, 2, none⟩ = some v6 ∧ (W.alloc o).drew.cell? ⟨w.heap.size + 1, 3, none⟩ = some v7 := sAl o h
theorem sSt {w W : World} {v0 v1 v2 v3 v4 v5 v6 v7 : Value} (y0 y1 y2 y3 : Value) (Z : Nat) (hz : w.heap.size + 2 ≤ Z) (h : Below w.heap.size w W ∧ w.heap.size + 2 ≤ W.heap.size ∧ W.cell? ⟨w.heap.size, 0, none⟩ = some v0 ∧ W.cell? ⟨w.heap.size, 1, none⟩ = some v1 ∧ W.cell? ⟨w.heap.size, 2, none⟩ = some v2 ∧ W.cell? ⟨w.heap.size, 3, none⟩ = some v3 ∧ W.cell? ⟨w.heap.size + 1, 0, none⟩ = some v4 ∧ W.cell? ⟨w.heap.size + 1, 1, none⟩ = some v5 ∧ W.cell? ⟨w.heap.size + 1, 2, none⟩ = some v6 ∧ W.cell? ⟨w.heap.size + 1, 3, none⟩ = some v7) : Below w.heap.size w ((((W.setCell ⟨Z, 0, none⟩ y0).setCell ⟨Z, 1, none⟩ y1).setCell ⟨Z, 2, none⟩ y2).setCell ⟨Z, 3, none⟩ y3) ∧ w.heap.size + 2 ≤ ((((W.setCell ⟨Z, 0, none⟩ y0).setCell ⟨Z, 1, none⟩ y1).setCell ⟨Z, 2, none⟩ y2).setCell ⟨Z, 3, none⟩ y3).heap.size ∧ ((((W.setCell ⟨Z, 0, none⟩ y0).setCell ⟨Z, 1, none⟩ y1).setCell ⟨Z, 2, none⟩ y2).setCell ⟨Z, 3, none⟩ y3).cell? ⟨w.heap.size, 0, none⟩ = some v0 ∧ ((((W.setCell ⟨Z, 0, none⟩ y0).setCell ⟨Z, 1, none⟩ y1).setCell ⟨Z, 2, none⟩ y2).setCell ⟨Z, 3, none⟩ y3).cell? ⟨w.heap.size, 1, none⟩ = some v1 ∧ ((((W.setCell ⟨Z, 0, none⟩ y0).setCell ⟨Z, 1, none⟩ y1).setCell ⟨Z, 2, none⟩ y2).setCell ⟨Z, 3, none⟩ y3).cell? ⟨w.heap.size, 2, none⟩ = some v2 ∧ ((((W.setCell ⟨Z, 0, none⟩ y0).setCell ⟨Z, 1, none⟩ y1).setCell ⟨Z, 2, none⟩ y2).setCell ⟨Z, 3, none⟩ y3).cell? ⟨w.heap.size, 3, none⟩ = some v3 ∧ ((((W.setCell ⟨Z, 0, none⟩ y0).setCell ⟨Z, 1, none⟩ y1).setCell ⟨Z, 2, none⟩ y2).setCell ⟨Z, 3, none⟩ y3).cell? ⟨w.heap.size + 1, 0, none⟩ = some v4 ∧ ((((W.setCell ⟨Z, 0, none⟩ y0).setCell ⟨Z, 1, none⟩ y1).setCell ⟨Z, 2, none⟩ y2).setCell ⟨Z, 3, none⟩ y3).cell? ⟨w.heap.size + 1, 1, none⟩ = some v5 ∧ ((((W.setCell ⟨Z, 0, none⟩ y0).setCell ⟨Z, 1, none⟩ y1).setCell ⟨Z, 2, none⟩ y2).setCell ⟨Z, 3, none⟩ y3).cell? ⟨w.heap.size + 1, 2, none⟩ = some v6 ∧ ((((W.setCell ⟨Z, 0, none⟩ y0).setCell ⟨Z, 1, none⟩ y1).setCell ⟨Z, 2, none⟩ y2).setCell ⟨Z, 3, none⟩ y3).cell? ⟨w.heap.size + 1, 3, none⟩ = some v7 := by
  obtain ⟨h0, h1, c0, c1, c2, c3, c4, c5, c6, c7⟩ := h
  have key : ∀ (V : World) (b i o : Nat) (u : Value), b < Z → (V.setCell ⟨Z, i, none⟩ u).cell? ⟨b, o, none⟩ = V.cell? ⟨b, o, none⟩ := fun V b i o u hb => World.cell?_setCell_other _ _ _ _ (by intro e; injection e with e1; omega)
  refine ⟨Below.set (Below.set (Below.set (Below.set h0 _ _ (by omega) _) _ _ (by omega) _) _ _ (by omega) _) _ _ (by omega) _, by simpa using h1, ?_, ?_, ?_, ?_, ?_, ?_, ?_, ?_⟩
  all_goals (rw [key _ _ _ _ _ (by omega), key _ _ _ _ _ (by omega), key _ _ _ _ _ (by omega), key _ _ _ _ _ (by omega)]; assumption)
theorem sG {w W : World} {n : Nat} {R : Prop} (h : Below w.heap.size w W ∧ n ≤ W.heap.size ∧ R) : n ≤ W.heap.size := h.2.1
theorem sB {w W : World} {R : Prop} (h : Below w.heap.size w W ∧ R) : Below w.heap.size w W := h.1

/-- The variable lies in a new block, and holds four rows. -/
def RelS (cur : World) (U0 U1 U2 U3 : List (Int × Int)) (v6 : Value) (wz : World) : Prop :=
  ∃ Z p0 p1 p2 p3 q0 q1 q2 q3, v6 = .pointer (some ⟨Z, 0, none⟩) ∧ Box wz Z (.slice p0 U0.length q0) (.slice p1 U1.length q1) (.slice p2 U2.length q2) (.slice p3 U3.length q3) ∧ Seen wz 0 wz.heap.size p0 p1 p2 p3 U0.length U1.length U2.length U3.length U0 U1 U2 U3 ∧ Below cur.heap.size cur wz ∧ cur.heap.size ≤ Z

theorem relS_alloc {cur w3 : World} {lo : Nat} {U0 U1 U2 U3 : List (Int × Int)} {p0 p1 p2 p3 : Option Addr} {q0 q1 q2 q3 : Nat} (hX : Below cur.heap.size cur w3) (W : Seen w3 lo w3.heap.size p0 p1 p2 p3 U0.length U1.length U2.length U3.length U0 U1 U2 U3) :
    RelS cur U0 U1 U2 U3 (.pointer (some ⟨w3.heap.size, 0, none⟩)) (w3.alloc (.cells #[.slice p0 U0.length q0, .slice p1 U1.length q1, .slice p2 U2.length q2, .slice p3 U3.length q3] 28)) := by
  have al : Below w3.heap.size w3 (w3.alloc (.cells #[.slice p0 U0.length q0, .slice p1 U1.length q1, .slice p2 U2.length q2, .slice p3 U3.length q3] 28)) := (Below.refl _ _).alloc (Nat.le_refl _) _
  exact ⟨w3.heap.size, p0, p1, p2, p3, q0, q1, q2, q3, rfl, Box.new w3 (.slice p0 U0.length q0) (.slice p1 U1.length q1) (.slice p2 U2.length q2) (.slice p3 U3.length q3) 28, (W.below al (Nat.le_refl _)).mono (Nat.zero_le _) (by simp), Below.link hX al, hX.size⟩

theorem relS_fill {cur X w3 : World} {Z : Nat} {U0 U1 U2 U3 : List (Int × Int)} {p0 p1 p2 p3 : Option Addr} {q0 q1 q2 q3 : Nat} (bx : Box X Z (.slice none 0 0) (.slice none 0 0) (.slice none 0 0) (.slice none 0 0)) (hb : Below X.heap.size X w3) (hX : Below cur.heap.size cur w3) (hz : cur.heap.size ≤ Z) (W : Seen w3 X.heap.size w3.heap.size p0 p1 p2 p3 U0.length U1.length U2.length U3.length U0 U1 U2 U3) :
    RelS cur U0 U1 U2 U3 (.pointer (some ⟨Z, 0, none⟩)) ((((w3.setCell ⟨Z, 0, none⟩ (.slice p0 U0.length q0)).setCell ⟨Z, 1, none⟩ (.slice p1 U1.length q1)).setCell ⟨Z, 2, none⟩ (.slice p2 U2.length q2)).setCell ⟨Z, 3, none⟩ (.slice p3 U3.length q3)) := by
  obtain ⟨F, FO⟩ := (bx.keep2 hb).fill (.slice p0 U0.length q0) (.slice p1 U1.length q1) (.slice p2 U2.length q2) (.slice p3 U3.length q3)
  have := bx.lt
  exact ⟨Z, p0, p1, p2, p3, q0, q1, q2, q3, rfl, F, (W.out FO (.inr (by omega))).mono (Nat.zero_le _) FO.size, hX.trans (FO.below hz hX.size), hz⟩

theorem relS_fill2 {cur w3 : World} {Z lo : Nat} {U0 U1 U2 U3 : List (Int × Int)} {p0 p1 p2 p3 : Option Addr} {q0 q1 q2 q3 : Nat} (bx : Box w3 Z (.slice none 0 0) (.slice none 0 0) (.slice none 0 0) (.slice none 0 0)) (hlo : Z < lo) (hX : Below cur.heap.size cur w3) (hz : cur.heap.size ≤ Z) (W : Seen w3 lo w3.heap.size p0 p1 p2 p3 U0.length U1.length U2.length U3.length U0 U1 U2 U3) :
    RelS cur U0 U1 U2 U3 (.pointer (some ⟨Z, 0, none⟩)) ((((w3.setCell ⟨Z, 0, none⟩ (.slice p0 U0.length q0)).setCell ⟨Z, 1, none⟩ (.slice p1 U1.length q1)).setCell ⟨Z, 2, none⟩ (.slice p2 U2.length q2)).setCell ⟨Z, 3, none⟩ (.slice p3 U3.length q3)) := by
  obtain ⟨F, FO⟩ := bx.fill (.slice p0 U0.length q0) (.slice p1 U1.length q1) (.slice p2 U2.length q2) (.slice p3 U3.length q3)
  exact ⟨Z, p0, p1, p2, p3, q0, q1, q2, q3, rfl, F, (W.out FO (.inr (by omega))).mono (Nat.zero_le _) FO.size, hX.trans (FO.below hz hX.size), hz⟩

end Go.Proofs.Ytphchdjbhbmnbaa
namespace Go.Proofs.Ytphchdjbhbmnbaa
open Go.RowKit

theorem wpList_room {ops : Array Oper} {rest : List Oper} {o : Oper} {a : Act} {w : World} {Q : Exit → Act → World → Prop}
    (hg : o.guard = none) (s x : Operand) (hop : o.op = Op.call { callee := Callee.builtin Builtin.append, args := #[s, x], argTypes := #[26, 26] })
    (lo hi : Nat) (a' : Option Addr) (n c : Nat) (l : List (Int × Int)) (hs : a.eval s = .slice a' n c) (hr : RoomIn w lo hi a' n c l)
    (b m d : Nat) (k : List (Int × Int)) (hx : a.eval x = .slice (some ⟨b, 0, none⟩) m d) (hk : k.length = m) (ho : Own w b m k m) (hn : n + m ≤ 2097152) (hlo : lo ≤ w.heap.size)
    (h : ∀ a'' c'' w', RowOr w' lo hi w.heap.size a'' (n + m) (l ++ k) → Out lo hi w w' → wpList Try.prog ops Q rest (a.put o.dst (.slice a'' (n + m) c'')) w') :
    wpList Try.prog ops Q (o :: rest) a w := wpList_plain hg fun K hK => by
  have z := step_room (ops := ops) (K := K) (Q := Q) (E := True) hg s x hop lo hi a' n c l hs hr b m d k hx hk ho hn hlo (fun a'' c'' w' h1 h2 => hK _ _ (h a'' c'' w' h1 h2))
  rwa [if_pos (by simp [Region.wanted, hg])] at z

theorem RowOr.out {w w' : World} {lo hi lo' hi' S n : Nat} {a : Option Addr} {l : List (Int × Int)} (h : RowOr w lo hi S a n l) (ho : Out lo' hi' w w') (h1 : hi ≤ lo' ∨ hi' ≤ lo) (h2 : hi' ≤ S) : RowOr w' lo hi S a n l := by
  obtain ⟨hl, h0 | ⟨b, rfl, hb, hw⟩⟩ := h
  · exact ⟨hl, .inl h0⟩
  · exact ⟨hl, .inr ⟨b, rfl, hb, hw.out ho (by omega)⟩⟩
theorem RowOr.row {w : World} {lo hi S n B : Nat} {a : Option Addr} {l : List (Int × Int)} (h : RowOr w lo hi S a n l) (h1 : B ≤ lo) (h2 : B ≤ S) : RowIn w B w.heap.size a n l := by
  obtain ⟨hl, h0 | ⟨b, rfl, hb, hw⟩⟩ := h
  · exact ⟨hl, .inl h0⟩
  · exact RowIn.ofOwn hw hl (by omega) hw.1

set_option maxHeartbeats 4000000 in
theorem l1star_any (b0 b1 b2 b3 c0 c1 c2 c3 d0 d1 d2 d3 f0 f1 f2 f3 : Nat) (l0 l1 l2 l3 k0 k1 k2 k3 : List (Int × Int)) (w : World) (n0 : l0.length ≤ 1048576) (n1 : l1.length ≤ 1048576) (n2 : l2.length ≤ 1048576) (n3 : l3.length ≤ 1048576) (j0 : k0.length ≤ 1048576) (j1 : k1.length ≤ 1048576) (j2 : k2.length ≤ 1048576) (j3 : k3.length ≤ 1048576) (o0 : Own w b0 l0.length l0 l0.length) (o1 : Own w b1 l1.length l1 l1.length) (o2 : Own w b2 l2.length l2 l2.length) (o3 : Own w b3 l3.length l3 l3.length) (p0 : Own w d0 k0.length k0 k0.length) (p1 : Own w d1 k1.length k1 k1.length) (p2 : Own w d2 k2.length k2 k2.length) (p3 : Own w d3 k3.length k3 k3.length) :
    Calls Try.prog 138 #[.agg #[.slice (some ⟨b0, 0, none⟩) l0.length c0, .slice (some ⟨b1, 0, none⟩) l1.length c1, .slice (some ⟨b2, 0, none⟩) l2.length c2, .slice (some ⟨b3, 0, none⟩) l3.length c3], .agg #[.slice (some ⟨d0, 0, none⟩) k0.length f0, .slice (some ⟨d1, 0, none⟩) k1.length f1, .slice (some ⟨d2, 0, none⟩) k2.length f2, .slice (some ⟨d3, 0, none⟩) k3.length f3]] w fun e w' => ∃ a0 a1 a2 a3 e0 e1 e2 e3,
      e = .returned (.agg #[.slice a0 (l0.length + k0.length) e0, .slice a1 (l1.length + k1.length) e1, .slice a2 (l2.length + k2.length) e2, .slice a3 (l3.length + k3.length) e3]) ∧ RowIn w' w.heap.size w'.heap.size a0 (l0.length + k0.length) (l0 ++ k0) ∧ RowIn w' w.heap.size w'.heap.size a1 (l1.length + k1.length) (l1 ++ k1) ∧ RowIn w' w.heap.size w'.heap.size a2 (l2.length + k2.length) (l2 ++ k2) ∧ RowIn w' w.heap.size w'.heap.size a3 (l3.length + k3.length) (l3 ++ k3) ∧ Below w.heap.size w w' := by
  have B0 := (Box.new (w.alloc (.cells #[.slice (some ⟨b0, 0, none⟩) l0.length c0, .slice (some ⟨b1, 0, none⟩) l1.length c1, .slice (some ⟨b2, 0, none⟩) l2.length c2, .slice (some ⟨b3, 0, none⟩) l3.length c3] 28)) (.slice (some ⟨d0, 0, none⟩) k0.length f0) (.slice (some ⟨d1, 0, none⟩) k1.length f1) (.slice (some ⟨d2, 0, none⟩) k2.length f2) (.slice (some ⟨d3, 0, none⟩) k3.length f3) 28).below ((Below.refl _ _).alloc (Nat.le_refl _) (.cells #[.slice none 0 0, .slice none 0 0, .slice none 0 0, .slice none 0 0] 28)) (by simp)
  have R0 := Box.new ((w.alloc (.cells #[.slice (some ⟨b0, 0, none⟩) l0.length c0, .slice (some ⟨b1, 0, none⟩) l1.length c1, .slice (some ⟨b2, 0, none⟩) l2.length c2, .slice (some ⟨b3, 0, none⟩) l3.length c3] 28)).alloc (.cells #[.slice (some ⟨d0, 0, none⟩) k0.length f0, .slice (some ⟨d1, 0, none⟩) k1.length f1, .slice (some ⟨d2, 0, none⟩) k2.length f2, .slice (some ⟨d3, 0, none⟩) k3.length f3] 28)) (.slice none 0 0) (.slice none 0 0) (.slice none 0 0) (.slice none 0 0) 28
  have A0 := ((Box.new w (.slice (some ⟨b0, 0, none⟩) l0.length c0) (.slice (some ⟨b1, 0, none⟩) l1.length c1) (.slice (some ⟨b2, 0, none⟩) l2.length c2) (.slice (some ⟨b3, 0, none⟩) l3.length c3) 28).below ((Below.refl _ _).alloc (Nat.le_refl _) (.cells #[.slice (some ⟨d0, 0, none⟩) k0.length f0, .slice (some ⟨d1, 0, none⟩) k1.length f1, .slice (some ⟨d2, 0, none⟩) k2.length f2, .slice (some ⟨d3, 0, none⟩) k3.length f3] 28)) (by simp)).below ((Below.refl _ _).alloc (Nat.le_refl _) (.cells #[.slice none 0 0, .slice none 0 0, .slice none 0 0, .slice none 0 0] 28)) (by simp; omega)
  have L0 : Below w.heap.size w (((w.alloc (.cells #[.slice (some ⟨b0, 0, none⟩) l0.length c0, .slice (some ⟨b1, 0, none⟩) l1.length c1, .slice (some ⟨b2, 0, none⟩) l2.length c2, .slice (some ⟨b3, 0, none⟩) l3.length c3] 28)).alloc (.cells #[.slice (some ⟨d0, 0, none⟩) k0.length f0, .slice (some ⟨d1, 0, none⟩) k1.length f1, .slice (some ⟨d2, 0, none⟩) k2.length f2, .slice (some ⟨d3, 0, none⟩) k3.length f3] 28)).alloc (.cells #[.slice none 0 0, .slice none 0 0, .slice none 0 0, .slice none 0 0] 28)) := (((Below.refl _ _).alloc (Nat.le_refl _) _).alloc (by simp) _).alloc (by simp; omega) _
  have Z0 : (((w.alloc (.cells #[.slice (some ⟨b0, 0, none⟩) l0.length c0, .slice (some ⟨b1, 0, none⟩) l1.length c1, .slice (some ⟨b2, 0, none⟩) l2.length c2, .slice (some ⟨b3, 0, none⟩) l3.length c3] 28)).alloc (.cells #[.slice (some ⟨d0, 0, none⟩) k0.length f0, .slice (some ⟨d1, 0, none⟩) k1.length f1, .slice (some ⟨d2, 0, none⟩) k2.length f2, .slice (some ⟨d3, 0, none⟩) k3.length f3] 28)).alloc (.cells #[.slice none 0 0, .slice none 0 0, .slice none 0 0, .slice none 0 0] 28)).heap.size = w.heap.size + 3 := by simp
  rw [World.size_alloc] at B0 R0
  rw [World.size_alloc] at R0
  go_enter Try.func138, Try.ntmps138
  go_wp2_with fail
  generalize ((w.alloc (.cells #[.slice (some ⟨b0, 0, none⟩) l0.length c0, .slice (some ⟨b1, 0, none⟩) l1.length c1, .slice (some ⟨b2, 0, none⟩) l2.length c2, .slice (some ⟨b3, 0, none⟩) l3.length c3] 28)).alloc (.cells #[.slice (some ⟨d0, 0, none⟩) k0.length f0, .slice (some ⟨d1, 0, none⟩) k1.length f1, .slice (some ⟨d2, 0, none⟩) k2.length f2, .slice (some ⟨d3, 0, none⟩) k3.length f3] 28)).alloc (.cells #[.slice none 0 0, .slice none 0 0, .slice none 0 0, .slice none 0 0] 28) = W0 at *
  refine (l1own_any b0 b1 b2 b3 c0 c1 c2 c3 l0 l1 l2 l3 _ n0 n1 n2 n3 (o0.below L0 o0.1) (o1.below L0 o1.1) (o2.below L0 o2.1) (o3.below L0 o3.1)).mono ?_
  rintro e w1 ⟨a0, a1, a2, a3, e0, e1, e2, e3, m1, m2, m3, m4, rfl, t0, t1, t2, t3, g1, g2, g3, g4, g5, hb⟩
  rw [Z0] at t0 g1
  have q0 := p0.1; have q1 := p1.1; have q2 := p2.1; have q3 := p3.1
  replace p0 := (p0.below L0 p0.1).below hb (p0.below L0 p0.1).1; replace p1 := (p1.below L0 p1.1).below hb (p1.below L0 p1.1).1; replace p2 := (p2.below L0 p2.1).below hb (p2.below L0 p2.1).1; replace p3 := (p3.below L0 p3.1).below hb (p3.below L0 p3.1).1
  have hz := hb.size; rw [Z0] at hz; clear Z0
  replace B0 := B0.below hb B0.lt; replace R0 := R0.below hb R0.lt; replace L0 := L0.trans (hb.mono L0.size)
  clear hb A0 o0 o1 o2 o3
  have X0 := Box.new w1 (.slice a0 l0.length e0) (.slice a1 l1.length e1) (.slice a2 l2.length e2) (.slice a3 l3.length e3) 28
  have al : Below w1.heap.size w1 (w1.alloc (.cells #[.slice a0 l0.length e0, .slice a1 l1.length e1, .slice a2 l2.length e2, .slice a3 l3.length e3] 28)) := (Below.refl _ _).alloc (Nat.le_refl _) _
  have Z1 : (w1.alloc (.cells #[.slice a0 l0.length e0, .slice a1 l1.length e1, .slice a2 l2.length e2, .slice a3 l3.length e3] 28)).heap.size = w1.heap.size + 1 := by simp
  replace p0 := p0.below al p0.1; replace p1 := p1.below al p1.1; replace p2 := p2.below al p2.1; replace p3 := p3.below al p3.1
  replace t0 := t0.below al (by omega); replace t1 := t1.below al (by omega); replace t2 := t2.below al (by omega); replace t3 := t3.below al (by omega)
  replace B0 := B0.below al B0.lt; replace R0 := R0.below al R0.lt; replace L0 := L0.trans (al.mono L0.size)
  clear al
  have hN : (w1.alloc (.cells #[.slice a0 l0.length e0, .slice a1 l1.length e1, .slice a2 l2.length e2, .slice a3 l3.length e3] 28)).heap.size = w1.heap.size + 1 := Z1
  clear Z1
  have x0 := X0.c0; have x1 := X0.c1; have x2 := X0.c2; have x3 := X0.c3; have y0 := B0.c0; have y1 := B0.c1; have y2 := B0.c2; have y3 := B0.c3
  have hs0 : w1.heap.size + 1 ≤ (w1.alloc (.cells #[.slice a0 l0.length e0, .slice a1 l1.length e1, .slice a2 l2.length e2, .slice a3 l3.length e3] 28)).heap.size := by omega
  go_wp2_with (first | (at_builtin; refine wpList_room rfl _ _ rfl (w.heap.size + 3 + 2) m1 a0 l0.length e0 l0 rfl t0 d0 k0.length f0 k0 rfl rfl p0 (by omega) (by omega) ?_))
  clear x0 x1 x2 x3 y0 y1 y2 y3
  intro u0 v0 w2 r0 ho
  have X1 := X0.out ho (by omega)
  replace B0 := B0.out ho (by omega); replace R0 := R0.out ho (by omega)
  replace L0 := L0.trans (ho.below (by omega) L0.size)
  replace p0 := p0.out ho (by omega)
  replace p1 := p1.out ho (by omega)
  replace p2 := p2.out ho (by omega)
  replace p3 := p3.out ho (by omega)
  replace t1 := t1.out ho (by omega)
  replace t2 := t2.out ho (by omega)
  replace t3 := t3.out ho (by omega)
  have hn0 := ho.size
  clear ho t0
  have ho := Out.set w1.heap.size 0 w2 (.slice u0 (l0.length + k0.length) v0)
  have xx0 := X1.c0; have xf0 := X1.f0
  replace X0 := X1.set0 (.slice u0 (l0.length + k0.length) v0)
  replace B0 := B0.out ho (by omega); replace R0 := R0.out ho (by omega)
  replace L0 := L0.trans (ho.below (by omega) L0.size)
  replace p0 := p0.out ho (by omega)
  replace p1 := p1.out ho (by omega)
  replace p2 := p2.out ho (by omega)
  replace p3 := p3.out ho (by omega)
  replace t1 := t1.out ho (by omega)
  replace t2 := t2.out ho (by omega)
  replace t3 := t3.out ho (by omega)
  replace r0 := r0.out ho (by omega) (by omega)
  have hm0 : (w2.setCell ⟨w1.heap.size, 0, none⟩ (.slice u0 (l0.length + k0.length) v0)).heap.size = w2.heap.size := by simp
  clear ho X1
  have x0 := X0.c0; have x1 := X0.c1; have x2 := X0.c2; have x3 := X0.c3; have y0 := B0.c0; have y1 := B0.c1; have y2 := B0.c2; have y3 := B0.c3
  have hs1 : w1.heap.size + 1 ≤ (w2.setCell ⟨w1.heap.size, 0, none⟩ (.slice u0 (l0.length + k0.length) v0)).heap.size := by omega
  go_wp2_with (first | (at_builtin; refine wpList_room rfl _ _ rfl m1 m2 a1 l1.length e1 l1 rfl t1 d1 k1.length f1 k1 rfl rfl p1 (by omega) (by omega) ?_))
  clear x0 x1 x2 x3 y0 y1 y2 y3
  intro u1 v1 w3 r1 ho
  have X1 := X0.out ho (by omega)
  replace B0 := B0.out ho (by omega); replace R0 := R0.out ho (by omega)
  replace L0 := L0.trans (ho.below (by omega) L0.size)
  replace p0 := p0.out ho (by omega)
  replace p1 := p1.out ho (by omega)
  replace p2 := p2.out ho (by omega)
  replace p3 := p3.out ho (by omega)
  replace t2 := t2.out ho (by omega)
  replace t3 := t3.out ho (by omega)
  replace r0 := r0.out ho (by omega) (by omega)
  have hn1 := ho.size
  clear ho t1
  have ho := Out.set w1.heap.size 1 w3 (.slice u1 (l1.length + k1.length) v1)
  have xx1 := X1.c1; have xf1 := X1.f1
  replace X0 := X1.set1 (.slice u1 (l1.length + k1.length) v1)
  replace B0 := B0.out ho (by omega); replace R0 := R0.out ho (by omega)
  replace L0 := L0.trans (ho.below (by omega) L0.size)
  replace p0 := p0.out ho (by omega)
  replace p1 := p1.out ho (by omega)
  replace p2 := p2.out ho (by omega)
  replace p3 := p3.out ho (by omega)
  replace t2 := t2.out ho (by omega)
  replace t3 := t3.out ho (by omega)
  replace r0 := r0.out ho (by omega) (by omega)
  replace r1 := r1.out ho (by omega) (by omega)
  have hm1 : (w3.setCell ⟨w1.heap.size, 1, none⟩ (.slice u1 (l1.length + k1.length) v1)).heap.size = w3.heap.size := by simp
  clear ho X1
  have x0 := X0.c0; have x1 := X0.c1; have x2 := X0.c2; have x3 := X0.c3; have y0 := B0.c0; have y1 := B0.c1; have y2 := B0.c2; have y3 := B0.c3
  have hs2 : w1.heap.size + 1 ≤ (w3.setCell ⟨w1.heap.size, 1, none⟩ (.slice u1 (l1.length + k1.length) v1)).heap.size := by omega
  go_wp2_with (first | (at_builtin; refine wpList_room rfl _ _ rfl m2 m3 a2 l2.length e2 l2 rfl t2 d2 k2.length f2 k2 rfl rfl p2 (by omega) (by omega) ?_))
  clear x0 x1 x2 x3 y0 y1 y2 y3
  intro u2 v2 w4 r2 ho
  have X1 := X0.out ho (by omega)
  replace B0 := B0.out ho (by omega); replace R0 := R0.out ho (by omega)
  replace L0 := L0.trans (ho.below (by omega) L0.size)
  replace p0 := p0.out ho (by omega)
  replace p1 := p1.out ho (by omega)
  replace p2 := p2.out ho (by omega)
  replace p3 := p3.out ho (by omega)
  replace t3 := t3.out ho (by omega)
  replace r0 := r0.out ho (by omega) (by omega)
  replace r1 := r1.out ho (by omega) (by omega)
  have hn2 := ho.size
  clear ho t2
  have ho := Out.set w1.heap.size 2 w4 (.slice u2 (l2.length + k2.length) v2)
  have xx2 := X1.c2; have xf2 := X1.f2
  replace X0 := X1.set2 (.slice u2 (l2.length + k2.length) v2)
  replace B0 := B0.out ho (by omega); replace R0 := R0.out ho (by omega)
  replace L0 := L0.trans (ho.below (by omega) L0.size)
  replace p0 := p0.out ho (by omega)
  replace p1 := p1.out ho (by omega)
  replace p2 := p2.out ho (by omega)
  replace p3 := p3.out ho (by omega)
  replace t3 := t3.out ho (by omega)
  replace r0 := r0.out ho (by omega) (by omega)
  replace r1 := r1.out ho (by omega) (by omega)
  replace r2 := r2.out ho (by omega) (by omega)
  have hm2 : (w4.setCell ⟨w1.heap.size, 2, none⟩ (.slice u2 (l2.length + k2.length) v2)).heap.size = w4.heap.size := by simp
  clear ho X1
  have x0 := X0.c0; have x1 := X0.c1; have x2 := X0.c2; have x3 := X0.c3; have y0 := B0.c0; have y1 := B0.c1; have y2 := B0.c2; have y3 := B0.c3
  have hs3 : w1.heap.size + 1 ≤ (w4.setCell ⟨w1.heap.size, 2, none⟩ (.slice u2 (l2.length + k2.length) v2)).heap.size := by omega
  go_wp2_with (first | (at_builtin; refine wpList_room rfl _ _ rfl m3 m4 a3 l3.length e3 l3 rfl t3 d3 k3.length f3 k3 rfl rfl p3 (by omega) (by omega) ?_))
  clear x0 x1 x2 x3 y0 y1 y2 y3
  intro u3 v3 w5 r3 ho
  have X1 := X0.out ho (by omega)
  replace B0 := B0.out ho (by omega); replace R0 := R0.out ho (by omega)
  replace L0 := L0.trans (ho.below (by omega) L0.size)
  replace p0 := p0.out ho (by omega)
  replace p1 := p1.out ho (by omega)
  replace p2 := p2.out ho (by omega)
  replace p3 := p3.out ho (by omega)
  replace r0 := r0.out ho (by omega) (by omega)
  replace r1 := r1.out ho (by omega) (by omega)
  replace r2 := r2.out ho (by omega) (by omega)
  have hn3 := ho.size
  clear ho t3
  have ho := Out.set w1.heap.size 3 w5 (.slice u3 (l3.length + k3.length) v3)
  have xx3 := X1.c3; have xf3 := X1.f3
  replace X0 := X1.set3 (.slice u3 (l3.length + k3.length) v3)
  replace B0 := B0.out ho (by omega); replace R0 := R0.out ho (by omega)
  replace L0 := L0.trans (ho.below (by omega) L0.size)
  replace p0 := p0.out ho (by omega)
  replace p1 := p1.out ho (by omega)
  replace p2 := p2.out ho (by omega)
  replace p3 := p3.out ho (by omega)
  replace r0 := r0.out ho (by omega) (by omega)
  replace r1 := r1.out ho (by omega) (by omega)
  replace r2 := r2.out ho (by omega) (by omega)
  replace r3 := r3.out ho (by omega) (by omega)
  have hm3 : (w5.setCell ⟨w1.heap.size, 3, none⟩ (.slice u3 (l3.length + k3.length) v3)).heap.size = w5.heap.size := by simp
  clear ho X1
  have x0 := X0.c0; have x1 := X0.c1; have x2 := X0.c2; have x3 := X0.c3
  have y0 := R0.c0; have y1 := R0.c1; have y2 := R0.c2; have y3 := R0.c3; have y4 := R0.f0; have y5 := R0.f1; have y6 := R0.f2; have y7 := R0.f3
  obtain ⟨F, FO⟩ := R0.fill (.slice u0 (l0.length + k0.length) v0) (.slice u1 (l1.length + k1.length) v1) (.slice u2 (l2.length + k2.length) v2) (.slice u3 (l3.length + k3.length) v3)
  have s0 := ((r0.out FO (by omega) (by omega)).row (B := w.heap.size) (by omega) (by omega))
  have s1 := ((r1.out FO (by omega) (by omega)).row (B := w.heap.size) (by omega) (by omega))
  have s2 := ((r2.out FO (by omega) (by omega)).row (B := w.heap.size) (by omega) (by omega))
  have s3 := ((r3.out FO (by omega) (by omega)).row (B := w.heap.size) (by omega) (by omega))
  have L1 := L0.trans (FO.below (by omega) L0.size)
  have i0 := F.c0; have i1 := F.c1; have i2 := F.c2; have i3 := F.c3
  clear F FO L0 r0 r1 r2 r3 p0 p1 p2 p3
  go_wp2
  refine bodyPost_ret (v := .agg #[.slice u0 (l0.length + k0.length) v0, .slice u1 (l1.length + k1.length) v1, .slice u2 (l2.length + k2.length) v2, .slice u3 (l3.length + k3.length) v3]) ?_ rfl ⟨u0, u1, u2, u3, v0, v1, v2, v3, rfl, s0, s1, s2, s3, L1⟩
  simp [results, Try.results138, go_sem, i0, i1, i2, i3]

end Go.Proofs.Ytphchdjbhbmnbaa
