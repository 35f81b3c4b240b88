/-
  The contract of spec.l3opened.
-/
import Derived.Test.YtldhbooginlcpaaOp
namespace Go.Proofs.Ytldhbooginlcpaa
open Go.RowKit
theorem among_step (c : List Int) (x y : Int) {l : List (Int × Int)} {k : Nat} (hk : k < l.length) : amongV c (l.take (k + 1)) x y = (amongV c (l.take k) x y || pairIs (c.getD (l.getD k (0, 0)).1.toNat 0) (c.getD (l.getD k (0, 0)).2.toNat 0) x y) := by
  unfold amongV
  rw [List.take_add_one, List.getElem?_eq_getElem hk]
  simp only [Option.toList_some, List.any_append, List.any_cons, List.any_nil, Bool.or_false]
  rw [List.getD_eq_getElem?_getD (l := l), List.getElem?_eq_getElem hk, Option.getD_some]

set_option maxRecDepth 3000 in
set_option maxHeartbeats 2000000 in
theorem l3opened_any (a0 a1 a2 a3 : Option Addr) (c0 c1 c2 c3 : Nat) (l0 l1 l2 l3 : List (Int × Int)) (b cp : Nat) (c : List Int) (hc : Cls c) (w : World) (n1 : l1.length ≤ 1048576) (n3 : l3.length ≤ 1048576) (t1 : toks l1 = true) (t3 : toks l3 = true) (r1 : PRow w a1 l1) (r3 : PRow w a3 l3) (CO : OwnI w b 16 c 16) :
    Calls Try.prog 136 #[.agg #[.slice a0 l0.length c0, .slice a1 l1.length c1, .slice a2 l2.length c2, .slice a3 l3.length c3], .slice (some ⟨b, 0, none⟩) 16 cp] w fun e w' => e = .returned (.bool (openV c l1 l3)) ∧ Below w.heap.size w w' := by
  have CW := CO.alloc (.cells #[.slice a0 l0.length c0, .slice a1 l1.length c1, .slice a2 l2.length c2, .slice a3 l3.length c3] 28)
  have BW := Box.new w (.slice a0 l0.length c0) (.slice a1 l1.length c1) (.slice a2 l2.length c2) (.slice a3 l3.length c3) 28
  have LW : Below w.heap.size w (w.alloc (.cells #[.slice a0 l0.length c0, .slice a1 l1.length c1, .slice a2 l2.length c2, .slice a3 l3.length c3] 28)) := (Below.refl _ _).alloc (Nat.le_refl _) _
  have HC : Hid (Cls c) := hc
  clear hc CO
  go_enter Try.func136, Try.ntmps136
  go_wp2_with fail
  generalize (w.alloc (.cells #[.slice a0 l0.length c0, .slice a1 l1.length c1, .slice a2 l2.length c2, .slice a3 l3.length c3] 28)) = W at *
  go_loopw [5] (fun i wr => ∃ k : Nat, k ≤ l3.length ∧ i = .int .i64 k ∧ Hid (∀ j, j < k → amongV c l1 (c.getD (l3.getD j (0, 0)).1.toNat 0) (c.getD (l3.getD j (0, 0)).2.toNat 0) = true) ∧ OwnI wr b 16 c 16 ∧ Box wr w.heap.size (.slice a0 l0.length c0) (.slice a1 l1.length c1) (.slice a2 l2.length c2) (.slice a3 l3.length c3) ∧ Below w.heap.size w wr) (fun i _ => l3.length - (intOf i).toNat)
  case atStart => exact ⟨0, Nat.zero_le _, rfl, fun j hj => absurd hj (Nat.not_lt_zero _), CW, BW, LW⟩
  case round =>
    clear CW LW BW
    obtain ⟨k, hk, rfl, HM, C, B, L⟩ := hrel
    have e3 := B.c3
    by_cases hltx : k < l3.length
    · rcases r3 with hnil | ⟨b3, off3, rfl, hb3, hcl3⟩
      · rw [hnil] at hltx; simp at hltx
      have hxq0 : w.cell? ⟨b3, off3 + k * 2, none⟩ = some (.int .i64 (l3.getD k (0, 0)).1) := (hcl3 k hltx).1
      have hxq1 : w.cell? ⟨b3, off3 + k * 2 + 1, none⟩ = some (.int .i64 (l3.getD k (0, 0)).2) := (hcl3 k hltx).2
      have hkn : (k : Int) < (l3.length : Int) := by omega
      have hk0' : (0 : Int) ≤ (k : Int) := by omega
      have htk := toks_get t3 hltx
      have HNO : Hid (amongV c l1 (c.getD (l3.getD k (0, 0)).1.toNat 0) (c.getD (l3.getD k (0, 0)).2.toNat 0) = false → openV c l1 l3 = false) := fun h => open_not hltx h
      have HM2 : Hid (amongV c l1 (c.getD (l3.getD k (0, 0)).1.toNat 0) (c.getD (l3.getD k (0, 0)).2.toNat 0) = true → ∀ j, j < k + 1 → amongV c l1 (c.getD (l3.getD j (0, 0)).1.toNat 0) (c.getD (l3.getD j (0, 0)).2.toNat 0) = true) := by
        intro hf j hj
        by_cases e : j = k
        · subst e; exact hf
        · exact HM.out j (by omega)
      generalize l3.getD k (0, 0) = p at *
      clear hcl3
      obtain ⟨⟨q1, q2⟩, q3, q4⟩ := htk
      obtain ⟨s2, t2, rfl, hs2, ht2⟩ : ∃ s t : Nat, p = ((s : Int), (t : Int)) ∧ s < 16 ∧ t < 16 := ⟨p.1.toNat, p.2.toNat, by rw [Int.toNat_of_nonneg q1, Int.toNat_of_nonneg q3], by omega, by omega⟩
      clear q1 q2 q3 q4
      dsimp only at hxq0 hxq1
      simp only [Int.toNat_natCast] at HNO HM2
      have HX : Hid (∃ x, x = c.getD s2 0) := ⟨_, rfl⟩
      obtain ⟨x, hx⟩ := HX.out
      obtain ⟨y, hy⟩ : ∃ y, y = c.getD t2 0 := ⟨_, rfl⟩
      rw [← hx, ← hy] at HNO HM2
      replace hx : Hid (x = c.getD s2 0) := hx
      replace hy : Hid (y = c.getD t2 0) := hy
      clear HX
      have hs2a : (s2 : Int) < 16 := by omega
      have ht2a : (t2 : Int) < 16 := by omega
      have hs2b : (0 : Int) ≤ (s2 : Int) := by omega
      have ht2b : (0 : Int) ≤ (t2 : Int) := by omega
      go_wp2_with fail
      clear e3
      go_loopw [6, 7] (fun f i wr => ∃ m : Nat, m ≤ l1.length ∧ i = .int .i64 m ∧ f = .bool (amongV c (l1.take m) x y) ∧ OwnI wr b 16 c 16 ∧ Box wr w.heap.size (.slice a0 l0.length c0) (.slice a1 l1.length c1) (.slice a2 l2.length c2) (.slice (some ⟨b3, off3, none⟩) l3.length c3) ∧ Below w.heap.size w wr) (fun _ i _ => l1.length - (intOf i).toNat)
      case atStart => exact ⟨0, Nat.zero_le _, rfl, rfl, C, B, L⟩
      case round =>
        clear C B L
        obtain ⟨m, hm, rfl, rfl, C, B, L⟩ := hrel
        have e1 := B.c1
        by_cases hlty : m < l1.length
        · rcases r1 with hnil | ⟨b1, off1, rfl, hb1, hcl1⟩
          · rw [hnil] at hlty; simp at hlty
          have hyq0 : wr.cell? ⟨b1, off1 + m * 2, none⟩ = some (.int .i64 (l1.getD m (0, 0)).1) := by rw [L.cell (p := ⟨b1, _, none⟩) hb1]; exact (hcl1 m hlty).1
          have hyq1 : wr.cell? ⟨b1, off1 + m * 2 + 1, none⟩ = some (.int .i64 (l1.getD m (0, 0)).2) := by rw [L.cell (p := ⟨b1, _, none⟩) hb1]; exact (hcl1 m hlty).2
          have hmn : (m : Int) < (l1.length : Int) := by omega
          have hm0 : (0 : Int) ≤ (m : Int) := by omega
          have htm := toks_get t1 hlty
          have HA := among_step c x y hlty
          generalize l1.getD m (0, 0) = pp at *
          clear hcl1
          obtain ⟨⟨q1, q2⟩, q3, q4⟩ := htm
          obtain ⟨s, t, rfl, hs, hts⟩ : ∃ s t : Nat, pp = ((s : Int), (t : Int)) ∧ s < 16 ∧ t < 16 := ⟨pp.1.toNat, pp.2.toNat, by rw [Int.toNat_of_nonneg q1, Int.toNat_of_nonneg q3], by omega, by omega⟩
          clear q1 q2 q3 q4
          dsimp only at hyq0 hyq1
          simp only [Int.toNat_natCast] at HA
          have hsa : (s : Int) < 16 := by omega
          have hta : (t : Int) < 16 := by omega
          have hsb : (0 : Int) ≤ (s : Int) := by omega
          have htb : (0 : Int) ≤ (t : Int) := by omega
          have ep := C.2.2 s hs
          have eq := C.2.2 t hts
          generalize c.getD s 0 = p at *
          generalize c.getD t 0 = q at *
          generalize amongV c (l1.take m) x y = f at *
          replace HA : Hid (amongV c (l1.take (m + 1)) x y = (f || pairIs p q x y)) := HA
          go_wp2_with fail
          have hS0 : Below w.heap.size w wr.drew ∧ wr.drew.cell? ⟨w.heap.size, 1, none⟩ = some (.slice (some ⟨b1, off1, none⟩) l1.length c1) ∧ wr.drew.cell? ⟨b1, off1 + m * 2, none⟩ = some (.int .i64 s) ∧ wr.drew.cell? ⟨b1, off1 + m * 2 + 1, none⟩ = some (.int .i64 t) ∧ wr.drew.cell? ⟨b, s, none⟩ = some (.int .i64 p) ∧ wr.drew.cell? ⟨b, t, none⟩ = some (.int .i64 q) := ⟨L.drew, e1, hyq0, hyq1, ep, eq⟩
          have C2 := C.drew; have B2 := B.drew
          go_region_held3 (fun w' => Below w.heap.size w w' ∧ w'.cell? ⟨w.heap.size, 1, none⟩ = some (.slice (some ⟨b1, off1, none⟩) l1.length c1) ∧ w'.cell? ⟨b1, off1 + m * 2, none⟩ = some (.int .i64 s) ∧ w'.cell? ⟨b1, off1 + m * 2 + 1, none⟩ = some (.int .i64 t) ∧ w'.cell? ⟨b, s, none⟩ = some (.int .i64 p) ∧ w'.cell? ⟨b, t, none⟩ = some (.int .i64 q))
            (first | exact hS0 | assumption | (refine ⟨?_, ?_, ?_, ?_, ?_, ?_⟩ <;> assumption))
            (fail)
          replace L := hS0.1
          clear hS0 C B e1 ep eq hyq0 hyq1
          generalize wr.drew = wd at *
          have e3 := B2.c3
          have hyq0 : wd.cell? ⟨b3, off3 + k * 2, none⟩ = some (.int .i64 s2) := by rw [L.cell (p := ⟨b3, _, none⟩) hb3]; exact hxq0
          have hyq1 : wd.cell? ⟨b3, off3 + k * 2 + 1, none⟩ = some (.int .i64 t2) := by rw [L.cell (p := ⟨b3, _, none⟩) hb3]; exact hxq1
          have ep := C2.2.2 s2 hs2
          have eq := C2.2.2 t2 ht2
          rw [← hx.out] at ep
          rw [← hy.out] at eq
          go_wp2_with fail
          have hS0 : Below w.heap.size w wd.drew ∧ wd.drew.cell? ⟨w.heap.size, 3, none⟩ = some (.slice (some ⟨b3, off3, none⟩) l3.length c3) ∧ wd.drew.cell? ⟨b3, off3 + k * 2, none⟩ = some (.int .i64 s2) ∧ wd.drew.cell? ⟨b3, off3 + k * 2 + 1, none⟩ = some (.int .i64 t2) ∧ wd.drew.cell? ⟨b, s2, none⟩ = some (.int .i64 x) ∧ wd.drew.cell? ⟨b, t2, none⟩ = some (.int .i64 y) := ⟨L.drew, e3, hyq0, hyq1, ep, eq⟩
          have C3 := C2.drew; have B3 := B2.drew
          go_region_held3 (fun w' => Below w.heap.size w w' ∧ w'.cell? ⟨w.heap.size, 3, none⟩ = some (.slice (some ⟨b3, off3, none⟩) l3.length c3) ∧ w'.cell? ⟨b3, off3 + k * 2, none⟩ = some (.int .i64 s2) ∧ w'.cell? ⟨b3, off3 + k * 2 + 1, none⟩ = some (.int .i64 t2) ∧ w'.cell? ⟨b, s2, none⟩ = some (.int .i64 x) ∧ w'.cell? ⟨b, t2, none⟩ = some (.int .i64 y))
            (first | exact hS0 | assumption | (refine ⟨?_, ?_, ?_, ?_, ?_, ?_⟩ <;> assumption))
            (fail)
          replace L := hS0.1
          clear hS0 C2 B2 e3 ep eq hyq0 hyq1
          generalize wd.drew = we at *
          have HF : Hid (amongV c (l1.take (m + 1)) x y = (f || decide (p = x) && decide (q = y) || decide (p = y) && decide (q = x))) := by
            unfold Hid; rw [HA.out]; unfold pairIs; rw [Bool.or_assoc]; congr 1; rw [← Bool.decide_and, ← Bool.decide_and, ← Bool.decide_or]
          clear HA
          cases f
          · have HG : Hid (amongV c (l1.take (m + 1)) x y = decide (p = x ∧ q = y ∨ p = y ∧ q = x)) := by unfold Hid; rw [HF.out, Bool.false_or, Bool.decide_or, Bool.decide_and, Bool.decide_and]
            clear HF
            by_cases h1 : p = x <;> by_cases h2 : q = y <;> by_cases h3 : p = y <;> by_cases h4 : q = x
            all_goals
              first
                | (exfalso; omega)
                | (go_wp2
                   go_roundw
                   case rel => exact ⟨m + 1, by omega, by go_num, by rw [HG.out]; exact congrArg Value.bool (by first | exact (decide_eq_true (by omega)).symm | exact (decide_eq_false (by omega)).symm | (rw [Bool.eq_iff_iff, beq_iff_eq, decide_eq_true_iff]; omega)), C3, B3, L⟩
                   case measure => simp [intOf]; omega)
          · go_wp2
            go_roundw
            case rel => exact ⟨m + 1, by omega, by go_num, by rw [HF.out]; rfl, C3, B3, L⟩
            case measure => simp [intOf]; omega
        · have HT : amongV c (l1.take m) x y = amongV c l1 x y := by rw [show m = l1.length by omega, List.take_length]
          rw [HT]
          clear HT
          have hge : ¬ ((m : Int) < (l1.length : Int)) := by omega
          cases hf : amongV c l1 x y
          · have HV : Hid (openV c l1 l3 = false) := HNO.out hf
            go_wp2
            go_ret
            exact ⟨by rw [HV.out]; rfl, L⟩
          · have HM3 : Hid (∀ j, j < k + 1 → amongV c l1 (c.getD (l3.getD j (0, 0)).1.toNat 0) (c.getD (l3.getD j (0, 0)).2.toNat 0) = true) := HM2.out hf
            go_wp2
            go_roundw
            case rel => exact ⟨k + 1, by omega, by go_num, HM3, C, B, L⟩
            case measure => simp [intOf]; omega
    · have HV : Hid (openV c l1 l3 = true) := open_all (fun j hj => HM.out j (by omega))
      have hge : ¬ ((k : Int) < (l3.length : Int)) := by omega
      go_wp2
      go_ret
      exact ⟨by rw [HV.out]; rfl, L⟩

end Go.Proofs.Ytldhbooginlcpaa
