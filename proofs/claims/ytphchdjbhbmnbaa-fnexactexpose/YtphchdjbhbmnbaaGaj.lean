/-
  Plain lemmas and contracts of functions for the other texts of this seat: So, Xs, Us2, Ui, Oc, Ha.
-/
import Derived.Test.YtphchdjbhbmnbaaGai
import Derived.Test.YtphchdjbhbmnbaaGah
import Derived.Test.YtphchdjbhbmnbaaGab
import Derived.Test.YtphchdjbhbmnbaaGad
import Derived.Test.YtphchdjbhbmnbaaGaf
namespace Go.Proofs.Ytphchdjbhbmnbaa
open Go.RowKit
theorem among_step (c : List Int) (x y : Int) {l : List (Int × Int)} {k : Nat} (hk : k < l.length) : amongV c (l.take (k + 1)) x y = (amongV c (l.take k) x y || pairIs (c.getD (l.getD k (0, 0)).1.toNat 0) (c.getD (l.getD k (0, 0)).2.toNat 0) x y) := by
  unfold amongV
  rw [List.take_add_one, List.getElem?_eq_getElem hk]
  simp only [Option.toList_some, List.any_append, List.any_cons, List.any_nil, Bool.or_false]
  rw [List.getD_eq_getElem?_getD (l := l), List.getElem?_eq_getElem hk, Option.getD_some]

set_option maxRecDepth 3000 in
set_option maxHeartbeats 2000000 in
theorem l3opened_any (a0 a1 a2 a3 : Option Addr) (c0 c1 c2 c3 : Nat) (l0 l1 l2 l3 : List (Int × Int)) (b cp : Nat) (c : List Int) (hc : Cls c) (w : World) (n1 : l1.length ≤ 1048576) (n3 : l3.length ≤ 1048576) (t1 : toks l1 = true) (t3 : toks l3 = true) (r1 : PRow w a1 l1) (r3 : PRow w a3 l3) (CO : OwnI w b 16 c 16) :
    Calls Try.prog 154 #[.agg #[.slice a0 l0.length c0, .slice a1 l1.length c1, .slice a2 l2.length c2, .slice a3 l3.length c3], .slice (some ⟨b, 0, none⟩) 16 cp] w fun e w' => e = .returned (.bool (openV c l1 l3)) ∧ Below w.heap.size w w' := by
  have CW := CO.alloc (.cells #[.slice a0 l0.length c0, .slice a1 l1.length c1, .slice a2 l2.length c2, .slice a3 l3.length c3] 28)
  have BW := Box.new w (.slice a0 l0.length c0) (.slice a1 l1.length c1) (.slice a2 l2.length c2) (.slice a3 l3.length c3) 28
  have LW : Below w.heap.size w (w.alloc (.cells #[.slice a0 l0.length c0, .slice a1 l1.length c1, .slice a2 l2.length c2, .slice a3 l3.length c3] 28)) := (Below.refl _ _).alloc (Nat.le_refl _) _
  have HC : Hid (Cls c) := hc
  clear hc CO
  go_enter Try.func154, Try.ntmps154
  go_wp2_with fail
  generalize (w.alloc (.cells #[.slice a0 l0.length c0, .slice a1 l1.length c1, .slice a2 l2.length c2, .slice a3 l3.length c3] 28)) = W at *
  go_loopw [5] (fun i wr => ∃ k : Nat, k ≤ l3.length ∧ i = .int .i64 k ∧ Hid (∀ j, j < k → amongV c l1 (c.getD (l3.getD j (0, 0)).1.toNat 0) (c.getD (l3.getD j (0, 0)).2.toNat 0) = true) ∧ OwnI wr b 16 c 16 ∧ Box wr w.heap.size (.slice a0 l0.length c0) (.slice a1 l1.length c1) (.slice a2 l2.length c2) (.slice a3 l3.length c3) ∧ Below w.heap.size w wr) (fun i _ => l3.length - (intOf i).toNat)
  case atStart => exact ⟨0, Nat.zero_le _, rfl, fun j hj => absurd hj (Nat.not_lt_zero _), CW, BW, LW⟩
  case round =>
    clear CW LW BW
    obtain ⟨k, hk, rfl, HM, C, B, L⟩ := hrel
    have e3 := B.c3
    by_cases hltx : k < l3.length
    · rcases r3 with hnil | ⟨b3, off3, rfl, hb3, hcl3⟩
      · rw [hnil] at hltx; simp at hltx
      have hxq0 : w.cell? ⟨b3, off3 + k * 2, none⟩ = some (.int .i64 (l3.getD k (0, 0)).1) := (hcl3 k hltx).1
      have hxq1 : w.cell? ⟨b3, off3 + k * 2 + 1, none⟩ = some (.int .i64 (l3.getD k (0, 0)).2) := (hcl3 k hltx).2
      have hkn : (k : Int) < (l3.length : Int) := by omega
      have hk0' : (0 : Int) ≤ (k : Int) := by omega
      have htk := toks_get t3 hltx
      have HNO : Hid (amongV c l1 (c.getD (l3.getD k (0, 0)).1.toNat 0) (c.getD (l3.getD k (0, 0)).2.toNat 0) = false → openV c l1 l3 = false) := fun h => open_not hltx h
      have HM2 : Hid (amongV c l1 (c.getD (l3.getD k (0, 0)).1.toNat 0) (c.getD (l3.getD k (0, 0)).2.toNat 0) = true → ∀ j, j < k + 1 → amongV c l1 (c.getD (l3.getD j (0, 0)).1.toNat 0) (c.getD (l3.getD j (0, 0)).2.toNat 0) = true) := by
        intro hf j hj
        by_cases e : j = k
        · subst e; exact hf
        · exact HM.out j (by omega)
      generalize l3.getD k (0, 0) = p at *
      clear hcl3
      obtain ⟨⟨q1, q2⟩, q3, q4⟩ := htk
      obtain ⟨s2, t2, rfl, hs2, ht2⟩ : ∃ s t : Nat, p = ((s : Int), (t : Int)) ∧ s < 16 ∧ t < 16 := ⟨p.1.toNat, p.2.toNat, by rw [Int.toNat_of_nonneg q1, Int.toNat_of_nonneg q3], by omega, by omega⟩
      clear q1 q2 q3 q4
      dsimp only at hxq0 hxq1
      simp only [Int.toNat_natCast] at HNO HM2
      have HX : Hid (∃ x, x = c.getD s2 0) := ⟨_, rfl⟩
      obtain ⟨x, hx⟩ := HX.out
      obtain ⟨y, hy⟩ : ∃ y, y = c.getD t2 0 := ⟨_, rfl⟩
      rw [← hx, ← hy] at HNO HM2
      replace hx : Hid (x = c.getD s2 0) := hx
      replace hy : Hid (y = c.getD t2 0) := hy
      clear HX
      have hs2a : (s2 : Int) < 16 := by omega
      have ht2a : (t2 : Int) < 16 := by omega
      have hs2b : (0 : Int) ≤ (s2 : Int) := by omega
      have ht2b : (0 : Int) ≤ (t2 : Int) := by omega
      go_wp2_with fail
      clear e3
      go_loopw [6, 7] (fun f i wr => ∃ m : Nat, m ≤ l1.length ∧ i = .int .i64 m ∧ f = .bool (amongV c (l1.take m) x y) ∧ OwnI wr b 16 c 16 ∧ Box wr w.heap.size (.slice a0 l0.length c0) (.slice a1 l1.length c1) (.slice a2 l2.length c2) (.slice (some ⟨b3, off3, none⟩) l3.length c3) ∧ Below w.heap.size w wr) (fun _ i _ => l1.length - (intOf i).toNat)
      case atStart => exact ⟨0, Nat.zero_le _, rfl, rfl, C, B, L⟩
      case round =>
        clear C B L
        obtain ⟨m, hm, rfl, rfl, C, B, L⟩ := hrel
        have e1 := B.c1
        by_cases hlty : m < l1.length
        · rcases r1 with hnil | ⟨b1, off1, rfl, hb1, hcl1⟩
          · rw [hnil] at hlty; simp at hlty
          have hyq0 : wr.cell? ⟨b1, off1 + m * 2, none⟩ = some (.int .i64 (l1.getD m (0, 0)).1) := by rw [L.cell (p := ⟨b1, _, none⟩) hb1]; exact (hcl1 m hlty).1
          have hyq1 : wr.cell? ⟨b1, off1 + m * 2 + 1, none⟩ = some (.int .i64 (l1.getD m (0, 0)).2) := by rw [L.cell (p := ⟨b1, _, none⟩) hb1]; exact (hcl1 m hlty).2
          have hmn : (m : Int) < (l1.length : Int) := by omega
          have hm0 : (0 : Int) ≤ (m : Int) := by omega
          have htm := toks_get t1 hlty
          have HA := among_step c x y hlty
          generalize l1.getD m (0, 0) = pp at *
          clear hcl1
          obtain ⟨⟨q1, q2⟩, q3, q4⟩ := htm
          obtain ⟨s, t, rfl, hs, hts⟩ : ∃ s t : Nat, pp = ((s : Int), (t : Int)) ∧ s < 16 ∧ t < 16 := ⟨pp.1.toNat, pp.2.toNat, by rw [Int.toNat_of_nonneg q1, Int.toNat_of_nonneg q3], by omega, by omega⟩
          clear q1 q2 q3 q4
          dsimp only at hyq0 hyq1
          simp only [Int.toNat_natCast] at HA
          have hsa : (s : Int) < 16 := by omega
          have hta : (t : Int) < 16 := by omega
          have hsb : (0 : Int) ≤ (s : Int) := by omega
          have htb : (0 : Int) ≤ (t : Int) := by omega
          have ep := C.2.2 s hs
          have eq := C.2.2 t hts
          generalize c.getD s 0 = p at *
          generalize c.getD t 0 = q at *
          generalize amongV c (l1.take m) x y = f at *
          replace HA : Hid (amongV c (l1.take (m + 1)) x y = (f || pairIs p q x y)) := HA
          go_wp2_with fail
          have hS0 : Below w.heap.size w wr.drew ∧ wr.drew.cell? ⟨w.heap.size, 1, none⟩ = some (.slice (some ⟨b1, off1, none⟩) l1.length c1) ∧ wr.drew.cell? ⟨b1, off1 + m * 2, none⟩ = some (.int .i64 s) ∧ wr.drew.cell? ⟨b1, off1 + m * 2 + 1, none⟩ = some (.int .i64 t) ∧ wr.drew.cell? ⟨b, s, none⟩ = some (.int .i64 p) ∧ wr.drew.cell? ⟨b, t, none⟩ = some (.int .i64 q) := ⟨L.drew, e1, hyq0, hyq1, ep, eq⟩
          have C2 := C.drew; have B2 := B.drew
          go_region_held3 (fun w' => Below w.heap.size w w' ∧ w'.cell? ⟨w.heap.size, 1, none⟩ = some (.slice (some ⟨b1, off1, none⟩) l1.length c1) ∧ w'.cell? ⟨b1, off1 + m * 2, none⟩ = some (.int .i64 s) ∧ w'.cell? ⟨b1, off1 + m * 2 + 1, none⟩ = some (.int .i64 t) ∧ w'.cell? ⟨b, s, none⟩ = some (.int .i64 p) ∧ w'.cell? ⟨b, t, none⟩ = some (.int .i64 q))
            (first | exact hS0 | assumption | (refine ⟨?_, ?_, ?_, ?_, ?_, ?_⟩ <;> assumption))
            (fail)
          replace L := hS0.1
          clear hS0 C B e1 ep eq hyq0 hyq1
          generalize wr.drew = wd at *
          have e3 := B2.c3
          have hyq0 : wd.cell? ⟨b3, off3 + k * 2, none⟩ = some (.int .i64 s2) := by rw [L.cell (p := ⟨b3, _, none⟩) hb3]; exact hxq0
          have hyq1 : wd.cell? ⟨b3, off3 + k * 2 + 1, none⟩ = some (.int .i64 t2) := by rw [L.cell (p := ⟨b3, _, none⟩) hb3]; exact hxq1
          have ep := C2.2.2 s2 hs2
          have eq := C2.2.2 t2 ht2
          rw [← hx.out] at ep
          rw [← hy.out] at eq
          go_wp2_with fail
          have hS0 : Below w.heap.size w wd.drew ∧ wd.drew.cell? ⟨w.heap.size, 3, none⟩ = some (.slice (some ⟨b3, off3, none⟩) l3.length c3) ∧ wd.drew.cell? ⟨b3, off3 + k * 2, none⟩ = some (.int .i64 s2) ∧ wd.drew.cell? ⟨b3, off3 + k * 2 + 1, none⟩ = some (.int .i64 t2) ∧ wd.drew.cell? ⟨b, s2, none⟩ = some (.int .i64 x) ∧ wd.drew.cell? ⟨b, t2, none⟩ = some (.int .i64 y) := ⟨L.drew, e3, hyq0, hyq1, ep, eq⟩
          have C3 := C2.drew; have B3 := B2.drew
          go_region_held3 (fun w' => Below w.heap.size w w' ∧ w'.cell? ⟨w.heap.size, 3, none⟩ = some (.slice (some ⟨b3, off3, none⟩) l3.length c3) ∧ w'.cell? ⟨b3, off3 + k * 2, none⟩ = some (.int .i64 s2) ∧ w'.cell? ⟨b3, off3 + k * 2 + 1, none⟩ = some (.int .i64 t2) ∧ w'.cell? ⟨b, s2, none⟩ = some (.int .i64 x) ∧ w'.cell? ⟨b, t2, none⟩ = some (.int .i64 y))
            (first | exact hS0 | assumption | (refine ⟨?_, ?_, ?_, ?_, ?_, ?_⟩ <;> assumption))
            (fail)
          replace L := hS0.1
          clear hS0 C2 B2 e3 ep eq hyq0 hyq1
          generalize wd.drew = we at *
          have HF : Hid (amongV c (l1.take (m + 1)) x y = (f || decide (p = x) && decide (q = y) || decide (p = y) && decide (q = x))) := by
            unfold Hid; rw [HA.out]; unfold pairIs; rw [Bool.or_assoc]; congr 1; rw [← Bool.decide_and, ← Bool.decide_and, ← Bool.decide_or]
          clear HA
          cases f
          · have HG : Hid (amongV c (l1.take (m + 1)) x y = decide (p = x ∧ q = y ∨ p = y ∧ q = x)) := by unfold Hid; rw [HF.out, Bool.false_or, Bool.decide_or, Bool.decide_and, Bool.decide_and]
            clear HF
            by_cases h1 : p = x <;> by_cases h2 : q = y <;> by_cases h3 : p = y <;> by_cases h4 : q = x
            all_goals
              first
                | (exfalso; omega)
                | (go_wp2
                   go_roundw
                   case rel => exact ⟨m + 1, by omega, by go_num, by rw [HG.out]; exact congrArg Value.bool (by first | exact (decide_eq_true (by omega)).symm | exact (decide_eq_false (by omega)).symm | (rw [Bool.eq_iff_iff, beq_iff_eq, decide_eq_true_iff]; omega)), C3, B3, L⟩
                   case measure => simp [intOf]; omega)
          · go_wp2
            go_roundw
            case rel => exact ⟨m + 1, by omega, by go_num, by rw [HF.out]; rfl, C3, B3, L⟩
            case measure => simp [intOf]; omega
        · have HT : amongV c (l1.take m) x y = amongV c l1 x y := by rw [show m = l1.length by omega, List.take_length]
          rw [HT]
          clear HT
          have hge : ¬ ((m : Int) < (l1.length : Int)) := by omega
          cases hf : amongV c l1 x y
          · have HV : Hid (openV c l1 l3 = false) := HNO.out hf
            go_wp2
            go_ret
            exact ⟨by rw [HV.out]; rfl, L⟩
          · have HM3 : Hid (∀ j, j < k + 1 → amongV c l1 (c.getD (l3.getD j (0, 0)).1.toNat 0) (c.getD (l3.getD j (0, 0)).2.toNat 0) = true) := HM2.out hf
            go_wp2
            go_roundw
            case rel => exact ⟨k + 1, by omega, by go_num, HM3, C, B, L⟩
            case measure => simp [intOf]; omega
    · have HV : Hid (openV c l1 l3 = true) := open_all (fun j hj => HM.out j (by omega))
      have hge : ¬ ((k : Int) < (l3.length : Int)) := by omega
      go_wp2
      go_ret
      exact ⟨by rw [HV.out]; rfl, L⟩

end Go.Proofs.Ytphchdjbhbmnbaa
namespace Go.Proofs.Ytphchdjbhbmnbaa
open Go.RowKit
set_option linter.unusedVariables false

def exJ (l0 l2 l3 : List (Int × Int)) (t : Int) : Int := idxV (headsV (clsV l0) l2 l3) ((clsV l0).getD t.toNat 0)
def exB (l0 l1 l2 l3 : List (Int × Int)) (t : Int) : Bool := asnB l0 l1 l2 l3 && tok t && openV (clsV l0) l1 l3 && !(contraV (clsV l0) l1 l2 l3) && decide (0 ≤ exJ l0 l2 l3 t) && (decide (exJ l0 l2 l3 t < (l2.length : Int)) || (decide (0 ≤ freshF (usedV l0 l1 l2 l3)) && decide (l2.length + l3.length < 6)))
def exL2 (l0 l1 l2 l3 : List (Int × Int)) (t : Int) : List (Int × Int) := if exJ l0 l2 l3 t < (l2.length : Int) then l2 else unfC l2 (l3.getD (exJ l0 l2 l3 t - (l2.length : Int)).toNat (0, 0)) (freshF (usedV l0 l1 l2 l3))
def exL3 (l0 l1 l2 l3 : List (Int × Int)) (t : Int) : List (Int × Int) := if exJ l0 l2 l3 t < (l2.length : Int) then l3 else unfS l3 (exJ l0 l2 l3 t - (l2.length : Int)).toNat (l3.getD (exJ l0 l2 l3 t - (l2.length : Int)).toNat (0, 0)) (freshF (usedV l0 l1 l2 l3))
def exI (l0 l1 l2 l3 : List (Int × Int)) (t : Int) : Int := if exB l0 l1 l2 l3 t = true then (if exJ l0 l2 l3 t < (l2.length : Int) then exJ l0 l2 l3 t else (l2.length : Int)) else -1
theorem exJ_cell {l0 l2 l3 : List (Int × Int)} {t : Nat} (h : 0 ≤ idxV (headsOf (clsV l0) l2) ((clsV l0).getD t 0)) : exJ l0 l2 l3 (t : Int) = idxV (headsOf (clsV l0) l2) ((clsV l0).getD t 0) ∧ exJ l0 l2 l3 (t : Int) < (l2.length : Int) := by
  have e : exJ l0 l2 l3 (t : Int) = idxV (headsOf (clsV l0) l2) ((clsV l0).getD t 0) := by
    unfold exJ headsV
    rw [Int.toNat_natCast]
    exact idx_app1 h
  obtain ⟨k, e2, hk, _⟩ := idx_lt h
  rw [headsOf_length] at hk
  exact ⟨e, by rw [e, e2]; omega⟩
theorem exJ_seg {l0 l2 l3 : List (Int × Int)} {t k : Nat} (h : idxV (headsOf (clsV l0) l2) ((clsV l0).getD t 0) < 0) (hk : idxV (headsOf (clsV l0) l3) ((clsV l0).getD t 0) = (k : Int)) : exJ l0 l2 l3 (t : Int) = ((l2.length + k : Nat) : Int) := by
  unfold exJ headsV
  rw [Int.toNat_natCast, idx_app2 h hk, headsOf_length]
theorem exJ_none {l0 l2 l3 : List (Int × Int)} {t : Nat} (h : idxV (headsOf (clsV l0) l2) ((clsV l0).getD t 0) < 0) (hk : idxV (headsOf (clsV l0) l3) ((clsV l0).getD t 0) < 0) : exJ l0 l2 l3 (t : Int) = -1 := by
  unfold exJ headsV
  rw [Int.toNat_natCast]
  exact idx_app3 h hk

set_option linter.unusedSimpArgs false in
set_option maxRecDepth 20000 in
set_option maxHeartbeats 4000000 in
theorem sExpose_any (b0 b1 b2 b3 c0 c1 c2 c3 : Nat) (l0 l1 l2 l3 : List (Int × Int)) (t : Int) (w : World) (n0 : l0.length ≤ 1048576) (n1 : l1.length ≤ 1048576) (n2 : l2.length ≤ 1048576) (n3 : l3.length ≤ 1048576) (o0 : Own w b0 l0.length l0 l0.length) (o1 : Own w b1 l1.length l1 l1.length) (o2 : Own w b2 l2.length l2 l2.length) (o3 : Own w b3 l3.length l3 l3.length) (z3 : l3.length ≤ c3) :
    Calls Try.prog 120 #[.agg #[.slice (some ⟨b0, 0, none⟩) l0.length c0, .slice (some ⟨b1, 0, none⟩) l1.length c1, .slice (some ⟨b2, 0, none⟩) l2.length c2, .slice (some ⟨b3, 0, none⟩) l3.length c3], .int .i64 t] w fun e w' => ∃ p0 p1 p2 p3 q0 q1 q2 q3, e = .returned (.tuple #[.agg #[.slice p0 (okL (exB l0 l1 l2 l3 t) l0).length q0, .slice p1 (okL (exB l0 l1 l2 l3 t) l1).length q1, .slice p2 (okL (exB l0 l1 l2 l3 t) (exL2 l0 l1 l2 l3 t)).length q2, .slice p3 (okL (exB l0 l1 l2 l3 t) (exL3 l0 l1 l2 l3 t)).length q3], .int .i64 (exI l0 l1 l2 l3 t), .bool (exB l0 l1 l2 l3 t)]) ∧ Seen w' w.heap.size w'.heap.size p0 p1 p2 p3 (okL (exB l0 l1 l2 l3 t) l0).length (okL (exB l0 l1 l2 l3 t) l1).length (okL (exB l0 l1 l2 l3 t) (exL2 l0 l1 l2 l3 t)).length (okL (exB l0 l1 l2 l3 t) (exL3 l0 l1 l2 l3 t)).length (okL (exB l0 l1 l2 l3 t) l0) (okL (exB l0 l1 l2 l3 t) l1) (okL (exB l0 l1 l2 l3 t) (exL2 l0 l1 l2 l3 t)) (okL (exB l0 l1 l2 l3 t) (exL3 l0 l1 l2 l3 t)) ∧ Below w.heap.size w w' := by
  have A0 := (Box.new w (.slice (some ⟨b0, 0, none⟩) l0.length c0) (.slice (some ⟨b1, 0, none⟩) l1.length c1) (.slice (some ⟨b2, 0, none⟩) l2.length c2) (.slice (some ⟨b3, 0, none⟩) l3.length c3) 28).alloc (.cells #[.slice none 0 0, .slice none 0 0, .slice none 0 0, .slice none 0 0] 28)
  have R0 := Box.new (w.alloc (.cells #[.slice (some ⟨b0, 0, none⟩) l0.length c0, .slice (some ⟨b1, 0, none⟩) l1.length c1, .slice (some ⟨b2, 0, none⟩) l2.length c2, .slice (some ⟨b3, 0, none⟩) l3.length c3] 28)) (.slice none 0 0) (.slice none 0 0) (.slice none 0 0) (.slice none 0 0) 28
  have L0 : Below w.heap.size w ((w.alloc (.cells #[.slice (some ⟨b0, 0, none⟩) l0.length c0, .slice (some ⟨b1, 0, none⟩) l1.length c1, .slice (some ⟨b2, 0, none⟩) l2.length c2, .slice (some ⟨b3, 0, none⟩) l3.length c3] 28)).alloc (.cells #[.slice none 0 0, .slice none 0 0, .slice none 0 0, .slice none 0 0] 28)) := ((Below.refl _ _).alloc (Nat.le_refl _) _).alloc (by simp) _
  rw [World.size_alloc] at R0
  replace o0 := o0.below (L0) o0.1; replace o1 := o1.below (L0) o1.1; replace o2 := o2.below (L0) o2.1; replace o3 := o3.below (L0) o3.1
  go_enter Try.func120, Try.ntmps120
  go_wp2_with fail
  refine (sAsnOk_any _ _ _ _ _ _ _ _ l0 l1 l2 l3 _ n0 n1 n2 n3 o0.row o1.row o2.row o3.row).mono ?_
  rintro e w1 ⟨rfl, hb⟩
  replace A0 := A0.below hb A0.lt; replace R0 := R0.below hb R0.lt; replace L0 := L0.trans (hb.mono L0.size)
  replace o0 := o0.below (hb) o0.1; replace o1 := o1.below (hb) o1.1; replace o2 := o2.below (hb) o2.1; replace o3 := o3.below (hb) o3.1
  clear hb
  cases ha : asnB l0 l1 l2 l3
  · clear A0
    have HE : Hid ((exB l0 l1 l2 l3 t) = false) := by show (exB l0 l1 l2 l3 t) = false; unfold exB; rw [ha]; rfl
    have HI : Hid (exI l0 l1 l2 l3 t = -1) := by show exI l0 l1 l2 l3 t = -1; unfold exI; rw [HE.out]; rfl
    obtain ⟨F, FO⟩ := R0.fill (.slice none 0 0) (.slice none 0 0) (.slice none 0 0) (.slice none 0 0)
    have j0' := R0.c0; have j1' := R0.c1; have j2' := R0.c2; have j3' := R0.c3
    have g0 := R0.f0; have g1 := R0.f1; have g2 := R0.f2; have g3 := R0.f3
    go_wp2
    have i0 := F.c0; have i1 := F.c1; have i2 := F.c2; have i3 := F.c3
    refine bodyPost_ret (v := .tuple #[.agg #[.slice none 0 0, .slice none 0 0, .slice none 0 0, .slice none 0 0], .int .i64 (-1), .bool false]) ?_ rfl ⟨none, none, none, none, 0, 0, 0, 0, by rw [HE.out, HI.out]; rfl, ?_, ?_⟩
    · simp [results, Try.results120, go_sem, i0, i1, i2, i3]
    · rw [HE.out]; exact Seen.none _ _ _
    · exact L0.trans (FO.below (by omega) L0.size)

  go_wp2_with fail
  refine (sTermOk_any t _).mono ?_
  rintro e wz ⟨rfl, rfl⟩
  cases hx : tok t
  · clear A0
    have HE : Hid ((exB l0 l1 l2 l3 t) = false) := by show (exB l0 l1 l2 l3 t) = false; unfold exB; rw [ha, hx]; rfl
    have HI : Hid (exI l0 l1 l2 l3 t = -1) := by show exI l0 l1 l2 l3 t = -1; unfold exI; rw [HE.out]; rfl
    obtain ⟨F, FO⟩ := R0.fill (.slice none 0 0) (.slice none 0 0) (.slice none 0 0) (.slice none 0 0)
    have j0' := R0.c0; have j1' := R0.c1; have j2' := R0.c2; have j3' := R0.c3
    have g0 := R0.f0; have g1 := R0.f1; have g2 := R0.f2; have g3 := R0.f3
    go_wp2
    have i0 := F.c0; have i1 := F.c1; have i2 := F.c2; have i3 := F.c3
    refine bodyPost_ret (v := .tuple #[.agg #[.slice none 0 0, .slice none 0 0, .slice none 0 0, .slice none 0 0], .int .i64 (-1), .bool false]) ?_ rfl ⟨none, none, none, none, 0, 0, 0, 0, by rw [HE.out, HI.out]; rfl, ?_, ?_⟩
    · simp [results, Try.results120, go_sem, i0, i1, i2, i3]
    · rw [HE.out]; exact Seen.none _ _ _
    · exact L0.trans (FO.below (by omega) L0.size)

  obtain ⟨t0, t1, t2, t3⟩ := asnB_toks ha
  have hxx := tok_iff.1 hx
  obtain ⟨t, rfl⟩ := Int.eq_ofNat_of_zero_le hxx.1
  have ht : t < 16 := by omega
  have HA : Hid (asnB l0 l1 l2 l3 = true) := ha
  have HX : Hid (tok (t : Int) = true) := hx
  clear hx hxx
  have A0c0 := A0.c0; have A0c1 := A0.c1; have A0c2 := A0.c2; have A0c3 := A0.c3
  go_wp2_with fail
  clear A0c0 A0c1 A0c2 A0c3
  refine (l3classes_any _ _ _ _ _ _ _ _ l0 l1 l2 l3 _ n0 t0 o0.row).mono ?_
  rintro e w2 ⟨bR, cR, rfl, hzR, CO, hb⟩
  replace A0 := A0.below hb A0.lt; replace R0 := R0.below hb R0.lt; replace L0 := L0.trans (hb.mono L0.size)
  replace o0 := o0.below (hb) o0.1; replace o1 := o1.below (hb) o1.1; replace o2 := o2.below (hb) o2.1; replace o3 := o3.below (hb) o3.1
  clear hb
  have HC := Cls.all t0
  have A0c0 := A0.c0; have A0c1 := A0.c1; have A0c2 := A0.c2; have A0c3 := A0.c3
  go_wp2_with fail
  clear A0c0 A0c1 A0c2 A0c3
  refine (l3opened_any _ _ _ _ _ _ _ _ l0 l1 l2 l3 bR cR (clsV l0) HC _ n1 n3 t1 t3 o1.row o3.row CO).mono ?_
  rintro e w3 ⟨rfl, hb⟩
  replace A0 := A0.below hb A0.lt; replace R0 := R0.below hb R0.lt; replace L0 := L0.trans (hb.mono L0.size); replace CO := CO.below hb CO.1
  replace o0 := o0.below (hb) o0.1; replace o1 := o1.below (hb) o1.1; replace o2 := o2.below (hb) o2.1; replace o3 := o3.below (hb) o3.1
  clear hb
  cases hop : openV (clsV l0) l1 l3
  · clear A0 CO
    have HE : Hid ((exB l0 l1 l2 l3 (t : Int)) = false) := by show (exB l0 l1 l2 l3 (t : Int)) = false; unfold exB; rw [hop]; simp
    have HI : Hid (exI l0 l1 l2 l3 (t : Int) = -1) := by show exI l0 l1 l2 l3 (t : Int) = -1; unfold exI; rw [HE.out]; rfl
    obtain ⟨F, FO⟩ := R0.fill (.slice none 0 0) (.slice none 0 0) (.slice none 0 0) (.slice none 0 0)
    have j0' := R0.c0; have j1' := R0.c1; have j2' := R0.c2; have j3' := R0.c3
    have g0 := R0.f0; have g1 := R0.f1; have g2 := R0.f2; have g3 := R0.f3
    go_wp2
    have i0 := F.c0; have i1 := F.c1; have i2 := F.c2; have i3 := F.c3
    refine bodyPost_ret (v := .tuple #[.agg #[.slice none 0 0, .slice none 0 0, .slice none 0 0, .slice none 0 0], .int .i64 (-1), .bool false]) ?_ rfl ⟨none, none, none, none, 0, 0, 0, 0, by rw [HE.out, HI.out]; rfl, ?_, ?_⟩
    · simp [results, Try.results120, go_sem, i0, i1, i2, i3]
    · rw [HE.out]; exact Seen.none _ _ _
    · exact L0.trans (FO.below (by omega) L0.size)

  have HOP : Hid (openV (clsV l0) l1 l3 = true) := hop
  clear hop
  have A0c0 := A0.c0; have A0c1 := A0.c1; have A0c2 := A0.c2; have A0c3 := A0.c3
  go_wp2_with fail
  clear A0c0 A0c1 A0c2 A0c3
  refine (l3contra_any _ _ _ _ _ _ _ _ l0 l1 l2 l3 bR cR (clsV l0) HC.1 _ n1 n2 n3 (by have h := ha; simp only [asnB, Bool.and_eq_true, decide_eq_true_eq] at h; simp only [headsV, headsOf, List.length_append, List.length_map]; omega) t1 t2 t3 o1.row o2.row o3.row CO).mono ?_
  rintro e w5 ⟨rfl, hb⟩
  replace A0 := A0.below hb A0.lt; replace R0 := R0.below hb R0.lt; replace L0 := L0.trans (hb.mono L0.size)
  replace o0 := o0.below (hb) o0.1; replace o1 := o1.below (hb) o1.1; replace o2 := o2.below (hb) o2.1; replace o3 := o3.below (hb) o3.1
  clear hb CO
  cases hco : contraV (clsV l0) l1 l2 l3
  rotate_left
  · clear A0
    have HE : Hid ((exB l0 l1 l2 l3 (t : Int)) = false) := by show (exB l0 l1 l2 l3 (t : Int)) = false; unfold exB; rw [hco]; simp
    have HI : Hid (exI l0 l1 l2 l3 (t : Int) = -1) := by show exI l0 l1 l2 l3 (t : Int) = -1; unfold exI; rw [HE.out]; rfl
    obtain ⟨F, FO⟩ := R0.fill (.slice none 0 0) (.slice none 0 0) (.slice none 0 0) (.slice none 0 0)
    have j0' := R0.c0; have j1' := R0.c1; have j2' := R0.c2; have j3' := R0.c3
    have g0 := R0.f0; have g1 := R0.f1; have g2 := R0.f2; have g3 := R0.f3
    go_wp2
    have i0 := F.c0; have i1 := F.c1; have i2 := F.c2; have i3 := F.c3
    refine bodyPost_ret (v := .tuple #[.agg #[.slice none 0 0, .slice none 0 0, .slice none 0 0, .slice none 0 0], .int .i64 (-1), .bool false]) ?_ rfl ⟨none, none, none, none, 0, 0, 0, 0, by rw [HE.out, HI.out]; rfl, ?_, ?_⟩
    · simp [results, Try.results120, go_sem, i0, i1, i2, i3]
    · rw [HE.out]; exact Seen.none _ _ _
    · exact L0.trans (FO.below (by omega) L0.size)

  have HCO : Hid (contraV (clsV l0) l1 l2 l3 = false) := hco
  clear hco
  have A0c0 := A0.c0; have A0c1 := A0.c1; have A0c2 := A0.c2; have A0c3 := A0.c3
  go_wp2_with fail
  clear A0c0 A0c1 A0c2 A0c3 A0
  refine (l7expose_any b0 b1 b2 b3 c0 c1 c2 c3 l0 l1 l2 l3 t ht _ n0 n1 n2 n3 o0 o1 o2 o3 z3 ha).mono ?_
  rintro e w6 ⟨hE, hb⟩
  have hb' := hb
  have o0' := o0.below hb o0.1; have o1' := o1.below hb o1.1; have o2' := o2.below hb o2.1; have o3' := o3.below hb o3.1
  clear ha o0 o1 o2 o3
  rcases hE with ⟨h1, rfl⟩ | ⟨h1, h2, rfl⟩ | ⟨h1, k, hk, h2, ⟨hy1, hy2⟩, p0, p1, p2, p3, q0, q1, q2, q3, rfl, T, np0, np1, np2, np3⟩ | ⟨h1, k, hk, h2, hy, rfl⟩
  · obtain ⟨j1, j2⟩ := exJ_cell (l3 := l3) h1
    have HE : Hid (exB l0 l1 l2 l3 (t : Int) = true) := by
      show exB l0 l1 l2 l3 (t : Int) = true
      unfold exB
      rw [HA.out, HX.out, HOP.out, HCO.out, decide_eq_true j2, j1, decide_eq_true h1]
      rfl
    have HI : Hid (exI l0 l1 l2 l3 (t : Int) = idxV (headsOf (clsV l0) l2) ((clsV l0).getD t 0)) := by show exI _ _ _ _ _ = _; unfold exI; rw [HE.out, if_pos rfl, if_pos j2, j1]
    have HL2 : Hid (exL2 l0 l1 l2 l3 (t : Int) = l2) := if_pos j2
    have HL3 : Hid (exL3 l0 l1 l2 l3 (t : Int) = l3) := if_pos j2
    have EL2 : l2.length = l2.length := rfl
    have EL3 : l3.length = l3.length := rfl
    have al : Below w6.heap.size w6 (w6.alloc (.cells #[.slice (some ⟨b0, 0, none⟩) l0.length c0, .slice (some ⟨b1, 0, none⟩) l1.length c1, .slice (some ⟨b2, 0, none⟩) l2.length c2, .slice (some ⟨b3, 0, none⟩) l3.length c3] 28)) := (Below.refl _ _).alloc (Nat.le_refl _) _
    have zz : w.heap.size + 1 < w6.heap.size := Nat.lt_of_lt_of_le R0.lt hb.size
    replace R0 := (R0.below hb R0.lt).below al zz; replace L0 := (L0.trans (hb.mono L0.size)).trans (al.mono (Nat.le_trans L0.size hb.size))
    have BX := Box.new w6 (.slice (some ⟨b0, 0, none⟩) l0.length c0) (.slice (some ⟨b1, 0, none⟩) l1.length c1) (.slice (some ⟨b2, 0, none⟩) l2.length c2) (.slice (some ⟨b3, 0, none⟩) l3.length c3) 28
    have r0 := o0'.row.below al (Nat.le_refl _); have r1 := o1'.row.below al (Nat.le_refl _); have r2 := o2'.row.below al (Nat.le_refl _); have r3 := o3'.row.below al (Nat.le_refl _)
    have zs := al.size
    clear hb hb' al o0' o1' o2' o3' j1 j2 h1
    generalize hiv : idxV (headsOf (clsV l0) l2) ((clsV l0).getD t 0) = iv at *
    go_upto_region 7 with fail
    generalize w6.alloc (.cells #[.slice (some ⟨b0, 0, none⟩) l0.length c0, .slice (some ⟨b1, 0, none⟩) l1.length c1, .slice (some ⟨b2, 0, none⟩) l2.length c2, .slice (some ⟨b3, 0, none⟩) l3.length c3] 28) = w7 at *
    generalize w6.heap.size = Z at *
    have x0 := BX.c0; have x1 := BX.c1; have x2 := BX.c2; have x3 := BX.c3
    go_wp2_with fail
    clear x0 x1 x2 x3
    refine (l1ownp_any ⟨b0, 0, none⟩ ⟨b1, 0, none⟩ ⟨b2, 0, none⟩ ⟨b3, 0, none⟩ c0 c1 c2 c3 l0 l1 l2 l3 _ n0 n1 n2 n3 r0 r1 r2 r3).mono ?_
    rintro e w8 ⟨a0, a1, a2, a3, e0, e1, e2, e3, m1, m2, m3, m4, rfl, y0, y1, y2, y3, g1, g2, g3, g4, g5, hb⟩
    have zR := R0.lt
    replace R0 := R0.below hb R0.lt; replace L0 := L0.trans (hb.mono L0.size)
    clear hb BX
    obtain ⟨F, FO⟩ := R0.fill (.slice a0 l0.length e0) (.slice a1 l1.length e1) (.slice a2 l2.length e2) (.slice a3 l3.length e3)
    have j0' := R0.c0; have j1' := R0.c1; have j2' := R0.c2; have j3' := R0.c3
    have g0' := R0.f0; have g1' := R0.f1; have g2' := R0.f2; have g3' := R0.f3
    go_wp2
    have i0 := F.c0; have i1 := F.c1; have i2 := F.c2; have i3 := F.c3
    have hfs := FO.size
    refine bodyPost_ret (v := .tuple #[.agg #[.slice a0 l0.length e0, .slice a1 l1.length e1, .slice a2 l2.length e2, .slice a3 l3.length e3], .int .i64 iv, .bool true]) ?_ rfl ⟨a0, a1, a2, a3, e0, e1, e2, e3, by rw [HE.out, HI.out, HL2.out, HL3.out]; simp only [okL, if_true, EL2, EL3], ?_, ?_⟩
    · simp [results, Try.results120, go_sem, i0, i1, i2, i3]
    · rw [HE.out, HL2.out, HL3.out]
      simp only [okL, if_true, EL2, EL3]
      exact ⟨(y0.row.out FO (.inr (by omega))).mono (by omega) (by omega), (y1.row.out FO (.inr (by omega))).mono (by omega) (by omega), (y2.row.out FO (.inr (by omega))).mono (by omega) (by omega), (y3.row.out FO (.inr (by omega))).mono (by omega) (by omega)⟩
    · exact L0.trans (FO.below (by omega) L0.size)

  · have hj := exJ_none (l3 := l3) h1 h2
    have al : Below w6.heap.size w6 (w6.alloc (.cells #[.slice (some ⟨b0, 0, none⟩) l0.length c0, .slice (some ⟨b1, 0, none⟩) l1.length c1, .slice (some ⟨b2, 0, none⟩) l2.length c2, .slice (some ⟨b3, 0, none⟩) l3.length c3] 28)) := (Below.refl _ _).alloc (Nat.le_refl _) _
    have zz : w.heap.size + 1 < w6.heap.size := Nat.lt_of_lt_of_le R0.lt hb.size
    replace R0 := (R0.below hb R0.lt).below al zz; replace L0 := (L0.trans (hb.mono L0.size)).trans (al.mono (Nat.le_trans L0.size hb.size))
    clear hb hb' al o0' o1' o2' o3'
    go_upto_region 7 with fail
    generalize w6.alloc (.cells #[.slice (some ⟨b0, 0, none⟩) l0.length c0, .slice (some ⟨b1, 0, none⟩) l1.length c1, .slice (some ⟨b2, 0, none⟩) l2.length c2, .slice (some ⟨b3, 0, none⟩) l3.length c3] 28) = w7 at *
    have HE : Hid ((exB l0 l1 l2 l3 (t : Int)) = false) := by show (exB l0 l1 l2 l3 (t : Int)) = false; unfold exB; rw [hj]; simp
    have HI : Hid (exI l0 l1 l2 l3 (t : Int) = -1) := by show exI l0 l1 l2 l3 (t : Int) = -1; unfold exI; rw [HE.out]; rfl
    obtain ⟨F, FO⟩ := R0.fill (.slice none 0 0) (.slice none 0 0) (.slice none 0 0) (.slice none 0 0)
    have j0' := R0.c0; have j1' := R0.c1; have j2' := R0.c2; have j3' := R0.c3
    have g0 := R0.f0; have g1 := R0.f1; have g2 := R0.f2; have g3 := R0.f3
    go_wp2
    have i0 := F.c0; have i1 := F.c1; have i2 := F.c2; have i3 := F.c3
    refine bodyPost_ret (v := .tuple #[.agg #[.slice none 0 0, .slice none 0 0, .slice none 0 0, .slice none 0 0], .int .i64 (-1), .bool false]) ?_ rfl ⟨none, none, none, none, 0, 0, 0, 0, by rw [HE.out, HI.out]; rfl, ?_, ?_⟩
    · simp [results, Try.results120, go_sem, i0, i1, i2, i3]
    · rw [HE.out]; exact Seen.none _ _ _
    · exact L0.trans (FO.below (by omega) L0.size)

  · have hj := exJ_seg (l2 := l2) h1 h2
    have hjn : ¬ (exJ l0 l2 l3 (t : Int) < (l2.length : Int)) := by rw [hj]; omega
    have hjk : (exJ l0 l2 l3 (t : Int) - (l2.length : Int)).toNat = k := by rw [hj]; omega
    have HE : Hid (exB l0 l1 l2 l3 (t : Int) = true) := by
      show exB l0 l1 l2 l3 (t : Int) = true
      unfold exB
      rw [HA.out, HX.out, HOP.out, HCO.out, decide_eq_false hjn, decide_eq_true hy1, decide_eq_true hy2, decide_eq_true (by rw [hj]; omega)]
      rfl
    have HI : Hid (exI l0 l1 l2 l3 (t : Int) = (l2.length : Int)) := by show exI _ _ _ _ _ = _; unfold exI; rw [HE.out, if_pos rfl, if_neg hjn]
    have HL2 : Hid (exL2 l0 l1 l2 l3 (t : Int) = unfC l2 (l3.getD k (0, 0)) (freshF (usedV l0 l1 l2 l3))) := by show exL2 _ _ _ _ _ = _; unfold exL2; rw [if_neg hjn, hjk]
    have HL3 : Hid (exL3 l0 l1 l2 l3 (t : Int) = unfS l3 k (l3.getD k (0, 0)) (freshF (usedV l0 l1 l2 l3))) := by show exL3 _ _ _ _ _ = _; unfold exL3; rw [if_neg hjn, hjk]
    have E2 : (unfC l2 (l3.getD k (0, 0)) (freshF (usedV l0 l1 l2 l3))).length = l2.length + 1 := by simp [unfC]
    have E3 : (unfS l3 k (l3.getD k (0, 0)) (freshF (usedV l0 l1 l2 l3))).length = (k + (l3.length - (k + 1)) + 1) := by simp [unfS]; omega
    clear h1 h2 hy1 hj hjn hjk o0' o1' o2' o3'
    rw [← E2, ← E3] at T ⊢
    have N2 : (unfC l2 (l3.getD k (0, 0)) (freshF (usedV l0 l1 l2 l3))).length ≤ 1048576 := by omega
    have N3 : (unfS l3 k (l3.getD k (0, 0)) (freshF (usedV l0 l1 l2 l3))).length ≤ 1048576 := by omega
    clear E2 E3
    generalize unfC l2 (l3.getD k (0, 0)) (freshF (usedV l0 l1 l2 l3)) = U2 at *
    generalize unfS l3 k (l3.getD k (0, 0)) (freshF (usedV l0 l1 l2 l3)) = U3 at *
    have EL2 : U2.length = U2.length := rfl
    have EL3 : U3.length = U3.length := rfl
    obtain ⟨p0, rfl⟩ := Option.ne_none_iff_exists'.1 np0
    obtain ⟨p1, rfl⟩ := Option.ne_none_iff_exists'.1 np1
    obtain ⟨p2, rfl⟩ := Option.ne_none_iff_exists'.1 np2
    obtain ⟨p3, rfl⟩ := Option.ne_none_iff_exists'.1 np3
    have al : Below w6.heap.size w6 (w6.alloc (.cells #[.slice (some p0) l0.length q0, .slice (some p1) l1.length q1, .slice (some p2) U2.length q2, .slice (some p3) U3.length q3] 28)) := (Below.refl _ _).alloc (Nat.le_refl _) _
    have zz : w.heap.size + 1 < w6.heap.size := Nat.lt_of_lt_of_le R0.lt hb.size
    replace R0 := (R0.below hb R0.lt).below al zz; replace L0 := (L0.trans (hb.mono L0.size)).trans (al.mono (Nat.le_trans L0.size hb.size))
    have BX := Box.new w6 (.slice (some p0) l0.length q0) (.slice (some p1) l1.length q1) (.slice (some p2) U2.length q2) (.slice (some p3) U3.length q3) 28
    have r0 := T.1.row.below al (Nat.le_refl _); have r1 := T.2.1.row.below al (Nat.le_refl _); have r2 := T.2.2.1.row.below al (Nat.le_refl _); have r3 := T.2.2.2.row.below al (Nat.le_refl _)
    have zs := al.size
    clear hb hb' al T np0 np1 np2 np3
    go_upto_region 7 with fail
    generalize w6.alloc (.cells #[.slice (some p0) l0.length q0, .slice (some p1) l1.length q1, .slice (some p2) U2.length q2, .slice (some p3) U3.length q3] 28) = w7 at *
    generalize w6.heap.size = Z at *
    have x0 := BX.c0; have x1 := BX.c1; have x2 := BX.c2; have x3 := BX.c3
    go_wp2_with fail
    clear x0 x1 x2 x3
    refine (l1ownp_any p0 p1 p2 p3 q0 q1 q2 q3 l0 l1 U2 U3 _ n0 n1 N2 N3 r0 r1 r2 r3).mono ?_
    rintro e w8 ⟨a0, a1, a2, a3, e0, e1, e2, e3, m1, m2, m3, m4, rfl, y0, y1, y2, y3, g1, g2, g3, g4, g5, hb⟩
    have zR := R0.lt
    replace R0 := R0.below hb R0.lt; replace L0 := L0.trans (hb.mono L0.size)
    clear hb BX
    obtain ⟨F, FO⟩ := R0.fill (.slice a0 l0.length e0) (.slice a1 l1.length e1) (.slice a2 U2.length e2) (.slice a3 U3.length e3)
    have j0' := R0.c0; have j1' := R0.c1; have j2' := R0.c2; have j3' := R0.c3
    have g0' := R0.f0; have g1' := R0.f1; have g2' := R0.f2; have g3' := R0.f3
    go_wp2
    have i0 := F.c0; have i1 := F.c1; have i2 := F.c2; have i3 := F.c3
    have hfs := FO.size
    refine bodyPost_ret (v := .tuple #[.agg #[.slice a0 l0.length e0, .slice a1 l1.length e1, .slice a2 U2.length e2, .slice a3 U3.length e3], .int .i64 (l2.length : Int), .bool true]) ?_ rfl ⟨a0, a1, a2, a3, e0, e1, e2, e3, by rw [HE.out, HI.out, HL2.out, HL3.out]; simp only [okL, if_true, EL2, EL3], ?_, ?_⟩
    · simp [results, Try.results120, go_sem, i0, i1, i2, i3]
    · rw [HE.out, HL2.out, HL3.out]
      simp only [okL, if_true, EL2, EL3]
      exact ⟨(y0.row.out FO (.inr (by omega))).mono (by omega) (by omega), (y1.row.out FO (.inr (by omega))).mono (by omega) (by omega), (y2.row.out FO (.inr (by omega))).mono (by omega) (by omega), (y3.row.out FO (.inr (by omega))).mono (by omega) (by omega)⟩
    · exact L0.trans (FO.below (by omega) L0.size)

  · have hj := exJ_seg (l2 := l2) h1 h2
    have hjn : Hid (decide (exJ l0 l2 l3 (t : Int) < (l2.length : Int)) = false) := decide_eq_false (by rw [hj]; omega)
    have HY' : Hid ((decide (0 ≤ freshF (usedV l0 l1 l2 l3)) && decide (l2.length + l3.length < 6)) = false) := by show (_ && _) = false; simp only [Bool.and_eq_false_iff, decide_eq_false_iff_not]; omega
    have al : Below w6.heap.size w6 (w6.alloc (.cells #[.slice (some ⟨b0, 0, none⟩) l0.length c0, .slice (some ⟨b1, 0, none⟩) l1.length c1, .slice (some ⟨b2, 0, none⟩) l2.length c2, .slice (some ⟨b3, 0, none⟩) l3.length c3] 28)) := (Below.refl _ _).alloc (Nat.le_refl _) _
    have zz : w.heap.size + 1 < w6.heap.size := Nat.lt_of_lt_of_le R0.lt hb.size
    replace R0 := (R0.below hb R0.lt).below al zz; replace L0 := (L0.trans (hb.mono L0.size)).trans (al.mono (Nat.le_trans L0.size hb.size))
    clear hb hb' al o0' o1' o2' o3' hy
    go_upto_region 7 with fail
    generalize w6.alloc (.cells #[.slice (some ⟨b0, 0, none⟩) l0.length c0, .slice (some ⟨b1, 0, none⟩) l1.length c1, .slice (some ⟨b2, 0, none⟩) l2.length c2, .slice (some ⟨b3, 0, none⟩) l3.length c3] 28) = w7 at *
    have HE : Hid ((exB l0 l1 l2 l3 (t : Int)) = false) := by show (exB l0 l1 l2 l3 (t : Int)) = false; unfold exB; rw [HY'.out, hjn.out]; simp
    have HI : Hid (exI l0 l1 l2 l3 (t : Int) = -1) := by show exI l0 l1 l2 l3 (t : Int) = -1; unfold exI; rw [HE.out]; rfl
    obtain ⟨F, FO⟩ := R0.fill (.slice none 0 0) (.slice none 0 0) (.slice none 0 0) (.slice none 0 0)
    have j0' := R0.c0; have j1' := R0.c1; have j2' := R0.c2; have j3' := R0.c3
    have g0 := R0.f0; have g1 := R0.f1; have g2 := R0.f2; have g3 := R0.f3
    go_wp2
    have i0 := F.c0; have i1 := F.c1; have i2 := F.c2; have i3 := F.c3
    refine bodyPost_ret (v := .tuple #[.agg #[.slice none 0 0, .slice none 0 0, .slice none 0 0, .slice none 0 0], .int .i64 (-1), .bool false]) ?_ rfl ⟨none, none, none, none, 0, 0, 0, 0, by rw [HE.out, HI.out]; rfl, ?_, ?_⟩
    · simp [results, Try.results120, go_sem, i0, i1, i2, i3]
    · rw [HE.out]; exact Seen.none _ _ _
    · exact L0.trans (FO.below (by omega) L0.size)


end Go.Proofs.Ytphchdjbhbmnbaa
namespace Go.Proofs.Ytphchdjbhbmnbaa
open Go.RowKit
set_option linter.unusedVariables false

def unfB (l0 l1 l2 l3 : List (Int × Int)) (i : Int) : Bool := asnB l0 l1 l2 l3 && decide (0 ≤ i ∧ i < (l3.length : Int)) && openV (clsV l0) l1 [l3.getD i.toNat (0, 0)] && decide (0 ≤ freshF (usedV l0 l1 l2 l3)) && decide (l2.length + l3.length < 6)
/-- l[i:i+1] -/
theorem cut_one (b n c i : Nat) (hi : i < n) (hn : n ≤ c) (w : World) : (Instr.slice 26 (.slice (some ⟨b, 0, none⟩) n c) (some (.int .i64 i)) (some (.int .i64 ((i : Int) + 1))) none).run Try.prog w = .ok (.slice (some ⟨b, i * 2, none⟩) 1 (c - i)) w := by
  have h0 : (0 : Int) ≤ i := by omega
  have h1 : (i : Int) ≤ (i : Int) + 1 := by omega
  have h2 : ((i : Int) + 1) ≤ c := by omega
  rw [run_slice_lh (P := Try.prog) (w := w) 26 (some ⟨b, 0, none⟩) n c (by kernel_rfl) .i64 .i64 i ((i : Int) + 1) h0 h1 h2]
  have e : ¬ c = i := by omega
  simp [sliced, go_sem, addr_add, e]
theorem one_row {w : World} {b i n : Nat} {l : List (Int × Int)} (h : Own w b n l n) (hn : n = l.length) (hi : i < l.length) : PRow w (some ⟨b, i * 2, none⟩) [l.getD i (0, 0)] := by
  subst hn
  refine .inr ⟨b, i * 2, rfl, h.1, fun j hj => ?_⟩
  obtain rfl : j = 0 := by simpa using hj
  simpa using h.2.2 i hi
theorem toks_one {l : List (Int × Int)} (h : toks l = true) {i : Nat} (hi : i < l.length) : toks [l.getD i (0, 0)] = true := by
  unfold toks at h ⊢
  rw [List.all_eq_true] at h
  simp only [List.all_cons, List.all_nil, Bool.and_true]
  exact h _ (by rw [List.getD_eq_getElem?_getD, List.getElem?_eq_getElem hi]; exact List.getElem_mem hi)

abbrev US (w2 : World) (A : Nat) (v0 v1 v3 : Value) (W : World) : Prop := Below w2.heap.size w2 W ∧ W.cell? ⟨A, 0, none⟩ = some v0 ∧ W.cell? ⟨A, 1, none⟩ = some v1 ∧ W.cell? ⟨A, 3, none⟩ = some v3
theorem us_keep {w2 W u : World} {A : Nat} {v0 v1 v3 : Value} (hz : A < w2.heap.size) (h : US w2 A v0 v1 v3 W) (hb : Below W.heap.size W u) : US w2 A v0 v1 v3 u := by
  obtain ⟨h1, c0, c1, c3⟩ := h
  have e : ∀ o, u.cell? ⟨A, o, none⟩ = W.cell? ⟨A, o, none⟩ := fun o => hb.cell (p := ⟨A, o, none⟩) (by show A < W.heap.size; have := h1.size; omega)
  exact ⟨h1.trans (hb.mono h1.size), (e _).trans c0, (e _).trans c1, (e _).trans c3⟩
theorem us_al {w2 W : World} {A : Nat} {v0 v1 v3 : Value} (hz : A < w2.heap.size) (o : Obj) (h : US w2 A v0 v1 v3 W) : US w2 A v0 v1 v3 (W.alloc o) := us_keep hz h ((Below.refl _ _).alloc (Nat.le_refl _) o)
theorem us_ad {w2 W : World} {A : Nat} {v0 v1 v3 : Value} (hz : A < w2.heap.size) (h : US w2 A v0 v1 v3 W) : US w2 A v0 v1 v3 W.drew := us_keep hz h (Below.refl _ _).drew

set_option maxRecDepth 20000 in
set_option maxHeartbeats 4000000 in
theorem sUnfold_any (b0 b1 b2 b3 c0 c1 c2 c3 : Nat) (l0 l1 l2 l3 : List (Int × Int)) (i : Int) (w : World) (n0 : l0.length ≤ 1048576) (n1 : l1.length ≤ 1048576) (n2 : l2.length ≤ 1048576) (n3 : l3.length ≤ 1048576) (o0 : Own w b0 l0.length l0 l0.length) (o1 : Own w b1 l1.length l1 l1.length) (o2 : Own w b2 l2.length l2 l2.length) (o3 : Own w b3 l3.length l3 l3.length) (z3 : l3.length ≤ c3) :
    Calls Try.prog 89 #[.agg #[.slice (some ⟨b0, 0, none⟩) l0.length c0, .slice (some ⟨b1, 0, none⟩) l1.length c1, .slice (some ⟨b2, 0, none⟩) l2.length c2, .slice (some ⟨b3, 0, none⟩) l3.length c3], .int .i64 i] w fun e w' => ∃ p0 p1 p2 p3 q0 q1 q2 q3, e = .returned (.tuple #[.agg #[.slice p0 (okL (unfB l0 l1 l2 l3 i) l0).length q0, .slice p1 (okL (unfB l0 l1 l2 l3 i) l1).length q1, .slice p2 (okL (unfB l0 l1 l2 l3 i) (unfC l2 (l3.getD i.toNat (0, 0)) (freshF (usedV l0 l1 l2 l3)))).length q2, .slice p3 (okL (unfB l0 l1 l2 l3 i) (unfS l3 i.toNat (l3.getD i.toNat (0, 0)) (freshF (usedV l0 l1 l2 l3)))).length q3], .bool (unfB l0 l1 l2 l3 i)]) ∧ Seen w' w.heap.size w'.heap.size p0 p1 p2 p3 (okL (unfB l0 l1 l2 l3 i) l0).length (okL (unfB l0 l1 l2 l3 i) l1).length (okL (unfB l0 l1 l2 l3 i) (unfC l2 (l3.getD i.toNat (0, 0)) (freshF (usedV l0 l1 l2 l3)))).length (okL (unfB l0 l1 l2 l3 i) (unfS l3 i.toNat (l3.getD i.toNat (0, 0)) (freshF (usedV l0 l1 l2 l3)))).length (okL (unfB l0 l1 l2 l3 i) l0) (okL (unfB l0 l1 l2 l3 i) l1) (okL (unfB l0 l1 l2 l3 i) (unfC l2 (l3.getD i.toNat (0, 0)) (freshF (usedV l0 l1 l2 l3)))) (okL (unfB l0 l1 l2 l3 i) (unfS l3 i.toNat (l3.getD i.toNat (0, 0)) (freshF (usedV l0 l1 l2 l3)))) ∧ Below w.heap.size w w' := by
  have A0 := (Box.new w (.slice (some ⟨b0, 0, none⟩) l0.length c0) (.slice (some ⟨b1, 0, none⟩) l1.length c1) (.slice (some ⟨b2, 0, none⟩) l2.length c2) (.slice (some ⟨b3, 0, none⟩) l3.length c3) 28).alloc (.cells #[.slice none 0 0, .slice none 0 0, .slice none 0 0, .slice none 0 0] 28)
  have R0 := Box.new (w.alloc (.cells #[.slice (some ⟨b0, 0, none⟩) l0.length c0, .slice (some ⟨b1, 0, none⟩) l1.length c1, .slice (some ⟨b2, 0, none⟩) l2.length c2, .slice (some ⟨b3, 0, none⟩) l3.length c3] 28)) (.slice none 0 0) (.slice none 0 0) (.slice none 0 0) (.slice none 0 0) 28
  have L0 : Below w.heap.size w ((w.alloc (.cells #[.slice (some ⟨b0, 0, none⟩) l0.length c0, .slice (some ⟨b1, 0, none⟩) l1.length c1, .slice (some ⟨b2, 0, none⟩) l2.length c2, .slice (some ⟨b3, 0, none⟩) l3.length c3] 28)).alloc (.cells #[.slice none 0 0, .slice none 0 0, .slice none 0 0, .slice none 0 0] 28)) := ((Below.refl _ _).alloc (Nat.le_refl _) _).alloc (by simp) _
  rw [World.size_alloc] at R0
  go_enter Try.func89, Try.ntmps89
  go_wp2_with fail
  refine (sAsnOk_any _ _ _ _ _ _ _ _ l0 l1 l2 l3 _ n0 n1 n2 n3 (o0.row.below L0 (Nat.le_refl _)) (o1.row.below L0 (Nat.le_refl _)) (o2.row.below L0 (Nat.le_refl _)) (o3.row.below L0 (Nat.le_refl _))).mono ?_
  rintro e w1 ⟨rfl, hb⟩
  replace A0 := A0.below hb A0.lt; replace R0 := R0.below hb R0.lt; replace L0 := L0.trans (hb.mono L0.size)
  replace o0 := o0.below (L0) o0.1; replace o1 := o1.below (L0) o1.1; replace o2 := o2.below (L0) o2.1; replace o3 := o3.below (L0) o3.1
  clear hb
  have A0c0 := A0.c0; have A0c1 := A0.c1; have A0c2 := A0.c2; have A0c3 := A0.c3
  by_cases hok : asnB l0 l1 l2 l3 = true
  rotate_left
  · replace hok : asnB l0 l1 l2 l3 = false := by simpa using hok
    rw [hok]
    have HE : Hid ((unfB l0 l1 l2 l3 i) = false) := by show (unfB l0 l1 l2 l3 i) = false; unfold unfB; rw [hok]; rfl
    obtain ⟨F, FO⟩ := R0.fill (.slice none 0 0) (.slice none 0 0) (.slice none 0 0) (.slice none 0 0)
    have j0' := R0.c0; have j1' := R0.c1; have j2' := R0.c2; have j3' := R0.c3
    have g0 := R0.f0; have g1 := R0.f1; have g2 := R0.f2; have g3 := R0.f3
    go_wp2
    have i0 := F.c0; have i1 := F.c1; have i2 := F.c2; have i3 := F.c3
    refine bodyPost_ret (v := .tuple #[.agg #[.slice none 0 0, .slice none 0 0, .slice none 0 0, .slice none 0 0], .bool false]) ?_ rfl ⟨none, none, none, none, 0, 0, 0, 0, by rw [HE.out]; rfl, ?_, ?_⟩
    · simp [results, Try.results89, go_sem, i0, i1, i2, i3]
    · rw [HE.out]; exact Seen.none _ _ _
    · exact L0.trans (FO.below (by omega) L0.size)

  have HT : Hid (asnB l0 l1 l2 l3 = true) := hok
  rw [hok]
  by_cases hi0 : i < 0
  · clear hok
    have HE : Hid ((unfB l0 l1 l2 l3 i) = false) := by show (unfB l0 l1 l2 l3 i) = false; unfold unfB; rw [decide_eq_false (p := 0 ≤ i ∧ _) (by omega)]; simp
    obtain ⟨F, FO⟩ := R0.fill (.slice none 0 0) (.slice none 0 0) (.slice none 0 0) (.slice none 0 0)
    have j0' := R0.c0; have j1' := R0.c1; have j2' := R0.c2; have j3' := R0.c3
    have g0 := R0.f0; have g1 := R0.f1; have g2 := R0.f2; have g3 := R0.f3
    go_wp2
    have i0 := F.c0; have i1 := F.c1; have i2 := F.c2; have i3 := F.c3
    refine bodyPost_ret (v := .tuple #[.agg #[.slice none 0 0, .slice none 0 0, .slice none 0 0, .slice none 0 0], .bool false]) ?_ rfl ⟨none, none, none, none, 0, 0, 0, 0, by rw [HE.out]; rfl, ?_, ?_⟩
    · simp [results, Try.results89, go_sem, i0, i1, i2, i3]
    · rw [HE.out]; exact Seen.none _ _ _
    · exact L0.trans (FO.below (by omega) L0.size)

  by_cases hi1 : (l3.length : Int) ≤ i
  · clear hok
    have HE : Hid ((unfB l0 l1 l2 l3 i) = false) := by show (unfB l0 l1 l2 l3 i) = false; unfold unfB; rw [decide_eq_false (p := 0 ≤ i ∧ _) (by omega)]; simp
    obtain ⟨F, FO⟩ := R0.fill (.slice none 0 0) (.slice none 0 0) (.slice none 0 0) (.slice none 0 0)
    have j0' := R0.c0; have j1' := R0.c1; have j2' := R0.c2; have j3' := R0.c3
    have g0 := R0.f0; have g1 := R0.f1; have g2 := R0.f2; have g3 := R0.f3
    go_wp2
    have i0 := F.c0; have i1 := F.c1; have i2 := F.c2; have i3 := F.c3
    refine bodyPost_ret (v := .tuple #[.agg #[.slice none 0 0, .slice none 0 0, .slice none 0 0, .slice none 0 0], .bool false]) ?_ rfl ⟨none, none, none, none, 0, 0, 0, 0, by rw [HE.out]; rfl, ?_, ?_⟩
    · simp [results, Try.results89, go_sem, i0, i1, i2, i3]
    · rw [HE.out]; exact Seen.none _ _ _
    · exact L0.trans (FO.below (by omega) L0.size)

  obtain ⟨k, rfl⟩ := Int.eq_ofNat_of_zero_le (show 0 ≤ i by omega)
  have hk : k < l3.length := by omega
  obtain ⟨t0, t1, t2, t3⟩ := asnB_toks hok
  clear hok
  go_wp2_with fail
  clear A0c0 A0c1 A0c2 A0c3
  refine (l3classes_any _ _ _ _ _ _ _ _ l0 l1 l2 l3 _ n0 t0 o0.row).mono ?_
  rintro e w2 ⟨bR, cR, rfl, hzR, CO, hb⟩
  replace A0 := A0.below hb A0.lt; replace R0 := R0.below hb R0.lt; replace L0 := L0.trans (hb.mono L0.size)
  replace o0 := o0.below (hb) o0.1; replace o1 := o1.below (hb) o1.1; replace o2 := o2.below (hb) o2.1; replace o3 := o3.below (hb) o3.1
  clear hb
  have A0c0 := A0.c0; have A0c1 := A0.c1; have A0c3 := A0.c3
  have zA := A0.lt
  have hx : ∀ w : World, (Instr.slice 26 (.slice (some ⟨b3, 0, none⟩) l3.length c3) (some (.int .i64 k)) (some (.int .i64 ((k : Int) + 1))) none).run Try.prog w = .ok (.slice (some ⟨b3, k * 2, none⟩) 1 (c3 - k)) w := fun w => cut_one _ _ _ _ hk z3 w
  have hwr : IntKind.i64.wrap ((k : Int) + 1) = (k : Int) + 1 := by rw [IntKind.wrap_i64]; omega
  have HC := Cls.all t0
  go_upto_region 4 with fail
  go_cut [7] (fun v7 wz => v7 = .pointer (some ⟨w2.heap.size, 0, none⟩) ∧ Box wz w2.heap.size (.slice (some ⟨b0, 0, none⟩) l0.length c0) (.slice (some ⟨b1, 0, none⟩) l1.length c1) (.slice none 0 0) (.slice (some ⟨b3, k * 2, none⟩) 1 (c3 - k)) ∧ Below w2.heap.size w2 wz)
  case first =>
    have hS1 : US w2 w.heap.size (.slice (some ⟨b0, 0, none⟩) l0.length c0) (.slice (some ⟨b1, 0, none⟩) l1.length c1) (.slice (some ⟨b3, 0, none⟩) l3.length c3) w2 := ⟨Below.refl _ _, A0c0, A0c1, A0c3⟩
    have hS0 := us_ad zA hS1
    clear A0c0 A0c1 A0c3
    go_region_held3 (fun W => Below w2.heap.size w2 W ∧ W.cell? ⟨w.heap.size, 0, none⟩ = some (.slice (some ⟨b0, 0, none⟩) l0.length c0) ∧ W.cell? ⟨w.heap.size, 1, none⟩ = some (.slice (some ⟨b1, 0, none⟩) l1.length c1) ∧ W.cell? ⟨w.heap.size, 3, none⟩ = some (.slice (some ⟨b3, 0, none⟩) l3.length c3))
      (first | exact hS0 | exact hS1 | assumption | exact us_al zA _ hS0 | exact us_al zA _ hS1 | exact us_ad zA (us_al zA _ hS1) | (refine ⟨?_, ?_, ?_, ?_⟩ <;> assumption))
      (fail)
    all_goals
      go_wp2_with fail
      go_meet
      first
        | exact ⟨rfl, Box.new _ _ _ _ _ _, ((Below.refl _ _).drew).alloc (by simp) _⟩
        | exact ⟨rfl, (Box.new _ _ _ _ _ _).drew, ((Below.refl _ _).alloc (Nat.le_refl _) _).drew⟩
        | exact ⟨rfl, Box.new _ _ _ _ _ _, ((Below.refl _ _).alloc (Nat.le_refl _) _)⟩
  case rest =>
    obtain ⟨rfl, BX, hb⟩ := hcut
    rename World => w4
    clear A0c0 A0c1 A0c3
    replace CO := CO.below hb CO.1
    replace A0 := A0.below hb A0.lt; replace R0 := R0.below hb R0.lt; replace L0 := L0.trans (hb.mono L0.size)
    replace o0 := o0.below (hb) o0.1; replace o1 := o1.below (hb) o1.1; replace o2 := o2.below (hb) o2.1; replace o3 := o3.below (hb) o3.1
    have zB := hb.size
    have BXl := BX.lt
    clear hb
    generalize w2.heap.size = ZB at *
    have bx0 := BX.c0; have bx1 := BX.c1; have bx2 := BX.c2; have bx3 := BX.c3
    go_wp2_with fail
    clear bx0 bx1 bx2 bx3 BX
    refine (l3opened_any (some ⟨b0, 0, none⟩) (some ⟨b1, 0, none⟩) none (some ⟨b3, k * 2, none⟩) c0 c1 0 (c3 - k) l0 l1 [] [l3.getD k (0, 0)] bR cR (clsV l0) HC _ n1 (by simp) t1 (toks_one t3 hk) o1.row (one_row o3 rfl hk) CO).mono ?_
    rintro e w5 ⟨rfl, hb⟩
    replace A0 := A0.below hb A0.lt; replace R0 := R0.below hb R0.lt; replace L0 := L0.trans (hb.mono L0.size)
    replace o0 := o0.below (hb) o0.1; replace o1 := o1.below (hb) o1.1; replace o2 := o2.below (hb) o2.1; replace o3 := o3.below (hb) o3.1
    clear hb CO
    by_cases hop : openV (clsV l0) l1 [l3.getD k (0, 0)] = true
    rotate_left
    · replace hop : openV (clsV l0) l1 [l3.getD k (0, 0)] = false := by simpa using hop
      rw [hop]
      have HE : Hid ((unfB l0 l1 l2 l3 (k : Int)) = false) := by show (unfB l0 l1 l2 l3 (k : Int)) = false; unfold unfB; rw [Int.toNat_natCast, hop]; simp
      obtain ⟨F, FO⟩ := R0.fill (.slice none 0 0) (.slice none 0 0) (.slice none 0 0) (.slice none 0 0)
      have j0' := R0.c0; have j1' := R0.c1; have j2' := R0.c2; have j3' := R0.c3
      have g0 := R0.f0; have g1 := R0.f1; have g2 := R0.f2; have g3 := R0.f3
      go_wp2
      have i0 := F.c0; have i1 := F.c1; have i2 := F.c2; have i3 := F.c3
      refine bodyPost_ret (v := .tuple #[.agg #[.slice none 0 0, .slice none 0 0, .slice none 0 0, .slice none 0 0], .bool false]) ?_ rfl ⟨none, none, none, none, 0, 0, 0, 0, by rw [HE.out]; rfl, ?_, ?_⟩
      · simp [results, Try.results89, go_sem, i0, i1, i2, i3]
      · rw [HE.out]; exact Seen.none _ _ _
      · exact L0.trans (FO.below (by omega) L0.size)

    rw [hop]
    have HOP : Hid (openV (clsV l0) l1 [l3.getD k (0, 0)] = true) := hop
    clear hop
    have A0c0 := A0.c0; have A0c1 := A0.c1; have A0c2 := A0.c2; have A0c3 := A0.c3
    by_cases hy : 0 ≤ freshF (usedV l0 l1 l2 l3) ∧ l2.length + l3.length < 6
    · obtain ⟨hf, hr⟩ := hy
      have HE : Hid (unfB l0 l1 l2 l3 (k : Int) = true) := by show unfB l0 l1 l2 l3 (k : Int) = true; unfold unfB; rw [Int.toNat_natCast, HT.out, HOP.out, decide_eq_true hf, decide_eq_true hr, decide_eq_true (by omega)]; rfl
      go_wp2_with fail
      clear A0c0 A0c1 A0c2 A0c3
      refine (l4unfold_yes b0 b1 b2 b3 c0 c1 c2 c3 l0 l1 l2 l3 k _ n0 n1 n2 n3 o0 o1 o2 o3 z3 HT.out hk hf hr).mono ?_
      rintro e w6 ⟨p0, p1, p2, p3, q0, q1, q2, q3, rfl, T, hb⟩
      have al : Below w6.heap.size w6 (w6.alloc (.cells #[.slice p0 l0.length q0, .slice p1 l1.length q1, .slice p2 (l2.length + 1) q2, .slice p3 (k + (l3.length - (k + 1)) + 1) q3] 28)) := (Below.refl _ _).alloc (Nat.le_refl _) _
      have BX := Box.new w6 (.slice p0 l0.length q0) (.slice p1 l1.length q1) (.slice p2 (l2.length + 1) q2) (.slice p3 (k + (l3.length - (k + 1)) + 1) q3) 28
      have zr := R0.lt
      replace R0 := (R0.below hb R0.lt).below al (Nat.lt_of_lt_of_le R0.lt hb.size); replace L0 := (L0.trans (hb.mono L0.size)).trans (al.mono (Nat.le_trans L0.size hb.size))
      replace T := (T.below al (Nat.le_refl _))
      have s6 := hb.size
      have s7 := al.size
      have T2 := T.mono (show w.heap.size + 2 ≤ w5.heap.size by omega) (Nat.le_refl _)
      clear hb al A0 T
      go_upto_region 8 with fail
      generalize w6.alloc (.cells #[.slice p0 l0.length q0, .slice p1 l1.length q1, .slice p2 (l2.length + 1) q2, .slice p3 (k + (l3.length - (k + 1)) + 1) q3] 28) = w7 at *
      have bx0 := BX.c0; have bx1 := BX.c1; have bx2 := BX.c2; have bx3 := BX.c3
      obtain ⟨F, FO⟩ := R0.fill (.slice p0 l0.length q0) (.slice p1 l1.length q1) (.slice p2 (l2.length + 1) q2) (.slice p3 (k + (l3.length - (k + 1)) + 1) q3)
      have j0' := R0.c0; have j1' := R0.c1; have j2' := R0.c2; have j3' := R0.c3
      have g0 := R0.f0; have g1 := R0.f1; have g2 := R0.f2; have g3 := R0.f3
      have zz : w.heap.size + 1 < w6.heap.size := by omega
      go_wp2
      have i0 := F.c0; have i1 := F.c1; have i2 := F.c2; have i3 := F.c3
      have EL2 : (unfC l2 (l3.getD k (0, 0)) (freshF (usedV l0 l1 l2 l3))).length = l2.length + 1 := by simp [unfC]
      have EL3 : (unfS l3 k (l3.getD k (0, 0)) (freshF (usedV l0 l1 l2 l3))).length = k + (l3.length - (k + 1)) + 1 := by simp [unfS]; omega
      refine bodyPost_ret (v := .tuple #[.agg #[.slice p0 l0.length q0, .slice p1 l1.length q1, .slice p2 (l2.length + 1) q2, .slice p3 (k + (l3.length - (k + 1)) + 1) q3], .bool true]) ?_ rfl ⟨p0, p1, p2, p3, q0, q1, q2, q3, by rw [HE.out, Int.toNat_natCast]; simp only [okL, if_true, EL2, EL3], ?_, ?_⟩
      · simp [results, Try.results89, go_sem, i0, i1, i2, i3]
      · rw [HE.out, Int.toNat_natCast]
        simp only [okL, if_true, EL2, EL3]
        exact (T2.out FO (.inr (Nat.le_refl _))).mono (by omega) (Nat.le_trans s7 FO.size)
      · exact L0.trans (FO.below (by omega) L0.size)
    · have hno : freshF (usedV l0 l1 l2 l3) < 0 ∨ 6 ≤ l2.length + l3.length := by omega
      have HN : Hid (¬ (0 ≤ freshF (usedV l0 l1 l2 l3) ∧ l2.length + l3.length < 6)) := hy
      clear hy
      go_wp2_with fail
      clear A0c0 A0c1 A0c2 A0c3
      refine (l4unfold_no b0 b1 b2 b3 c0 c1 c2 c3 l0 l1 l2 l3 k _ n0 n1 n2 n3 o0 o1 o2 o3 HT.out hno).mono ?_
      rintro e w6 ⟨rfl, hb⟩
      have al : Below w6.heap.size w6 (w6.alloc (.cells #[.slice (some ⟨b0, 0, none⟩) l0.length c0, .slice (some ⟨b1, 0, none⟩) l1.length c1, .slice (some ⟨b2, 0, none⟩) l2.length c2, .slice (some ⟨b3, 0, none⟩) l3.length c3] 28)) := (Below.refl _ _).alloc (Nat.le_refl _) _
      have zz : w.heap.size + 1 < w6.heap.size := Nat.lt_of_lt_of_le R0.lt hb.size
      replace R0 := (R0.below hb R0.lt).below al zz; replace L0 := (L0.trans (hb.mono L0.size)).trans (al.mono (Nat.le_trans L0.size hb.size))
      clear hb al A0 hno
      go_upto_region 8 with fail
      generalize w6.alloc (.cells #[.slice (some ⟨b0, 0, none⟩) l0.length c0, .slice (some ⟨b1, 0, none⟩) l1.length c1, .slice (some ⟨b2, 0, none⟩) l2.length c2, .slice (some ⟨b3, 0, none⟩) l3.length c3] 28) = w7 at *
      have HE : Hid ((unfB l0 l1 l2 l3 (k : Int)) = false) := by show (unfB l0 l1 l2 l3 (k : Int)) = false; unfold unfB; have h := HN.out; simp only [Bool.and_eq_false_iff, decide_eq_false_iff_not]; omega
      obtain ⟨F, FO⟩ := R0.fill (.slice none 0 0) (.slice none 0 0) (.slice none 0 0) (.slice none 0 0)
      have j0' := R0.c0; have j1' := R0.c1; have j2' := R0.c2; have j3' := R0.c3
      have g0 := R0.f0; have g1 := R0.f1; have g2 := R0.f2; have g3 := R0.f3
      go_wp2
      have i0 := F.c0; have i1 := F.c1; have i2 := F.c2; have i3 := F.c3
      refine bodyPost_ret (v := .tuple #[.agg #[.slice none 0 0, .slice none 0 0, .slice none 0 0, .slice none 0 0], .bool false]) ?_ rfl ⟨none, none, none, none, 0, 0, 0, 0, by rw [HE.out]; rfl, ?_, ?_⟩
      · simp [results, Try.results89, go_sem, i0, i1, i2, i3]
      · rw [HE.out]; exact Seen.none _ _ _
      · exact L0.trans (FO.below (by omega) L0.size)


end Go.Proofs.Ytphchdjbhbmnbaa
namespace Go.Proofs.Ytphchdjbhbmnbaa
open Go.RowKit
set_option linter.unusedVariables false

theorem hd_tl {n : Nat} {l : List Int} (h : l.length = n + 1) : ∃ x t, l = x :: t ∧ t.length = n := by
  cases l with
  | nil => simp at h
  | cons x t => exact ⟨x, t, rfl, by simpa using h⟩
theorem sixteen (l : List Int) (h : l.length = 16) : ∃ x0 x1 x2 x3 x4 x5 x6 x7 x8 x9 x10 x11 x12 x13 x14 x15 : Int, l = [x0, x1, x2, x3, x4, x5, x6, x7, x8, x9, x10, x11, x12, x13, x14, x15] := by
  obtain ⟨x0, t0, rfl, h0⟩ := hd_tl h
  obtain ⟨x1, t1, rfl, h1⟩ := hd_tl h0
  obtain ⟨x2, t2, rfl, h2⟩ := hd_tl h1
  obtain ⟨x3, t3, rfl, h3⟩ := hd_tl h2
  obtain ⟨x4, t4, rfl, h4⟩ := hd_tl h3
  obtain ⟨x5, t5, rfl, h5⟩ := hd_tl h4
  obtain ⟨x6, t6, rfl, h6⟩ := hd_tl h5
  obtain ⟨x7, t7, rfl, h7⟩ := hd_tl h6
  obtain ⟨x8, t8, rfl, h8⟩ := hd_tl h7
  obtain ⟨x9, t9, rfl, h9⟩ := hd_tl h8
  obtain ⟨x10, t10, rfl, h10⟩ := hd_tl h9
  obtain ⟨x11, t11, rfl, h11⟩ := hd_tl h10
  obtain ⟨x12, t12, rfl, h12⟩ := hd_tl h11
  obtain ⟨x13, t13, rfl, h13⟩ := hd_tl h12
  obtain ⟨x14, t14, rfl, h14⟩ := hd_tl h13
  obtain ⟨x15, t15, rfl, h15⟩ := hd_tl h14
  obtain rfl := List.eq_nil_of_length_eq_zero h15
  exact ⟨x0, x1, x2, x3, x4, x5, x6, x7, x8, x9, x10, x11, x12, x13, x14, x15, rfl⟩

/-- What the region that asks keeps. -/
abbrev UK (wB : World) (A D C : Nat) (v1 v2 v3 : Value) (s t : Int) (c : List Int) (W : World) : Prop := Below wB.heap.size wB W ∧ W.cell? ⟨A, 1, none⟩ = some v1 ∧ W.cell? ⟨A, 2, none⟩ = some v2 ∧ W.cell? ⟨A, 3, none⟩ = some v3 ∧ W.cell? ⟨D, 0, none⟩ = some (.int .i64 s) ∧ W.cell? ⟨D, 1, none⟩ = some (.int .i64 t) ∧ W.rangeAt C 0 (ic c)
theorem uk_own {wB W : World} {A D C : Nat} {v1 v2 v3 : Value} {s t : Int} {c : List Int} (hl : c.length = 16) (hz : A < wB.heap.size ∧ D < wB.heap.size) (c1 : wB.cell? ⟨A, 1, none⟩ = some v1) (c2 : wB.cell? ⟨A, 2, none⟩ = some v2) (c3 : wB.cell? ⟨A, 3, none⟩ = some v3) (d0 : wB.cell? ⟨D, 0, none⟩ = some (.int .i64 s)) (d1 : wB.cell? ⟨D, 1, none⟩ = some (.int .i64 t)) (h : OwnI wB C 16 c 16) (hb : Below wB.heap.size wB W) : UK wB A D C v1 v2 v3 s t c W := by
  have e : ∀ b o, b < wB.heap.size → W.cell? ⟨b, o, none⟩ = wB.cell? ⟨b, o, none⟩ := fun b o hb' => hb.cell (p := ⟨b, o, none⟩) hb'
  exact ⟨hb, (e _ _ hz.1).trans c1, (e _ _ hz.1).trans c2, (e _ _ hz.1).trans c3, (e _ _ hz.2).trans d0, (e _ _ hz.2).trans d1, (h.below hb h.1).range hl⟩
theorem uk_row {wB W : World} {A D C : Nat} {v1 v2 v3 : Value} {s t : Int} {c : List Int} {a : Option Addr} {l : List (Int × Int)} (r : PRow wB a l) (h : UK wB A D C v1 v2 v3 s t c W) : PRow W a l := r.below h.1 (Nat.le_refl _)
theorem uk_trans {wB W u : World} {A D C : Nat} {v1 v2 v3 : Value} {s t : Int} {c : List Int} (h : UK wB A D C v1 v2 v3 s t c W) (hb : Below W.heap.size W u) : Below wB.heap.size wB u := h.1.trans (hb.mono h.1.size)

theorem PBox.out {lo hi : Nat} {w w' : World} {b : Nat} {x y : Int} (h : PBox w b x y) (ho : Out lo hi w w') (hr : b < lo ∨ hi ≤ b) : PBox w' b x y := by
  have e := ho.block b h.lt hr
  exact ⟨Nat.lt_of_lt_of_le h.lt ho.size, by rw [World.cell?_of_block e]; exact h.c0, by rw [World.cell?_of_block e]; exact h.c1⟩
theorem wth3 {l0 l1 l2 l3 : List (Int × Int)} {i : Int} : wthB l0 l1 l2 l3 3 i = (asnB l0 l1 l2 l3 && decide (0 ≤ i ∧ i < (l3.length : Int))) := by
  unfold wthB
  rw [decide_eq_true (by omega), Bool.true_and]
  rfl

theorem iWithout3_no (a0 a1 a2 a3 : Option Addr) (c0 c1 c2 c3 : Nat) (l0 l1 l2 l3 : List (Int × Int)) (i : Int) (w : World) (n0 : l0.length ≤ 1048576) (n1 : l1.length ≤ 1048576) (n2 : l2.length ≤ 1048576) (n3 : l3.length ≤ 1048576) (r0 : PRow w a0 l0) (r1 : PRow w a1 l1) (r2 : PRow w a2 l2) (r3 : PRow w a3 l3) (z0 : CapZ a0 l0.length c0) (z1 : CapZ a1 l1.length c1) (z2 : CapZ a2 l2.length c2) (z3 : CapZ a3 l3.length c3) (hB : wthB l0 l1 l2 l3 3 i = false) :
    Calls Try.prog 58 #[.agg #[.slice a0 l0.length c0, .slice a1 l1.length c1, .slice a2 l2.length c2, .slice a3 l3.length c3], .int .i64 3, .int .i64 i] w fun e w' => ∃ p0 p1 p2 p3 q0 q1 q2 q3, e = .returned (.tuple #[.agg #[.slice p0 0 q0, .slice p1 0 q1, .slice p2 0 q2, .slice p3 0 q3], .bool false]) ∧ Below w.heap.size w w' := by
  refine (iWithout_any a0 a1 a2 a3 c0 c1 c2 c3 l0 l1 l2 l3 3 i w n0 n1 n2 n3 r0 r1 r2 r3 z0 z1 z2 z3).mono ?_
  rintro e w1 ⟨p0, p1, p2, p3, q0, q1, q2, q3, rfl, _, _, hb⟩
  rw [hB]
  exact ⟨p0, p1, p2, p3, q0, q1, q2, q3, rfl, hb⟩
theorem iWithout3_yes (a0 a1 a2 a3 : Option Addr) (c0 c1 c2 c3 : Nat) (l0 l1 l2 l3 : List (Int × Int)) (k : Nat) (w : World) (n0 : l0.length ≤ 1048576) (n1 : l1.length ≤ 1048576) (n2 : l2.length ≤ 1048576) (n3 : l3.length ≤ 1048576) (r0 : PRow w a0 l0) (r1 : PRow w a1 l1) (r2 : PRow w a2 l2) (r3 : PRow w a3 l3) (z0 : CapZ a0 l0.length c0) (z1 : CapZ a1 l1.length c1) (z2 : CapZ a2 l2.length c2) (z3 : CapZ a3 l3.length c3) (hB : wthB l0 l1 l2 l3 3 (k : Int) = true) (hk : k < l3.length) :
    Calls Try.prog 58 #[.agg #[.slice a0 l0.length c0, .slice a1 l1.length c1, .slice a2 l2.length c2, .slice a3 l3.length c3], .int .i64 3, .int .i64 k] w fun e w' => ∃ p0 p1 p2 p3 q0 q1 q2 q3, e = .returned (.tuple #[.agg #[.slice p0 l0.length q0, .slice p1 l1.length q1, .slice p2 l2.length q2, .slice p3 (k + (l3.length - (k + 1))) q3], .bool true]) ∧ Four w' w.heap.size w'.heap.size p0 p1 p2 p3 l0.length l1.length l2.length (k + (l3.length - (k + 1))) l0 l1 l2 (l3.take k ++ l3.drop (k + 1)) ∧ (CapZ p0 l0.length q0 ∧ CapZ p1 l1.length q1 ∧ CapZ p2 l2.length q2 ∧ CapZ p3 (k + (l3.length - (k + 1))) q3) ∧ Below w.heap.size w w' := by
  have e3 : (l3.take k ++ l3.drop (k + 1)).length = k + (l3.length - (k + 1)) := by simp; omega
  have h0 : wthL l0 3 0 (k : Int) = l0 := if_neg (by decide)
  have h1 : wthL l1 3 1 (k : Int) = l1 := if_neg (by decide)
  have h2 : wthL l2 3 2 (k : Int) = l2 := if_neg (by decide)
  have h3 : wthL l3 3 3 (k : Int) = l3.take k ++ l3.drop (k + 1) := if_pos rfl
  refine (iWithout_any a0 a1 a2 a3 c0 c1 c2 c3 l0 l1 l2 l3 3 k w n0 n1 n2 n3 r0 r1 r2 r3 z0 z1 z2 z3).mono ?_
  rintro e w1 ⟨p0, p1, p2, p3, q0, q1, q2, q3, rfl, T, Y, hb⟩
  rw [hB, h0, h1, h2, h3] at T Y ⊢
  simp only [okL, if_true, e3] at T Y ⊢
  exact ⟨p0, p1, p2, p3, q0, q1, q2, q3, rfl, T, Y, hb⟩

set_option linter.unusedSimpArgs false in
set_option maxRecDepth 20000 in
set_option maxHeartbeats 8000000 in
theorem iUnfold_any (a0 a1 a2 a3 : Option Addr) (c0 c1 c2 c3 : Nat) (l0 l1 l2 l3 : List (Int × Int)) (i : Int) (w : World) (n0 : l0.length ≤ 1048576) (n1 : l1.length ≤ 1048576) (n2 : l2.length ≤ 1048576) (n3 : l3.length ≤ 1048576) (r0 : PRow w a0 l0) (r1 : PRow w a1 l1) (r2 : PRow w a2 l2) (r3 : PRow w a3 l3) (z0 : CapZ a0 l0.length c0) (z1 : CapZ a1 l1.length c1) (z2 : CapZ a2 l2.length c2) (z3 : CapZ a3 l3.length c3) :
    Calls Try.prog 90 #[.agg #[.slice a0 l0.length c0, .slice a1 l1.length c1, .slice a2 l2.length c2, .slice a3 l3.length c3], .int .i64 i] w fun e w' => ∃ p0 p1 p2 p3 q0 q1 q2 q3, e = .returned (.tuple #[.agg #[.slice p0 (okL (unfB l0 l1 l2 l3 i) l0).length q0, .slice p1 (okL (unfB l0 l1 l2 l3 i) l1).length q1, .slice p2 (okL (unfB l0 l1 l2 l3 i) (unfC l2 (l3.getD i.toNat (0, 0)) (freshF (usedV l0 l1 l2 l3)))).length q2, .slice p3 (okL (unfB l0 l1 l2 l3 i) (unfS l3 i.toNat (l3.getD i.toNat (0, 0)) (freshF (usedV l0 l1 l2 l3)))).length q3], .bool (unfB l0 l1 l2 l3 i)]) ∧ Four w' w.heap.size w'.heap.size p0 p1 p2 p3 (okL (unfB l0 l1 l2 l3 i) l0).length (okL (unfB l0 l1 l2 l3 i) l1).length (okL (unfB l0 l1 l2 l3 i) (unfC l2 (l3.getD i.toNat (0, 0)) (freshF (usedV l0 l1 l2 l3)))).length (okL (unfB l0 l1 l2 l3 i) (unfS l3 i.toNat (l3.getD i.toNat (0, 0)) (freshF (usedV l0 l1 l2 l3)))).length (okL (unfB l0 l1 l2 l3 i) l0) (okL (unfB l0 l1 l2 l3 i) l1) (okL (unfB l0 l1 l2 l3 i) (unfC l2 (l3.getD i.toNat (0, 0)) (freshF (usedV l0 l1 l2 l3)))) (okL (unfB l0 l1 l2 l3 i) (unfS l3 i.toNat (l3.getD i.toNat (0, 0)) (freshF (usedV l0 l1 l2 l3)))) ∧ Below w.heap.size w w' := by
  have A0 := (Box.new w (.slice a0 l0.length c0) (.slice a1 l1.length c1) (.slice a2 l2.length c2) (.slice a3 l3.length c3) 28).alloc (.cells #[.slice none 0 0, .slice none 0 0, .slice none 0 0, .slice none 0 0] 28)
  have R0 := Box.new (w.alloc (.cells #[.slice a0 l0.length c0, .slice a1 l1.length c1, .slice a2 l2.length c2, .slice a3 l3.length c3] 28)) (.slice none 0 0) (.slice none 0 0) (.slice none 0 0) (.slice none 0 0) 28
  have L0 : Below w.heap.size w ((w.alloc (.cells #[.slice a0 l0.length c0, .slice a1 l1.length c1, .slice a2 l2.length c2, .slice a3 l3.length c3] 28)).alloc (.cells #[.slice none 0 0, .slice none 0 0, .slice none 0 0, .slice none 0 0] 28)) := ((Below.refl _ _).alloc (Nat.le_refl _) _).alloc (by simp) _
  rw [World.size_alloc] at R0
  go_enter Try.func90, Try.ntmps90
  by_cases hwb : wthB l0 l1 l2 l3 3 i = true
  rotate_left
  · replace hwb : wthB l0 l1 l2 l3 3 i = false := by simpa using hwb
    go_wp2_with fail
    refine (iWithout3_no a0 a1 a2 a3 c0 c1 c2 c3 l0 l1 l2 l3 i _ n0 n1 n2 n3 (r0.below L0 (Nat.le_refl _)) (r1.below L0 (Nat.le_refl _)) (r2.below L0 (Nat.le_refl _)) (r3.below L0 (Nat.le_refl _)) z0 z1 z2 z3 hwb).mono ?_
    rintro e w1 ⟨p0, p1, p2, p3, q0, q1, q2, q3, rfl, hb⟩
    have al : Below w1.heap.size w1 (w1.alloc (.cells #[.slice p0 0 q0, .slice p1 0 q1, .slice p2 0 q2, .slice p3 0 q3] 28)) := (Below.refl _ _).alloc (Nat.le_refl _) _
    have zz : w.heap.size + 1 < w1.heap.size := Nat.lt_of_lt_of_le R0.lt hb.size
    replace R0 := (R0.below hb R0.lt).below al zz; replace L0 := (L0.trans (hb.mono L0.size)).trans (al.mono (Nat.le_trans L0.size hb.size))
    clear hb al A0
    go_upto_region 2 with fail
    generalize w1.alloc (.cells #[.slice p0 0 q0, .slice p1 0 q1, .slice p2 0 q2, .slice p3 0 q3] 28) = w2 at *
    have HE : Hid ((unfB l0 l1 l2 l3 i) = false) := by show (unfB l0 l1 l2 l3 i) = false; rw [wth3] at hwb; unfold unfB; rw [hwb]; rfl
    obtain ⟨F, FO⟩ := R0.fill (.slice none 0 0) (.slice none 0 0) (.slice none 0 0) (.slice none 0 0)
    have j0' := R0.c0; have j1' := R0.c1; have j2' := R0.c2; have j3' := R0.c3
    have g0 := R0.f0; have g1 := R0.f1; have g2 := R0.f2; have g3 := R0.f3
    go_wp2
    have i0 := F.c0; have i1 := F.c1; have i2 := F.c2; have i3 := F.c3
    refine bodyPost_ret (v := .tuple #[.agg #[.slice none 0 0, .slice none 0 0, .slice none 0 0, .slice none 0 0], .bool false]) ?_ rfl ⟨none, none, none, none, 0, 0, 0, 0, by rw [HE.out]; rfl, ?_, ?_⟩
    · simp [results, Try.results90, go_sem, i0, i1, i2, i3]
    · rw [HE.out]; exact (Four.none _ w.heap.size).mono (Nat.le_refl _) (by have := FO.size; have := L0.size; omega)
    · exact L0.trans (FO.below (by omega) L0.size)

  obtain ⟨hok, hi⟩ : asnB l0 l1 l2 l3 = true ∧ (0 ≤ i ∧ i < (l3.length : Int)) := by rw [wth3] at hwb; simpa using hwb
  obtain ⟨k, rfl⟩ := Int.eq_ofNat_of_zero_le hi.1
  have hk : k < l3.length := by omega
  have HT : Hid (asnB l0 l1 l2 l3 = true) := hok
  obtain ⟨t0, t1, t2, t3⟩ := asnB_toks hok
  go_wp2_with fail
  refine (iWithout3_yes a0 a1 a2 a3 c0 c1 c2 c3 l0 l1 l2 l3 k _ n0 n1 n2 n3 (r0.below L0 (Nat.le_refl _)) (r1.below L0 (Nat.le_refl _)) (r2.below L0 (Nat.le_refl _)) (r3.below L0 (Nat.le_refl _)) z0 z1 z2 z3 hwb hk).mono ?_
  rintro e w1 ⟨p0, p1, p2, p3, q0, q1, q2, q3, rfl, T, ⟨y0, y1, y2, y3⟩, hb⟩
  have al : Below w1.heap.size w1 (w1.alloc (.cells #[.slice p0 l0.length q0, .slice p1 l1.length q1, .slice p2 l2.length q2, .slice p3 (k + (l3.length - (k + 1))) q3] 28)) := (Below.refl _ _).alloc (Nat.le_refl _) _
  have s0 := L0.size
  have X0 := Box.new w1 (.slice p0 l0.length q0) (.slice p1 l1.length q1) (.slice p2 l2.length q2) (.slice p3 (k + (l3.length - (k + 1))) q3) 28
  have zR := R0.lt
  have zA := A0.lt
  have zb := hb.size
  have za := al.size
  replace A0 := (A0.below hb A0.lt).below al (Nat.lt_of_lt_of_le A0.lt hb.size); replace R0 := (R0.below hb R0.lt).below al (Nat.lt_of_lt_of_le R0.lt hb.size); replace L0 := (L0.trans (hb.mono L0.size)).trans (al.mono (Nat.le_trans L0.size hb.size))
  replace T := T.below al (Nat.le_refl _)
  replace T := T.mono (show w.heap.size + 2 ≤ _ by simp) (Nat.le_refl _)
  replace r0 := r0.below (L0) (Nat.le_refl _); replace r1 := r1.below (L0) (Nat.le_refl _); replace r2 := r2.below (L0) (Nat.le_refl _); replace r3 := r3.below (L0) (Nat.le_refl _)
  clear hb al hwb hok
  go_upto_region 4 with fail
  have zx : w1.heap.size < (w1.alloc (.cells #[.slice p0 l0.length q0, .slice p1 l1.length q1, .slice p2 l2.length q2, .slice p3 (k + (l3.length - (k + 1))) q3] 28)).heap.size := by simp
  have zX : w.heap.size + 2 ≤ w1.heap.size := by simp at zb; omega
  clear zR zA zb za s0
  generalize w1.alloc (.cells #[.slice p0 l0.length q0, .slice p1 l1.length q1, .slice p2 l2.length q2, .slice p3 (k + (l3.length - (k + 1))) q3] 28) = w2 at *
  generalize hX : w1.heap.size = X at *
  clear hX
  have A3 := A0.c3
  obtain ⟨b, off, rfl, hbl, hcl⟩ : ∃ b off, a3 = some ⟨b, off, none⟩ ∧ b < w2.heap.size ∧ (w2.cell? ⟨b, off + k * 2, none⟩ = some (.int .i64 (l3.getD k (0, 0)).1) ∧ w2.cell? ⟨b, off + k * 2 + 1, none⟩ = some (.int .i64 (l3.getD k (0, 0)).2) ) := by
    rcases r3 with h | ⟨b, off, h, h1, h2⟩
    · rw [h] at hk; simp at hk
    · exact ⟨b, off, h, h1, h2 k hk⟩
  obtain ⟨d0, d1⟩ := hcl
  have htk := toks_get t3 hk
  have HSG : Hid (l3.getD k (0, 0) = ((l3.getD k (0, 0)).1, (l3.getD k (0, 0)).2)) := rfl
  obtain ⟨⟨g1, g2⟩, g3, g4⟩ := htk
  obtain ⟨s, t, hs, ht, es, et⟩ : ∃ s t : Nat, (l3.getD k (0, 0)).1 = (s : Int) ∧ (l3.getD k (0, 0)).2 = (t : Int) ∧ s < 16 ∧ t < 16 := ⟨(l3.getD k (0, 0)).1.toNat, (l3.getD k (0, 0)).2.toNat, by omega, by omega, by omega, by omega⟩
  rw [hs, ht] at HSG
  rw [hs] at d0
  rw [ht] at d1
  clear g1 g2 g3 g4 hs ht
  have hkl : (k : Int) < (l3.length : Int) := by omega
  have hk0' : (0 : Int) ≤ (k : Int) := by omega
  go_upto_region 5 with fail
  have P0 := PBox.new w2 s t 69
  have al : Below w2.heap.size w2 (w2.alloc (.cells #[.int .i64 (s : Int), .int .i64 (t : Int)] 69)) := (Below.refl _ _).alloc (Nat.le_refl _) _
  have zD : w2.heap.size < (w2.alloc (.cells #[.int .i64 (s : Int), .int .i64 (t : Int)] 69)).heap.size := by simp
  replace A0 := A0.below al A0.lt; replace R0 := R0.below al R0.lt; replace L0 := L0.trans (al.mono L0.size); replace X0 := X0.below al X0.lt; replace T := T.below al (by omega)
  replace r0 := r0.below (al) (Nat.le_refl _); replace r1 := r1.below (al) (Nat.le_refl _); replace r2 := r2.below (al) (Nat.le_refl _); replace r3 := r3.below (al) (Nat.le_refl _)
  clear al d0 d1 A3 hbl
  generalize w2.alloc (.cells #[.int .i64 (s : Int), .int .i64 (t : Int)] 69) = w3 at *
  generalize hD : w2.heap.size = D at *
  clear hD
  have A0c0 := A0.c0; have A0c1 := A0.c1; have A0c2 := A0.c2; have A0c3 := A0.c3
  go_wp2_with fail
  clear A0c0 A0c1 A0c2 A0c3
  refine (classesOf_any _ _ _ _ _ _ _ _ l0 l1 l2 l3 _ n0 t0 r0).mono ?_
  rintro e w4 ⟨rfl, hb⟩
  have HC := Cls.all t0
  replace A0 := A0.below hb A0.lt; replace R0 := R0.below hb R0.lt; replace L0 := L0.trans (hb.mono L0.size); replace X0 := X0.below hb X0.lt; replace T := T.below hb (by omega); replace P0 := P0.below hb P0.lt
  replace r0 := r0.below (hb) (Nat.le_refl _); replace r1 := r1.below (hb) (Nat.le_refl _); replace r2 := r2.below (hb) (Nat.le_refl _); replace r3 := r3.below (hb) (Nat.le_refl _)
  have z34 := hb.size
  clear hb
  obtain ⟨c, HCE⟩ : ∃ c, Hid (clsV l0 = c) := ⟨_, rfl⟩
  rw [HCE.out] at HC ⊢
  obtain ⟨x0, x1, x2, x3, x4, x5, x6, x7, x8, x9, x10, x11, x12, x13, x14, x15, rfl⟩ := sixteen c HC.1
  rw [show aV [x0, x1, x2, x3, x4, x5, x6, x7, x8, x9, x10, x11, x12, x13, x14, x15] = .agg #[.int .i64 x0, .int .i64 x1, .int .i64 x2, .int .i64 x3, .int .i64 x4, .int .i64 x5, .int .i64 x6, .int .i64 x7, .int .i64 x8, .int .i64 x9, .int .i64 x10, .int .i64 x11, .int .i64 x12, .int .i64 x13, .int .i64 x14, .int .i64 x15] from rfl]
  have C0 : OwnI (w4.alloc (.cells #[.int .i64 x0, .int .i64 x1, .int .i64 x2, .int .i64 x3, .int .i64 x4, .int .i64 x5, .int .i64 x6, .int .i64 x7, .int .i64 x8, .int .i64 x9, .int .i64 x10, .int .i64 x11, .int .i64 x12, .int .i64 x13, .int .i64 x14, .int .i64 x15] 102)) w4.heap.size 16 [x0, x1, x2, x3, x4, x5, x6, x7, x8, x9, x10, x11, x12, x13, x14, x15] 16 := OwnI.new w4 [x0, x1, x2, x3, x4, x5, x6, x7, x8, x9, x10, x11, x12, x13, x14, x15] 16 rfl 102
  have al : Below w4.heap.size w4 (w4.alloc (.cells #[.int .i64 x0, .int .i64 x1, .int .i64 x2, .int .i64 x3, .int .i64 x4, .int .i64 x5, .int .i64 x6, .int .i64 x7, .int .i64 x8, .int .i64 x9, .int .i64 x10, .int .i64 x11, .int .i64 x12, .int .i64 x13, .int .i64 x14, .int .i64 x15] 102)) := (Below.refl _ _).alloc (Nat.le_refl _) _
  have zC : w4.heap.size < (w4.alloc (.cells #[.int .i64 x0, .int .i64 x1, .int .i64 x2, .int .i64 x3, .int .i64 x4, .int .i64 x5, .int .i64 x6, .int .i64 x7, .int .i64 x8, .int .i64 x9, .int .i64 x10, .int .i64 x11, .int .i64 x12, .int .i64 x13, .int .i64 x14, .int .i64 x15] 102)).heap.size := by simp
  replace A0 := A0.below al A0.lt; replace R0 := R0.below al R0.lt; replace L0 := L0.trans (al.mono L0.size); replace X0 := X0.below al X0.lt; replace T := T.below al (by omega); replace P0 := P0.below al P0.lt
  replace r0 := r0.below (al) (Nat.le_refl _); replace r1 := r1.below (al) (Nat.le_refl _); replace r2 := r2.below (al) (Nat.le_refl _); replace r3 := r3.below (al) (Nat.le_refl _)
  clear al
  go_upto_region 6 with fail
  generalize w4.alloc (.cells #[.int .i64 x0, .int .i64 x1, .int .i64 x2, .int .i64 x3, .int .i64 x4, .int .i64 x5, .int .i64 x6, .int .i64 x7, .int .i64 x8, .int .i64 x9, .int .i64 x10, .int .i64 x11, .int .i64 x12, .int .i64 x13, .int .i64 x14, .int .i64 x15] 102) = w5 at *
  generalize hC : w4.heap.size = C at *
  clear hC
  have A0c0 := A0.c0; have A0c1 := A0.c1; have A0c2 := A0.c2; have A0c3 := A0.c3
  go_wp2_with fail
  clear A0c0 A0c1 A0c2 A0c3
  refine (iFresh_any _ _ _ _ _ _ _ _ l0 l1 l2 l3 _ n0 n1 n2 n3 r0 r1 r2 r3).mono ?_
  rintro e w6 ⟨rfl, hb⟩
  rw [show freshV l0 l1 l2 l3 = freshF (usedV l0 l1 l2 l3) by unfold freshV; rw [HT.out]; rfl]
  obtain ⟨f, hff⟩ : ∃ f, Hid (freshF (usedV l0 l1 l2 l3) = f) := ⟨_, rfl⟩
  rw [hff.out]
  have z56 := hb.size
  replace A0 := A0.below hb A0.lt; replace R0 := R0.below hb R0.lt; replace L0 := L0.trans (hb.mono L0.size); replace X0 := X0.below hb X0.lt; replace T := T.below hb (by omega); replace P0 := P0.below hb P0.lt; replace C0 := C0.below hb C0.1
  replace r0 := r0.below (hb) (Nat.le_refl _); replace r1 := r1.below (hb) (Nat.le_refl _); replace r2 := r2.below (hb) (Nat.le_refl _); replace r3 := r3.below (hb) (Nat.le_refl _)
  clear hb
  go_upto_region 7 with fail
  obtain ⟨gs, hgs⟩ : ∃ g, Hid (([x0, x1, x2, x3, x4, x5, x6, x7, x8, x9, x10, x11, x12, x13, x14, x15] : List Int).getD s 0 = g) := ⟨_, rfl⟩
  obtain ⟨gt, hgt⟩ : ∃ g, Hid (([x0, x1, x2, x3, x4, x5, x6, x7, x8, x9, x10, x11, x12, x13, x14, x15] : List Int).getD t 0 = g) := ⟨_, rfl⟩
  have bgs : 0 ≤ gs ∧ gs < 16 := by rw [← hgs.out]; exact HC.2 s es
  have bgt : 0 ≤ gt ∧ gt < 16 := by rw [← hgt.out]; exact HC.2 t et
  obtain ⟨am, ham⟩ : ∃ am, Hid (amongV [x0, x1, x2, x3, x4, x5, x6, x7, x8, x9, x10, x11, x12, x13, x14, x15] l1 gs gt = am) := ⟨_, rfl⟩
  have zz : w.heap.size < w6.heap.size ∧ D < w6.heap.size ∧ C < w6.heap.size := ⟨A0.lt, P0.lt, C0.1⟩
  have hK : ∀ u : World, Below w6.heap.size w6 u → UK w6 w.heap.size D C (.slice a1 l1.length c1) (.slice a2 l2.length c2) (.slice (some ⟨b, off, none⟩) l3.length c3) s t [x0, x1, x2, x3, x4, x5, x6, x7, x8, x9, x10, x11, x12, x13, x14, x15] u := fun u hu => uk_own rfl ⟨zz.1, zz.2.1⟩ A0.c1 A0.c2 A0.c3 P0.c0 P0.c1 C0 hu
  have hS1 := hK w6 (Below.refl _ _)
  have hS0 := hK w6.drew (Below.refl _ _).drew
  replace hK : Hid (∀ u : World, Below w6.heap.size w6 u → UK w6 w.heap.size D C (.slice a1 l1.length c1) (.slice a2 l2.length c2) (.slice (some ⟨b, off, none⟩) l3.length c3) s t [x0, x1, x2, x3, x4, x5, x6, x7, x8, x9, x10, x11, x12, x13, x14, x15] u) := hK
  have u95 := Try.underlying102
  have i95 : (Try.prog.info? 102).map (·.size) = some (ic [x0, x1, x2, x3, x4, x5, x6, x7, x8, x9, x10, x11, x12, x13, x14, x15]).length := by kernel_rfl
  have HOPV : Hid (openV (clsV l0) l1 [l3.getD k (0, 0)] = am) := by
    show openV (clsV l0) l1 [l3.getD k (0, 0)] = am
    rw [HCE.out, HSG.out]
    simp only [openV, List.all_cons, List.all_nil, Bool.and_true, Int.toNat_natCast]
    rw [hgs.out, hgt.out, ham.out]
  go_cut [50] (fun v50 wz => v50 = .bool (!(am && decide (0 ≤ f) && decide (l2.length + l3.length < 6))) ∧ Below w6.heap.size w6 wz)
  case first =>
    cases am
    · -- not among
      refine wp_region_held_drew (S := fun W => Below w6.heap.size w6 W ∧ W.cell? ⟨w.heap.size, 1, none⟩ = some (.slice a1 l1.length c1) ∧ W.cell? ⟨w.heap.size, 2, none⟩ = some (.slice a2 l2.length c2) ∧ W.cell? ⟨w.heap.size, 3, none⟩ = some (.slice (some ⟨b, off, none⟩) l3.length c3) ∧ W.cell? ⟨D, 0, none⟩ = some (.int .i64 s) ∧ W.cell? ⟨D, 1, none⟩ = some (.int .i64 t) ∧ W.rangeAt C 0 (ic [x0, x1, x2, x3, x4, x5, x6, x7, x8, x9, x10, x11, x12, x13, x14, x15])) (by kernel_rfl) hS0 (fun _ => ?_)
      generalize w6.drew = w7 at *
      refine wpAnyH_take (i := 0) rfl (by kernel_rfl) (by kernel_rfl) (by kernel_rfl) (fun _ _ _ h => h) (yieldsIf_load_mid (by rfl) _ _ rfl _ _ rfl _ _ (fun w' h => h.2.2.2.2.2.2) u95 rfl i95) hS0 ?_
      simp only [Act.put, List.setIfInBounds_toArray, List.set_cons_zero, List.set_cons_succ]
      refine wpAnyH_take (i := 1) (v := .pointer (some ⟨w.heap.size, 1, none⟩)) rfl (by kernel_rfl) (by kernel_rfl) (by kernel_rfl) (fun _ _ _ h => h) (Or.inl ⟨by rfl, ?_⟩) hS0 ?_
      · intro w2 hSw; go_simp
      simp only [Act.put, List.setIfInBounds_toArray, List.set_cons_zero, List.set_cons_succ]
      refine wpAnyH_take (i := 2) (v := .slice a1 l1.length c1) rfl (by kernel_rfl) (by kernel_rfl) (by kernel_rfl) (fun _ _ _ h => h) (Or.inl ⟨by rfl, ?_⟩) hS0 ?_
      · intro w2 hSw; go_simp
      simp only [Act.put, List.setIfInBounds_toArray, List.set_cons_zero, List.set_cons_succ]
      refine wpAnyH_take (i := 3) rfl (by kernel_rfl) (by kernel_rfl) (by kernel_rfl) (fun _ _ _ h => h) (yieldsIf_load_mid (by rfl) _ _ rfl _ _ rfl _ _ (fun w' h => h.2.2.2.2.2.2) u95 rfl i95) hS0 ?_
      simp only [Act.put, List.setIfInBounds_toArray, List.set_cons_zero, List.set_cons_succ]
      refine wpAnyH_take (i := 4) (v := .agg #[.int .i64 (s : Int), .int .i64 (t : Int)]) rfl (by kernel_rfl) (by kernel_rfl) (by kernel_rfl) (fun _ _ _ h => h) (Or.inl ⟨by rfl, ?_⟩) hS0 ?_
      · intro w2 hSw; go_simp
      simp only [Act.put, List.setIfInBounds_toArray, List.set_cons_zero, List.set_cons_succ]
      refine wpAnyH_ready (rs := [5]) (by kernel_rfl) (by simp) ?_
      refine AllReadyH.cons rfl (fun K hK' => ?_) AllReadyH.nil
      rw [if_pos (by rfl)]
      go_simp
      refine (of_any [x0, x1, x2, x3, x4, x5, x6, x7, x8, x9, x10, x11, x12, x13, x14, x15] s t _ rfl es et).mono ?_
      rintro e v0 ⟨rfl, h0⟩
      rw [hgs.out, hgt.out]
      have k1 := hK.out v0 (uk_trans hS0 h0)
      refine hK'.out _ _ k1 (fun _ => ?_)
      clear hK' K h0
      refine wpAnyH_ready (rs := [6]) (by kernel_rfl) (by simp) ?_
      refine AllReadyH.cons rfl (fun K hK' => ?_) AllReadyH.nil
      rw [if_pos (by rfl)]
      go_simp
      refine (among_any [x0, x1, x2, x3, x4, x5, x6, x7, x8, x9, x10, x11, x12, x13, x14, x15] _ _ l1 gs gt HC _ n1 t1 (uk_row r1 k1) bgs bgt).mono ?_
      rintro e v1 ⟨rfl, h1⟩
      rw [ham.out]
      have k2 := hK.out v1 (uk_trans k1 h1)
      refine hK'.out _ _ k2 (fun _ => ?_)
      clear hK' K h1
      refine wpAnyH_take (i := 7) (v := .bool true) rfl (by kernel_rfl) (by kernel_rfl) (by kernel_rfl) (fun _ _ _ h => h) (Or.inl ⟨by rfl, ?_⟩) k2 ?_
      · intro w2 hSw; go_simp
      simp only [Act.put, List.setIfInBounds_toArray, List.set_cons_zero, List.set_cons_succ]
      refine wpAnyH_take (i := 8) (v := .bool true) rfl (by kernel_rfl) (by kernel_rfl) (by kernel_rfl) (fun _ _ _ h => h) (Or.inl ⟨by rfl, ?_⟩) k2 ?_
      · intro w2 hSw; go_simp
      simp only [Act.put, List.setIfInBounds_toArray, List.set_cons_zero, List.set_cons_succ]
      refine wpAnyH_take (i := 9) (v := undef) rfl (by kernel_rfl) (by kernel_rfl) (by kernel_rfl) (fun _ _ _ h => h) (Or.inr ⟨by simp [Region.wanted, yielded], rfl⟩) k2 ?_
      simp only [Act.put, List.setIfInBounds_toArray, List.set_cons_zero, List.set_cons_succ]
      refine wpAnyH_take (i := 10) (v := undef) rfl (by kernel_rfl) (by kernel_rfl) (by kernel_rfl) (fun _ _ _ h => h) (Or.inr ⟨by simp [Region.wanted, yielded], rfl⟩) k2 ?_
      simp only [Act.put, List.setIfInBounds_toArray, List.set_cons_zero, List.set_cons_succ]
      refine wpAnyH_take (i := 11) (v := .bool true) rfl (by kernel_rfl) (by kernel_rfl) (by kernel_rfl) (fun _ _ _ h => h) (Or.inl ⟨by rfl, ?_⟩) k2 ?_
      · intro w2 hSw; go_simp
      simp only [Act.put, List.setIfInBounds_toArray, List.set_cons_zero, List.set_cons_succ]
      refine wpAnyH_take (i := 12) (v := .bool true) rfl (by kernel_rfl) (by kernel_rfl) (by kernel_rfl) (fun _ _ _ h => h) (Or.inl ⟨by rfl, ?_⟩) k2 ?_
      · intro w2 hSw; go_simp
      simp only [Act.put, List.setIfInBounds_toArray, List.set_cons_zero, List.set_cons_succ]
      refine wpAnyH_take (i := 13) (v := undef) rfl (by kernel_rfl) (by kernel_rfl) (by kernel_rfl) (fun _ _ _ h => h) (Or.inr ⟨by simp [Region.wanted, yielded], rfl⟩) k2 ?_
      simp only [Act.put, List.setIfInBounds_toArray, List.set_cons_zero, List.set_cons_succ]
      refine wpAnyH_take (i := 14) (v := undef) rfl (by kernel_rfl) (by kernel_rfl) (by kernel_rfl) (fun _ _ _ h => h) (Or.inr ⟨by simp [Region.wanted, yielded], rfl⟩) k2 ?_
      simp only [Act.put, List.setIfInBounds_toArray, List.set_cons_zero, List.set_cons_succ]
      refine wpAnyH_take (i := 15) (v := undef) rfl (by kernel_rfl) (by kernel_rfl) (by kernel_rfl) (fun _ _ _ h => h) (Or.inr ⟨by simp [Region.wanted, yielded], rfl⟩) k2 ?_
      simp only [Act.put, List.setIfInBounds_toArray, List.set_cons_zero, List.set_cons_succ]
      refine wpAnyH_take (i := 16) (v := undef) rfl (by kernel_rfl) (by kernel_rfl) (by kernel_rfl) (fun _ _ _ h => h) (Or.inr ⟨by simp [Region.wanted, yielded], rfl⟩) k2 ?_
      simp only [Act.put, List.setIfInBounds_toArray, List.set_cons_zero, List.set_cons_succ]
      refine wpAnyH_take (i := 17) (v := undef) rfl (by kernel_rfl) (by kernel_rfl) (by kernel_rfl) (fun _ _ _ h => h) (Or.inr ⟨by simp [Region.wanted, yielded], rfl⟩) k2 ?_
      simp only [Act.put, List.setIfInBounds_toArray, List.set_cons_zero, List.set_cons_succ]
      refine wpAnyH_take (i := 18) (v := undef) rfl (by kernel_rfl) (by kernel_rfl) (by kernel_rfl) (fun _ _ _ h => h) (Or.inr ⟨by simp [Region.wanted, yielded], rfl⟩) k2 ?_
      simp only [Act.put, List.setIfInBounds_toArray, List.set_cons_zero, List.set_cons_succ]
      refine wpAnyH_take (i := 19) (v := undef) rfl (by kernel_rfl) (by kernel_rfl) (by kernel_rfl) (fun _ _ _ h => h) (Or.inr ⟨by simp [Region.wanted, yielded], rfl⟩) k2 ?_
      simp only [Act.put, List.setIfInBounds_toArray, List.set_cons_zero, List.set_cons_succ]
      refine wpAnyH_take (i := 20) (v := undef) rfl (by kernel_rfl) (by kernel_rfl) (by kernel_rfl) (fun _ _ _ h => h) (Or.inr ⟨by simp [Region.wanted, yielded], rfl⟩) k2 ?_
      simp only [Act.put, List.setIfInBounds_toArray, List.set_cons_zero, List.set_cons_succ]
      refine wpAnyH_take (i := 21) (v := .bool true) rfl (by kernel_rfl) (by kernel_rfl) (by kernel_rfl) (fun _ _ _ h => h) (Or.inl ⟨by rfl, ?_⟩) k2 ?_
      · intro w2 hSw; go_simp
      simp only [Act.put, List.setIfInBounds_toArray, List.set_cons_zero, List.set_cons_succ]
      refine wpAnyH_done (by kernel_rfl) ?_ _
      simp only [List.getElem_toArray, List.getElem_cons_succ, List.getElem_cons_zero, Act.put, List.setIfInBounds_toArray, List.set_cons_zero, List.set_cons_succ]
      go_wp2_with fail
      go_meet
      exact ⟨by simp, k2.1⟩
    · by_cases hf : f < 0
      · have hnf : ¬ (0 ≤ f) := by omega
        refine wp_region_held_drew (S := fun W => Below w6.heap.size w6 W ∧ W.cell? ⟨w.heap.size, 1, none⟩ = some (.slice a1 l1.length c1) ∧ W.cell? ⟨w.heap.size, 2, none⟩ = some (.slice a2 l2.length c2) ∧ W.cell? ⟨w.heap.size, 3, none⟩ = some (.slice (some ⟨b, off, none⟩) l3.length c3) ∧ W.cell? ⟨D, 0, none⟩ = some (.int .i64 s) ∧ W.cell? ⟨D, 1, none⟩ = some (.int .i64 t) ∧ W.rangeAt C 0 (ic [x0, x1, x2, x3, x4, x5, x6, x7, x8, x9, x10, x11, x12, x13, x14, x15])) (by kernel_rfl) hS0 (fun _ => ?_)
        generalize w6.drew = w7 at *
        refine wpAnyH_take (i := 0) rfl (by kernel_rfl) (by kernel_rfl) (by kernel_rfl) (fun _ _ _ h => h) (yieldsIf_load_mid (by rfl) _ _ rfl _ _ rfl _ _ (fun w' h => h.2.2.2.2.2.2) u95 rfl i95) hS0 ?_
        simp only [Act.put, List.setIfInBounds_toArray, List.set_cons_zero, List.set_cons_succ]
        refine wpAnyH_take (i := 1) (v := .pointer (some ⟨w.heap.size, 1, none⟩)) rfl (by kernel_rfl) (by kernel_rfl) (by kernel_rfl) (fun _ _ _ h => h) (Or.inl ⟨by rfl, ?_⟩) hS0 ?_
        · intro w2 hSw; go_simp
        simp only [Act.put, List.setIfInBounds_toArray, List.set_cons_zero, List.set_cons_succ]
        refine wpAnyH_take (i := 2) (v := .slice a1 l1.length c1) rfl (by kernel_rfl) (by kernel_rfl) (by kernel_rfl) (fun _ _ _ h => h) (Or.inl ⟨by rfl, ?_⟩) hS0 ?_
        · intro w2 hSw; go_simp
        simp only [Act.put, List.setIfInBounds_toArray, List.set_cons_zero, List.set_cons_succ]
        refine wpAnyH_take (i := 3) rfl (by kernel_rfl) (by kernel_rfl) (by kernel_rfl) (fun _ _ _ h => h) (yieldsIf_load_mid (by rfl) _ _ rfl _ _ rfl _ _ (fun w' h => h.2.2.2.2.2.2) u95 rfl i95) hS0 ?_
        simp only [Act.put, List.setIfInBounds_toArray, List.set_cons_zero, List.set_cons_succ]
        refine wpAnyH_take (i := 4) (v := .agg #[.int .i64 (s : Int), .int .i64 (t : Int)]) rfl (by kernel_rfl) (by kernel_rfl) (by kernel_rfl) (fun _ _ _ h => h) (Or.inl ⟨by rfl, ?_⟩) hS0 ?_
        · intro w2 hSw; go_simp
        simp only [Act.put, List.setIfInBounds_toArray, List.set_cons_zero, List.set_cons_succ]
        refine wpAnyH_ready (rs := [5]) (by kernel_rfl) (by simp) ?_
        refine AllReadyH.cons rfl (fun K hK' => ?_) AllReadyH.nil
        rw [if_pos (by rfl)]
        go_simp
        refine (of_any [x0, x1, x2, x3, x4, x5, x6, x7, x8, x9, x10, x11, x12, x13, x14, x15] s t _ rfl es et).mono ?_
        rintro e v0 ⟨rfl, h0⟩
        rw [hgs.out, hgt.out]
        have k1 := hK.out v0 (uk_trans hS0 h0)
        refine hK'.out _ _ k1 (fun _ => ?_)
        clear hK' K h0
        refine wpAnyH_ready (rs := [6]) (by kernel_rfl) (by simp) ?_
        refine AllReadyH.cons rfl (fun K hK' => ?_) AllReadyH.nil
        rw [if_pos (by rfl)]
        go_simp
        refine (among_any [x0, x1, x2, x3, x4, x5, x6, x7, x8, x9, x10, x11, x12, x13, x14, x15] _ _ l1 gs gt HC _ n1 t1 (uk_row r1 k1) bgs bgt).mono ?_
        rintro e v1 ⟨rfl, h1⟩
        rw [ham.out]
        have k2 := hK.out v1 (uk_trans k1 h1)
        refine hK'.out _ _ k2 (fun _ => ?_)
        clear hK' K h1
        refine wpAnyH_take (i := 7) (v := .bool false) rfl (by kernel_rfl) (by kernel_rfl) (by kernel_rfl) (fun _ _ _ h => h) (Or.inl ⟨by rfl, ?_⟩) k2 ?_
        · intro w2 hSw; go_simp
        simp only [Act.put, List.setIfInBounds_toArray, List.set_cons_zero, List.set_cons_succ]
        refine wpAnyH_take (i := 8) (v := .bool false) rfl (by kernel_rfl) (by kernel_rfl) (by kernel_rfl) (fun _ _ _ h => h) (Or.inl ⟨by rfl, ?_⟩) k2 ?_
        · intro w2 hSw; go_simp
        simp only [Act.put, List.setIfInBounds_toArray, List.set_cons_zero, List.set_cons_succ]
        refine wpAnyH_take (i := 9) (v := .int .i64 f) rfl (by kernel_rfl) (by kernel_rfl) (by kernel_rfl) (fun _ _ _ h => h) (Or.inl ⟨by simp [Region.wanted, yielded], ?_⟩) k2 ?_
        · intro w2 hSw; go_simp
        simp only [Act.put, List.setIfInBounds_toArray, List.set_cons_zero, List.set_cons_succ]
        refine wpAnyH_take (i := 10) (v := .bool true) rfl (by kernel_rfl) (by kernel_rfl) (by kernel_rfl) (fun _ _ _ h => h) (Or.inl ⟨by simp [Region.wanted, yielded], ?_⟩) k2 ?_
        · intro w2 hSw; go_simp
        simp only [Act.put, List.setIfInBounds_toArray, List.set_cons_zero, List.set_cons_succ]
        refine wpAnyH_take (i := 11) (v := .bool true) rfl (by kernel_rfl) (by kernel_rfl) (by kernel_rfl) (fun _ _ _ h => h) (Or.inl ⟨by rfl, ?_⟩) k2 ?_
        · intro w2 hSw; go_simp
        simp only [Act.put, List.setIfInBounds_toArray, List.set_cons_zero, List.set_cons_succ]
        refine wpAnyH_take (i := 12) (v := .bool true) rfl (by kernel_rfl) (by kernel_rfl) (by kernel_rfl) (fun _ _ _ h => h) (Or.inl ⟨by rfl, ?_⟩) k2 ?_
        · intro w2 hSw; go_simp
        simp only [Act.put, List.setIfInBounds_toArray, List.set_cons_zero, List.set_cons_succ]
        refine wpAnyH_take (i := 13) (v := undef) rfl (by kernel_rfl) (by kernel_rfl) (by kernel_rfl) (fun _ _ _ h => h) (Or.inr ⟨by simp [Region.wanted, yielded], rfl⟩) k2 ?_
        simp only [Act.put, List.setIfInBounds_toArray, List.set_cons_zero, List.set_cons_succ]
        refine wpAnyH_take (i := 14) (v := undef) rfl (by kernel_rfl) (by kernel_rfl) (by kernel_rfl) (fun _ _ _ h => h) (Or.inr ⟨by simp [Region.wanted, yielded], rfl⟩) k2 ?_
        simp only [Act.put, List.setIfInBounds_toArray, List.set_cons_zero, List.set_cons_succ]
        refine wpAnyH_take (i := 15) (v := undef) rfl (by kernel_rfl) (by kernel_rfl) (by kernel_rfl) (fun _ _ _ h => h) (Or.inr ⟨by simp [Region.wanted, yielded], rfl⟩) k2 ?_
        simp only [Act.put, List.setIfInBounds_toArray, List.set_cons_zero, List.set_cons_succ]
        refine wpAnyH_take (i := 16) (v := undef) rfl (by kernel_rfl) (by kernel_rfl) (by kernel_rfl) (fun _ _ _ h => h) (Or.inr ⟨by simp [Region.wanted, yielded], rfl⟩) k2 ?_
        simp only [Act.put, List.setIfInBounds_toArray, List.set_cons_zero, List.set_cons_succ]
        refine wpAnyH_take (i := 17) (v := undef) rfl (by kernel_rfl) (by kernel_rfl) (by kernel_rfl) (fun _ _ _ h => h) (Or.inr ⟨by simp [Region.wanted, yielded], rfl⟩) k2 ?_
        simp only [Act.put, List.setIfInBounds_toArray, List.set_cons_zero, List.set_cons_succ]
        refine wpAnyH_take (i := 18) (v := undef) rfl (by kernel_rfl) (by kernel_rfl) (by kernel_rfl) (fun _ _ _ h => h) (Or.inr ⟨by simp [Region.wanted, yielded], rfl⟩) k2 ?_
        simp only [Act.put, List.setIfInBounds_toArray, List.set_cons_zero, List.set_cons_succ]
        refine wpAnyH_take (i := 19) (v := undef) rfl (by kernel_rfl) (by kernel_rfl) (by kernel_rfl) (fun _ _ _ h => h) (Or.inr ⟨by simp [Region.wanted, yielded], rfl⟩) k2 ?_
        simp only [Act.put, List.setIfInBounds_toArray, List.set_cons_zero, List.set_cons_succ]
        refine wpAnyH_take (i := 20) (v := undef) rfl (by kernel_rfl) (by kernel_rfl) (by kernel_rfl) (fun _ _ _ h => h) (Or.inr ⟨by simp [Region.wanted, yielded], rfl⟩) k2 ?_
        simp only [Act.put, List.setIfInBounds_toArray, List.set_cons_zero, List.set_cons_succ]
        refine wpAnyH_take (i := 21) (v := .bool true) rfl (by kernel_rfl) (by kernel_rfl) (by kernel_rfl) (fun _ _ _ h => h) (Or.inl ⟨by rfl, ?_⟩) k2 ?_
        · intro w2 hSw; go_simp
        simp only [Act.put, List.setIfInBounds_toArray, List.set_cons_zero, List.set_cons_succ]
        refine wpAnyH_done (by kernel_rfl) ?_ _
        go_wp2_with fail
        go_meet
        exact ⟨by simp [hnf], k2.1⟩
      · have hnf : 0 ≤ f := by omega
        have hsum : (6 ≤ (l2.length : Int) + (l3.length : Int)) ↔ ¬ (l2.length + l3.length < 6) := by omega
        have HSUM : Hid (Value.bool (decide (6 ≤ (l2.length : Int) + (l3.length : Int))) = .bool (!(true && decide (0 ≤ f) && decide (l2.length + l3.length < 6)))) := by
          show Value.bool _ = Value.bool _
          rw [decide_eq_true hnf]
          simp only [hsum, Bool.true_and, decide_not]
        clear hsum hnf
        have hw23 : IntKind.i64.wrap ((l2.length : Int) + (l3.length : Int)) = (l2.length : Int) + (l3.length : Int) := by rw [IntKind.wrap_i64]; omega
        refine wp_region_held_drew (S := fun W => Below w6.heap.size w6 W ∧ W.cell? ⟨w.heap.size, 1, none⟩ = some (.slice a1 l1.length c1) ∧ W.cell? ⟨w.heap.size, 2, none⟩ = some (.slice a2 l2.length c2) ∧ W.cell? ⟨w.heap.size, 3, none⟩ = some (.slice (some ⟨b, off, none⟩) l3.length c3) ∧ W.cell? ⟨D, 0, none⟩ = some (.int .i64 s) ∧ W.cell? ⟨D, 1, none⟩ = some (.int .i64 t) ∧ W.rangeAt C 0 (ic [x0, x1, x2, x3, x4, x5, x6, x7, x8, x9, x10, x11, x12, x13, x14, x15])) (by kernel_rfl) hS0 (fun _ => ?_)
        generalize w6.drew = w7 at *
        refine wpAnyH_take (i := 0) rfl (by kernel_rfl) (by kernel_rfl) (by kernel_rfl) (fun _ _ _ h => h) (yieldsIf_load_mid (by rfl) _ _ rfl _ _ rfl _ _ (fun w' h => h.2.2.2.2.2.2) u95 rfl i95) hS0 ?_
        simp only [Act.put, List.setIfInBounds_toArray, List.set_cons_zero, List.set_cons_succ]
        refine wpAnyH_take (i := 1) (v := .pointer (some ⟨w.heap.size, 1, none⟩)) rfl (by kernel_rfl) (by kernel_rfl) (by kernel_rfl) (fun _ _ _ h => h) (Or.inl ⟨by rfl, ?_⟩) hS0 ?_
        · intro w2 hSw; go_simp
        simp only [Act.put, List.setIfInBounds_toArray, List.set_cons_zero, List.set_cons_succ]
        refine wpAnyH_take (i := 2) (v := .slice a1 l1.length c1) rfl (by kernel_rfl) (by kernel_rfl) (by kernel_rfl) (fun _ _ _ h => h) (Or.inl ⟨by rfl, ?_⟩) hS0 ?_
        · intro w2 hSw; go_simp
        simp only [Act.put, List.setIfInBounds_toArray, List.set_cons_zero, List.set_cons_succ]
        refine wpAnyH_take (i := 3) rfl (by kernel_rfl) (by kernel_rfl) (by kernel_rfl) (fun _ _ _ h => h) (yieldsIf_load_mid (by rfl) _ _ rfl _ _ rfl _ _ (fun w' h => h.2.2.2.2.2.2) u95 rfl i95) hS0 ?_
        simp only [Act.put, List.setIfInBounds_toArray, List.set_cons_zero, List.set_cons_succ]
        refine wpAnyH_take (i := 4) (v := .agg #[.int .i64 (s : Int), .int .i64 (t : Int)]) rfl (by kernel_rfl) (by kernel_rfl) (by kernel_rfl) (fun _ _ _ h => h) (Or.inl ⟨by rfl, ?_⟩) hS0 ?_
        · intro w2 hSw; go_simp
        simp only [Act.put, List.setIfInBounds_toArray, List.set_cons_zero, List.set_cons_succ]
        refine wpAnyH_ready (rs := [5]) (by kernel_rfl) (by simp) ?_
        refine AllReadyH.cons rfl (fun K hK' => ?_) AllReadyH.nil
        rw [if_pos (by rfl)]
        go_simp
        refine (of_any [x0, x1, x2, x3, x4, x5, x6, x7, x8, x9, x10, x11, x12, x13, x14, x15] s t _ rfl es et).mono ?_
        rintro e v0 ⟨rfl, h0⟩
        rw [hgs.out, hgt.out]
        have k1 := hK.out v0 (uk_trans hS0 h0)
        refine hK'.out _ _ k1 (fun _ => ?_)
        clear hK' K h0
        refine wpAnyH_ready (rs := [6]) (by kernel_rfl) (by simp) ?_
        refine AllReadyH.cons rfl (fun K hK' => ?_) AllReadyH.nil
        rw [if_pos (by rfl)]
        go_simp
        refine (among_any [x0, x1, x2, x3, x4, x5, x6, x7, x8, x9, x10, x11, x12, x13, x14, x15] _ _ l1 gs gt HC _ n1 t1 (uk_row r1 k1) bgs bgt).mono ?_
        rintro e v1 ⟨rfl, h1⟩
        rw [ham.out]
        have k2 := hK.out v1 (uk_trans k1 h1)
        refine hK'.out _ _ k2 (fun _ => ?_)
        clear hK' K h1
        refine wpAnyH_take (i := 7) (v := .bool false) rfl (by kernel_rfl) (by kernel_rfl) (by kernel_rfl) (fun _ _ _ h => h) (Or.inl ⟨by rfl, ?_⟩) k2 ?_
        · intro w2 hSw; go_simp
        simp only [Act.put, List.setIfInBounds_toArray, List.set_cons_zero, List.set_cons_succ]
        refine wpAnyH_take (i := 8) (v := .bool false) rfl (by kernel_rfl) (by kernel_rfl) (by kernel_rfl) (fun _ _ _ h => h) (Or.inl ⟨by rfl, ?_⟩) k2 ?_
        · intro w2 hSw; go_simp
        simp only [Act.put, List.setIfInBounds_toArray, List.set_cons_zero, List.set_cons_succ]
        refine wpAnyH_take (i := 9) (v := .int .i64 f) rfl (by kernel_rfl) (by kernel_rfl) (by kernel_rfl) (fun _ _ _ h => h) (Or.inl ⟨by simp [Region.wanted, yielded], ?_⟩) k2 ?_
        · intro w2 hSw; go_simp
        simp only [Act.put, List.setIfInBounds_toArray, List.set_cons_zero, List.set_cons_succ]
        refine wpAnyH_take (i := 10) (v := .bool false) rfl (by kernel_rfl) (by kernel_rfl) (by kernel_rfl) (fun _ _ _ h => h) (Or.inl ⟨by simp [Region.wanted, yielded], ?_⟩) k2 ?_
        · intro w2 hSw; go_simp
        simp only [Act.put, List.setIfInBounds_toArray, List.set_cons_zero, List.set_cons_succ]
        refine wpAnyH_take (i := 11) (v := .bool false) rfl (by kernel_rfl) (by kernel_rfl) (by kernel_rfl) (fun _ _ _ h => h) (Or.inl ⟨by rfl, ?_⟩) k2 ?_
        · intro w2 hSw; go_simp
        simp only [Act.put, List.setIfInBounds_toArray, List.set_cons_zero, List.set_cons_succ]
        refine wpAnyH_take (i := 12) (v := .bool false) rfl (by kernel_rfl) (by kernel_rfl) (by kernel_rfl) (fun _ _ _ h => h) (Or.inl ⟨by rfl, ?_⟩) k2 ?_
        · intro w2 hSw; go_simp
        simp only [Act.put, List.setIfInBounds_toArray, List.set_cons_zero, List.set_cons_succ]
        refine wpAnyH_take (i := 13) (v := .pointer (some ⟨w.heap.size, 2, none⟩)) rfl (by kernel_rfl) (by kernel_rfl) (by kernel_rfl) (fun _ _ _ h => h) (Or.inl ⟨by simp [Region.wanted, yielded], ?_⟩) k2 ?_
        · intro w2 hSw; go_simp
        simp only [Act.put, List.setIfInBounds_toArray, List.set_cons_zero, List.set_cons_succ]
        refine wpAnyH_take (i := 14) (v := .slice a2 l2.length c2) rfl (by kernel_rfl) (by kernel_rfl) (by kernel_rfl) (fun _ _ _ h => h) (Or.inl ⟨by simp [Region.wanted, yielded], ?_⟩) k2 ?_
        · intro w2 hSw; go_simp
        simp only [Act.put, List.setIfInBounds_toArray, List.set_cons_zero, List.set_cons_succ]
        refine wpAnyH_take (i := 15) (v := .int .i64 (l2.length : Int)) rfl (by kernel_rfl) (by kernel_rfl) (by kernel_rfl) (fun _ _ _ h => h) (Or.inl ⟨by simp [Region.wanted, yielded], ?_⟩) k2 ?_
        · intro w2 hSw; go_simp
        simp only [Act.put, List.setIfInBounds_toArray, List.set_cons_zero, List.set_cons_succ]
        refine wpAnyH_take (i := 16) (v := .pointer (some ⟨w.heap.size, 3, none⟩)) rfl (by kernel_rfl) (by kernel_rfl) (by kernel_rfl) (fun _ _ _ h => h) (Or.inl ⟨by simp [Region.wanted, yielded], ?_⟩) k2 ?_
        · intro w2 hSw; go_simp
        simp only [Act.put, List.setIfInBounds_toArray, List.set_cons_zero, List.set_cons_succ]
        refine wpAnyH_take (i := 17) (v := .slice (some ⟨b, off, none⟩) l3.length c3) rfl (by kernel_rfl) (by kernel_rfl) (by kernel_rfl) (fun _ _ _ h => h) (Or.inl ⟨by simp [Region.wanted, yielded], ?_⟩) k2 ?_
        · intro w2 hSw; go_simp
        simp only [Act.put, List.setIfInBounds_toArray, List.set_cons_zero, List.set_cons_succ]
        refine wpAnyH_take (i := 18) (v := .int .i64 (l3.length : Int)) rfl (by kernel_rfl) (by kernel_rfl) (by kernel_rfl) (fun _ _ _ h => h) (Or.inl ⟨by simp [Region.wanted, yielded], ?_⟩) k2 ?_
        · intro w2 hSw; go_simp
        simp only [Act.put, List.setIfInBounds_toArray, List.set_cons_zero, List.set_cons_succ]
        refine wpAnyH_take (i := 19) (v := .int .i64 ((l2.length : Int) + (l3.length : Int))) rfl (by kernel_rfl) (by kernel_rfl) (by kernel_rfl) (fun _ _ _ h => h) (Or.inl ⟨by simp [Region.wanted, yielded], ?_⟩) k2 ?_
        · intro w2 hSw; go_simp
        simp only [Act.put, List.setIfInBounds_toArray, List.set_cons_zero, List.set_cons_succ]
        refine wpAnyH_take (i := 20) (v := .bool (decide (6 ≤ (l2.length : Int) + (l3.length : Int)))) rfl (by kernel_rfl) (by kernel_rfl) (by kernel_rfl) (fun _ _ _ h => h) (Or.inl ⟨by simp [Region.wanted, yielded], ?_⟩) k2 ?_
        · intro w2 hSw; go_simp
        simp only [Act.put, List.setIfInBounds_toArray, List.set_cons_zero, List.set_cons_succ]
        refine wpAnyH_take (i := 21) (v := .bool (decide (6 ≤ (l2.length : Int) + (l3.length : Int)))) rfl (by kernel_rfl) (by kernel_rfl) (by kernel_rfl) (fun _ _ _ h => h) (Or.inl ⟨by rfl, ?_⟩) k2 ?_
        · intro w2 hSw; go_simp
        simp only [Act.put, List.setIfInBounds_toArray, List.set_cons_zero, List.set_cons_succ]
        refine wpAnyH_done (by kernel_rfl) ?_ _
        go_wp2_with fail
        go_meet
        exact ⟨HSUM.out, k2.1⟩
  case rest =>
    obtain ⟨rfl, hb⟩ := hcut
    rename World => w8
    clear hK hS0 hS1 u95 i95 zz C0
    have z68 := hb.size
    replace R0 := R0.below hb R0.lt; replace L0 := L0.trans (hb.mono L0.size); replace X0 := X0.below hb X0.lt; replace T := T.below hb (by omega); replace P0 := P0.below hb P0.lt
    clear hb A0 r0 r1 r2 r3
    by_cases hall : (am && decide (0 ≤ f) && decide (l2.length + l3.length < 6)) = true
    rotate_left
    · replace hall : (am && decide (0 ≤ f) && decide (l2.length + l3.length < 6)) = false := by simpa using hall
      rw [hall]
      have HE : Hid ((unfB l0 l1 l2 l3 (k : Int)) = false) := by show (unfB l0 l1 l2 l3 (k : Int)) = false; unfold unfB; rw [Int.toNat_natCast, HOPV.out, hff.out, Bool.and_assoc, Bool.and_assoc, Bool.and_assoc, ← Bool.and_assoc am, hall]; simp
      obtain ⟨F, FO⟩ := R0.fill (.slice none 0 0) (.slice none 0 0) (.slice none 0 0) (.slice none 0 0)
      have j0' := R0.c0; have j1' := R0.c1; have j2' := R0.c2; have j3' := R0.c3
      have g0 := R0.f0; have g1 := R0.f1; have g2 := R0.f2; have g3 := R0.f3
      go_wp2
      have i0 := F.c0; have i1 := F.c1; have i2 := F.c2; have i3 := F.c3
      refine bodyPost_ret (v := .tuple #[.agg #[.slice none 0 0, .slice none 0 0, .slice none 0 0, .slice none 0 0], .bool false]) ?_ rfl ⟨none, none, none, none, 0, 0, 0, 0, by rw [HE.out]; rfl, ?_, ?_⟩
      · simp [results, Try.results90, go_sem, i0, i1, i2, i3]
      · rw [HE.out]; exact (Four.none _ w.heap.size).mono (Nat.le_refl _) (by have := FO.size; have := L0.size; omega)
      · exact L0.trans (FO.below (by omega) L0.size)

    rw [hall]
    obtain ⟨⟨ham1, hf0⟩, hlt6⟩ : (am = true ∧ 0 ≤ f) ∧ l2.length + l3.length < 6 := by simpa using hall
    have HE : Hid (unfB l0 l1 l2 l3 (k : Int) = true) := by
      show unfB l0 l1 l2 l3 (k : Int) = true
      unfold unfB
      rw [Int.toNat_natCast, HT.out, HOPV.out, hff.out, ham1, decide_eq_true hf0, decide_eq_true hlt6, decide_eq_true (by omega)]
      rfl
    clear hall ham1 hlt6
    obtain ⟨s0, u0, s1, u1, s2, u2, s3, u3, ⟨f0a, f0b, F0⟩, ⟨f1a, f1b, F1⟩, ⟨f2a, f2b, F2⟩, ⟨f3a, f3b, F3⟩, d01, d02, d03, d12, d13, d23⟩ := T
    have e3 : ((l3.take k ++ l3.drop (k + 1))).length = (k + (l3.length - (k + 1))) := by simp; omega
    -- Cells
    have x2 := X0.c2
    have y0' := P0.c0
    have zX8 := X0.lt
    have zD8 := P0.lt
    go_wp2_with fail
    have al : Below w8.heap.size w8 (w8.alloc (.cells #[.int .i64 (s : Int), .int .i64 f] 69)) := (Below.refl _ _).alloc (Nat.le_refl _) _
    have K8 := own_pair w8 (s : Int) f
    refine (behind_any p2 (some ⟨w8.heap.size, 0, none⟩) l2.length 1 q2 1 l2 [((s : Int), f)] _ rfl rfl (by omega) (F2.row.below al (Nat.le_refl _)) K8.row y2.1 (fun e => by cases e)).mono ?_
    rintro e w9 ⟨pC, qC, rfl, G2, _, hb⟩
    have bb : Below w8.heap.size w8 w9 := al.trans (hb.mono al.size)
    have z89 := al.size
    replace G2 := G2.mono z89 (Nat.le_refl _)
    have z9 := bb.size
    replace R0 := R0.below bb R0.lt; replace L0 := L0.trans (bb.mono L0.size); replace X0 := X0.below bb X0.lt; replace P0 := P0.below bb P0.lt
    replace F0 := F0.below bb (by omega); replace F1 := F1.below bb (by omega); replace F3 := F3.below bb (by omega)
    clear bb hb al K8 x2 y0' F2
    have x2 := X0.c2; have xf := X0.f2
    go_upto_region 10 with fail
    have ho := Out.set X 2 w9 (.slice pC (l2.length + 1) qC)
    replace X0 := X0.set2 (.slice pC (l2.length + 1) qC)
    replace R0 := R0.out ho (.inl (by omega)); replace L0 := L0.trans (ho.below (by omega) L0.size); replace P0 := P0.out ho (.inr (by omega))
    replace F0 := F0.out ho (.inl (by omega)); replace F1 := F1.out ho (.inl (by omega)); replace F3 := F3.out ho (.inl (by omega)); replace G2 := G2.out ho (.inr (by omega))
    have hsz : w9.heap.size ≤ (w9.setCell ⟨X, 2, none⟩ (.slice pC (l2.length + 1) qC)).heap.size := ho.size
    clear ho x2 xf
    generalize w9.setCell ⟨X, 2, none⟩ (.slice pC (l2.length + 1) qC) = wA at *
    -- Segs
    have x3 := X0.c3
    have y1' := P0.c1
    have zXA := X0.lt
    have zDA := P0.lt
    go_wp2_with fail
    have al : Below wA.heap.size wA (wA.alloc (.cells #[.int .i64 f, .int .i64 (t : Int)] 69)) := (Below.refl _ _).alloc (Nat.le_refl _) _
    have K8 := own_pair wA f (t : Int)
    refine (behind_any p3 (some ⟨wA.heap.size, 0, none⟩) (k + (l3.length - (k + 1))) 1 q3 1 (l3.take k ++ l3.drop (k + 1)) [(f, (t : Int))] _ e3 rfl (by omega) (F3.row.below al (Nat.le_refl _)) K8.row y3.1 (fun e => by cases e)).mono ?_
    rintro e wB ⟨pS, qS, rfl, G3, _, hb⟩
    have bb : Below wA.heap.size wA wB := al.trans (hb.mono al.size)
    have zAB := al.size
    replace G3 := G3.mono zAB (Nat.le_refl _)
    have zB := bb.size
    replace R0 := R0.below bb R0.lt; replace L0 := L0.trans (bb.mono L0.size); replace X0 := X0.below bb X0.lt
    replace F0 := F0.below bb (by omega); replace F1 := F1.below bb (by omega); replace G2 := G2.below bb (by omega)
    clear bb hb al K8 x3 y1' F3 P0
    have x3 := X0.c3; have xf := X0.f3
    go_upto_region 11 with fail
    have ho := Out.set X 3 wB (.slice pS ((k + (l3.length - (k + 1))) + 1) qS)
    replace X0 := X0.set3 (.slice pS ((k + (l3.length - (k + 1))) + 1) qS)
    replace R0 := R0.out ho (.inl (by omega)); replace L0 := L0.trans (ho.below (by omega) L0.size)
    replace F0 := F0.out ho (.inl (by omega)); replace F1 := F1.out ho (.inl (by omega)); replace G2 := G2.out ho (.inr (by omega)); replace G3 := G3.out ho (.inr (by omega))
    have hsz2 : wB.heap.size ≤ (wB.setCell ⟨X, 3, none⟩ (.slice pS ((k + (l3.length - (k + 1))) + 1) qS)).heap.size := ho.size
    clear ho x3 xf
    generalize wB.setCell ⟨X, 3, none⟩ (.slice pS ((k + (l3.length - (k + 1))) + 1) qS) = wC at *
    obtain ⟨F, FO⟩ := R0.fill (.slice p0 l0.length q0) (.slice p1 l1.length q1) (.slice pC (l2.length + 1) qC) (.slice pS ((k + (l3.length - (k + 1))) + 1) qS)
    have x0 := X0.c0; have x1 := X0.c1; have x2 := X0.c2; have x3 := X0.c3
    have j0' := R0.c0; have j1' := R0.c1; have j2' := R0.c2; have j3' := R0.c3
    have g0 := R0.f0; have g1 := R0.f1; have g2 := R0.f2; have g3 := R0.f3
    go_wp2
    have i0 := F.c0; have i1 := F.c1; have i2 := F.c2; have i3 := F.c3
    have EL2 : (unfC l2 (l3.getD k (0, 0)) f).length = l2.length + 1 := by simp [unfC]
    have EL3 : (unfS l3 k (l3.getD k (0, 0)) f).length = (k + (l3.length - (k + 1))) + 1 := by simp [unfS]; omega
    refine bodyPost_ret (v := .tuple #[.agg #[.slice p0 l0.length q0, .slice p1 l1.length q1, .slice pC (l2.length + 1) qC, .slice pS ((k + (l3.length - (k + 1))) + 1) qS], .bool true]) ?_ rfl ⟨p0, p1, pC, pS, q0, q1, qC, qS, by rw [HE.out, Int.toNat_natCast, hff.out]; simp only [okL, if_true, EL2, EL3], ?_, ?_⟩
    · simp [results, Try.results90, go_sem, i0, i1, i2, i3]
    · rw [HE.out, Int.toNat_natCast, hff.out]
      simp only [okL, if_true, EL2, EL3]
      rw [HSG.out]
      have hfs := FO.size
      refine ⟨s0, u0, s1, u1, w8.heap.size, w9.heap.size, wA.heap.size, wB.heap.size, ⟨by omega, by omega, F0.out FO (.inr (by omega))⟩, ⟨by omega, by omega, F1.out FO (.inr (by omega))⟩, ⟨by omega, by omega, G2.out FO (.inr (by omega))⟩, ⟨by omega, by omega, G3.out FO (.inr (by omega))⟩, d01, .inl (by omega), .inl (by omega), .inl (by omega), .inl (by omega), .inl (by omega)⟩
    · exact L0.trans (FO.below (by omega) L0.size)

end Go.Proofs.Ytphchdjbhbmnbaa
namespace Go.Proofs.Ytphchdjbhbmnbaa
open Go.RowKit
set_option linter.unusedVariables false

set_option maxRecDepth 20000 in
set_option maxHeartbeats 4000000 in
theorem ownCopy_any (a0 a1 a2 a3 : Option Addr) (c0 c1 c2 c3 : Nat) (l0 l1 l2 l3 : List (Int × Int)) (w : World) (n0 : l0.length ≤ 1048576) (n1 : l1.length ≤ 1048576) (n2 : l2.length ≤ 1048576) (n3 : l3.length ≤ 1048576) (r0 : PRow w a0 l0) (r1 : PRow w a1 l1) (r2 : PRow w a2 l2) (r3 : PRow w a3 l3) (z0 : CapZ a0 l0.length c0) (z1 : CapZ a1 l1.length c1) (z2 : CapZ a2 l2.length c2) (z3 : CapZ a3 l3.length c3) :
    Calls Try.prog 176 #[.agg #[.slice a0 l0.length c0, .slice a1 l1.length c1, .slice a2 l2.length c2, .slice a3 l3.length c3]] w fun e w' => ∃ p0 p1 p2 p3 q0 q1 q2 q3, e = .returned (.agg #[.slice p0 l0.length q0, .slice p1 l1.length q1, .slice p2 l2.length q2, .slice p3 l3.length q3]) ∧ Four w' w.heap.size w'.heap.size p0 p1 p2 p3 l0.length l1.length l2.length l3.length l0 l1 l2 l3 ∧ (CapZ p0 l0.length q0 ∧ CapZ p1 l1.length q1 ∧ CapZ p2 l2.length q2 ∧ CapZ p3 l3.length q3) ∧ Below w.heap.size w w' := by
  have A0 := (Box.new w (.slice a0 l0.length c0) (.slice a1 l1.length c1) (.slice a2 l2.length c2) (.slice a3 l3.length c3) 28).alloc (.cells #[.slice none 0 0, .slice none 0 0, .slice none 0 0, .slice none 0 0] 28)
  have R0 := Box.new (w.alloc (.cells #[.slice a0 l0.length c0, .slice a1 l1.length c1, .slice a2 l2.length c2, .slice a3 l3.length c3] 28)) (.slice none 0 0) (.slice none 0 0) (.slice none 0 0) (.slice none 0 0) 28
  have L0 : Below w.heap.size w ((w.alloc (.cells #[.slice a0 l0.length c0, .slice a1 l1.length c1, .slice a2 l2.length c2, .slice a3 l3.length c3] 28)).alloc (.cells #[.slice none 0 0, .slice none 0 0, .slice none 0 0, .slice none 0 0] 28)) := ((Below.refl _ _).alloc (Nat.le_refl _) _).alloc (by simp) _
  rw [World.size_alloc] at R0
  have HK : Hid (∀ k : Int, PRow w (kindO a0 a1 a2 a3 k) (kindL l0 l1 l2 l3 k) ∧ (kindL l0 l1 l2 l3 k).length ≤ 1048576 ∧ CapZ (kindO a0 a1 a2 a3 k) (kindL l0 l1 l2 l3 k).length (kindB c0 c1 c2 c3 k)) := kind_prow r0 r1 r2 r3 n0 n1 n2 n3 z0 z1 z2 z3
  clear r0 r1 r2 r3 z0 z1 z2 z3
  go_enter Try.func176, Try.ntmps176
  have A0c0 := A0.c0; have A0c1 := A0.c1; have A0c2 := A0.c2; have A0c3 := A0.c3
  go_wp2_with fail
  clear A0c0 A0c1 A0c2 A0c3
  refine (listsOf_any _ _ _ _ _ ⟨_, _, _, rfl⟩ ⟨_, _, _, rfl⟩ ⟨_, _, _, rfl⟩ ⟨_, _, _, rfl⟩).mono ?_
  rintro e wx ⟨rfl, hb⟩
  have zR0 := R0.lt
  replace R0 := R0.below hb R0.lt; replace L0 := L0.trans (hb.mono L0.size)
  have zx := hb.size
  clear hb A0
  have V1 := VRow.new wx (.slice a0 l0.length c0) (.slice a1 l1.length c1) (.slice a2 l2.length c2) (.slice a3 l3.length c3) 88 (fun j => .slice (kindO a0 a1 a2 a3 j) (kindL l0 l1 l2 l3 j).length (kindB c0 c1 c2 c3 j)) rfl rfl rfl rfl
  have al : Below wx.heap.size wx (wx.alloc (.cells #[.slice a0 l0.length c0, .slice a1 l1.length c1, .slice a2 l2.length c2, .slice a3 l3.length c3] 88)) := (Below.refl _ _).alloc (Nat.le_refl _) _
  have zO : wx.heap.size < (wx.alloc (.cells #[.slice a0 l0.length c0, .slice a1 l1.length c1, .slice a2 l2.length c2, .slice a3 l3.length c3] 88)).heap.size := by simp
  have zR : w.heap.size + 1 < wx.heap.size := Nat.lt_of_lt_of_le zR0 zx
  replace R0 := R0.below al R0.lt; replace L0 := L0.trans (al.mono L0.size)
  clear al zx zR0
  go_upto_region 3 with fail
  generalize wx.alloc (.cells #[.slice a0 l0.length c0, .slice a1 l1.length c1, .slice a2 l2.length c2, .slice a3 l3.length c3] 88) = w3 at *
  generalize wx.heap.size = O at *
  go_loopw [7] (fun x wr => ∃ q : Nat, q ≤ 4 ∧ x = .int .i64 q ∧ ∃ V H, VRow wr O V ∧ (∀ j, q ≤ j → j < 4 → V j = .slice (kindO a0 a1 a2 a3 (j : Int)) (kindL l0 l1 l2 l3 (j : Int)).length (kindB c0 c1 c2 c3 (j : Int))) ∧ FilC (fun j => kindL l0 l1 l2 l3 (j : Int)) w3.heap.size wr V H q ∧ Out O (O + 1) w3 wr) (fun x _ => 4 - (intOf x).toNat)
  case atStart => exact ⟨0, Nat.zero_le _, rfl, _, _, V1, fun j _ _ => rfl, FilC.start _ _ _, Out.refl _ _ _⟩
  case round =>
    clear V1
    obtain ⟨q, hq, rfl, V, H, hV, hE, hF, hO⟩ := hrel
    by_cases hlt : q < 4
    · obtain ⟨rk, nk, zk⟩ := HK.out q
      have bO : Below w.heap.size w wr := L0.trans (hO.below (by omega) L0.size)
      replace rk := rk.below bO (Nat.le_refl _)
      have hc := (hV.2 q hlt).1
      rw [hE q (Nat.le_refl _) hlt] at hc
      have HST : Hid (∀ (w' : World) (a : Option Addr) (c : Nat), Out O (O + 1) wr w' → RowIn w' wr.heap.size w'.heap.size a (kindL l0 l1 l2 l3 (q : Int)).length (kindL l0 l1 l2 l3 (q : Int)) → CapZ a (kindL l0 l1 l2 l3 (q : Int)).length c → ∃ H', FilC (fun j => kindL l0 l1 l2 l3 (j : Int)) w3.heap.size w' (fun j => if j = q then .slice a (kindL l0 l1 l2 l3 (q : Int)).length c else V j) H' (q + 1)) := fun w' a c ho hr hz => ⟨_, hF.step zO ho hr hz⟩
      have HE2 : Hid (∀ (v : Value) j, q + 1 ≤ j → j < 4 → (if j = q then v else V j) = .slice (kindO a0 a1 a2 a3 (j : Int)) (kindL l0 l1 l2 l3 (j : Int)).length (kindB c0 c1 c2 c3 (j : Int))) := fun v j h1 h2 => by rw [if_neg (by omega)]; exact hE j (by omega) h2
      clear hF hE bO
      have hq4 : (q : Int) < 4 := by omega
      have hS : O < wr.heap.size := hV.1
      generalize (kindL l0 l1 l2 l3 (q : Int)) = lq at *
      generalize (kindB c0 c1 c2 c3 (q : Int)) = cc at *
      generalize (kindO a0 a1 a2 a3 (q : Int)) = aq at *
      go_wp2_with fail
      refine (copy_cap _ _ _ lq _ rfl (by omega) rk zk.1).mono ?_
      rintro e w4 ⟨a, cq, rfl, hr, hz, hb⟩
      clear hc
      have hV4 := hV.below hb hV.1
      have cO := (hV4.2 q hlt).1; have fO := (hV4.2 q hlt).2
      have hO4 : Out O (O + 1) wr (w4.setCell ⟨O, q, none⟩ (.slice a lq.length cq)) := (Out.ofBelow hb).trans (Out.set O q w4 _)
      have HV5 : Hid (VRow (w4.setCell ⟨O, q, none⟩ (.slice a lq.length cq)) O (fun j => if j = q then .slice a lq.length cq else V j)) := hV4.put q (.slice a lq.length cq)
      have hr5 := hr.out (Out.set O q w4 (.slice a lq.length cq)) (.inr (by omega))
      obtain ⟨H', hF'⟩ := HST.out _ a cq hO4 (by simpa using hr5) hz
      have HF' := (show Hid (FilC (fun j => kindL l0 l1 l2 l3 (j : Int)) w3.heap.size (w4.setCell ⟨O, q, none⟩ (.slice a lq.length cq)) (fun j => if j = q then .slice a lq.length cq else V j) H' (q + 1)) from hF')
      have HO5 : Hid (Out O (O + 1) w3 (w4.setCell ⟨O, q, none⟩ (.slice a lq.length cq))) := hO.trans hO4
      clear hF' hr hr5 hb hV4 hV HST hO4 hO
      go_wp2
      go_roundw
      case rel => exact ⟨q + 1, by omega, by go_num, _, H', HV5.out, HE2.out _, HF'.out, HO5.out⟩
      case measure => simp [intOf]; omega
    · obtain rfl : q = 4 := by omega
      obtain ⟨a0', a1', a2', a3', e0, e1, e2, e3, x0, x1, x2, x3, u0, u1, u2, u3, T⟩ := hF.done hV
      have R4 := R0.out hO (.inl (by omega))
      have L4 := L0.trans (hO.below (by omega) L0.size)
      have zM := hO.size
      have zL := L0.size
      clear hF hV hE hO HK R0 L0
      try dsimp only at x0 x1 x2 x3 T u0 u1 u2 u3
      have s0 : kindL l0 l1 l2 l3 ((0 : Nat) : Int) = l0 := rfl
      have s1 : kindL l0 l1 l2 l3 ((1 : Nat) : Int) = l1 := rfl
      have s2 : kindL l0 l1 l2 l3 ((2 : Nat) : Int) = l2 := rfl
      have s3 : kindL l0 l1 l2 l3 ((3 : Nat) : Int) = l3 := rfl
      rw [s0] at x0 T u0; rw [s1] at x1 T u1; rw [s2] at x2 T u2; rw [s3] at x3 T u3
      clear s0 s1 s2 s3
      go_wp2_with fail
      refine (asnOf_any _ _ _ _ _ _ _ _ _ _ _ _ _).mono ?_
      rintro e w5 ⟨rfl, hb⟩
      have R5 := R4.below hb R4.lt
      have L5 := L4.trans (hb.mono L4.size)
      have zz := hb.size
      replace T := T.below hb (Nat.le_refl _)
      clear hb R4 L4 x0 x1 x2 x3
      obtain ⟨F, FO⟩ := R5.fill (.slice a0' l0.length e0) (.slice a1' l1.length e1) (.slice a2' l2.length e2) (.slice a3' l3.length e3)
      have j0' := R5.c0; have j1' := R5.c1; have j2' := R5.c2; have j3' := R5.c3
      have g0 := R5.f0; have g1 := R5.f1; have g2 := R5.f2; have g3 := R5.f3
      go_wp2
      have i0 := F.c0; have i1 := F.c1; have i2 := F.c2; have i3 := F.c3
      have fz := FO.size
      refine bodyPost_ret (v := .agg #[.slice a0' l0.length e0, .slice a1' l1.length e1, .slice a2' l2.length e2, .slice a3' l3.length e3]) ?_ rfl ⟨a0', a1', a2', a3', e0, e1, e2, e3, rfl, ?_, ?_, ?_⟩
      · simp [results, Try.results176, go_sem, i0, i1, i2, i3]
      · exact (T.out FO (.inr (by omega))).mono (by omega) (by omega)
      · exact ⟨u0, u1, u2, u3⟩
      · exact L5.trans (FO.below (by omega) L5.size)

end Go.Proofs.Ytphchdjbhbmnbaa
namespace Go.Proofs.Ytphchdjbhbmnbaa
open Go.RowKit
theorem keepH {q x b : Nat} {z : List Value} {v y0 y1 y2 y3 : Value} {w w1 w2 : World}
    (h : Below w.heap.size w w1 ∧ w1.rangeAt q 0 z ∧ w1.cell? ⟨q, x, none⟩ = some v ∧ w1.cell? ⟨b, 0, none⟩ = some y0 ∧ w1.cell? ⟨b, 1, none⟩ = some y1 ∧ w1.cell? ⟨b, 2, none⟩ = some y2 ∧ w1.cell? ⟨b, 3, none⟩ = some y3)
    (hb : Below w1.heap.size w1 w2) (h1 : q < w1.heap.size) (h2 : b < w1.heap.size) :
    Below w.heap.size w w2 ∧ w2.rangeAt q 0 z ∧ w2.cell? ⟨q, x, none⟩ = some v ∧ w2.cell? ⟨b, 0, none⟩ = some y0 ∧ w2.cell? ⟨b, 1, none⟩ = some y1 ∧ w2.cell? ⟨b, 2, none⟩ = some y2 ∧ w2.cell? ⟨b, 3, none⟩ = some y3 := by
  obtain ⟨a1, a2, a3, a4, a5, a6, a7⟩ := h
  refine ⟨a1.trans (hb.mono a1.size), fun j v hv => ?_, ?_, ?_, ?_, ?_, ?_⟩
  · rw [hb.cell (p := ⟨q, _, none⟩) h1]; exact a2 j v hv
  · rw [hb.cell (p := ⟨q, _, none⟩) h1]; exact a3
  · rw [hb.cell (p := ⟨b, _, none⟩) h2]; exact a4
  · rw [hb.cell (p := ⟨b, _, none⟩) h2]; exact a5
  · rw [hb.cell (p := ⟨b, _, none⟩) h2]; exact a6
  · rw [hb.cell (p := ⟨b, _, none⟩) h2]; exact a7
def headAtA (l0 l1 l2 l3 : List (Int × Int)) (x : Int) : Int := if (asnB l0 l1 l2 l3 && tok x) = true then idxV (headsV (clsV l0) l2 l3) ((clsV l0).getD x.toNat 0) else -1

set_option maxRecDepth 3000 in
set_option maxHeartbeats 1000000 in
theorem sHeadAt_any (a0 a1 a2 a3 : Option Addr) (c0 c1 c2 c3 : Nat) (l0 l1 l2 l3 : List (Int × Int)) (x : Int) (w : World)
    (n0 : l0.length ≤ 1048576) (n1 : l1.length ≤ 1048576) (n2 : l2.length ≤ 1048576) (n3 : l3.length ≤ 1048576)
    (r0 : PRow w a0 l0) (r1 : PRow w a1 l1) (r2 : PRow w a2 l2) (r3 : PRow w a3 l3) :
    Calls Try.prog 78 #[.agg #[.slice a0 l0.length c0, .slice a1 l1.length c1, .slice a2 l2.length c2, .slice a3 l3.length c3], .int .i64 x] w fun e w' => e = .returned (.int .i64 (headAtA l0 l1 l2 l3 x)) ∧ Below w.heap.size w w' := by
  have B0 := Box.new w (.slice a0 l0.length c0) (.slice a1 l1.length c1) (.slice a2 l2.length c2) (.slice a3 l3.length c3) 28
  have L0 : Below w.heap.size w (w.alloc (.cells #[.slice a0 l0.length c0, .slice a1 l1.length c1, .slice a2 l2.length c2, .slice a3 l3.length c3] 28)) := (Below.refl _ _).alloc (Nat.le_refl _) _
  go_enter Try.func78, Try.ntmps78
  go_wp2_with fail
  refine (sAsnOk_any _ _ _ _ _ _ _ _ _ _ _ _ _ n0 n1 n2 n3 (by exact r0.below L0 (Nat.le_refl _)) (by exact r1.below L0 (Nat.le_refl _)) (by exact r2.below L0 (Nat.le_refl _)) (by exact r3.below L0 (Nat.le_refl _))).mono ?_
  rintro e w1 ⟨rfl, hb⟩
  have B1 := B0.below hb B0.lt; have L1 := L0.trans (hb.mono L0.size)
  clear hb B0 L0
  cases ha : asnB l0 l1 l2 l3
  · have HE : Hid (headAtA l0 l1 l2 l3 x = -1) := by unfold Hid headAtA; rw [ha]; rfl
    go_wp2
    go_ret
    exact ⟨by rw [HE.out]; rfl, L1⟩
  go_wp2_with fail
  refine (sTermOk_any x _).mono ?_
  rintro e wz ⟨rfl, rfl⟩
  cases hx : tok x
  · have HE : Hid (headAtA l0 l1 l2 l3 x = -1) := by unfold Hid headAtA; rw [ha, hx]; rfl
    go_wp2
    go_ret
    exact ⟨by rw [HE.out]; rfl, L1⟩
  have HE : Hid (headAtA l0 l1 l2 l3 x = idxV (headsV (clsV l0) l2 l3) ((clsV l0).getD x.toNat 0)) := by unfold Hid headAtA; rw [ha, hx]; rfl
  have ht := asnB_tokA ha
  have HLE : Hid ((headsV (clsV l0) l2 l3).length ≤ 1048576) := by have := headsA_le l0 l1 l2 l3; unfold headsA at this; rw [if_pos ha] at this; exact this
  have HC := (Cls.all ht.1).1
  replace HC : Hid ((clsV l0).length = 16) := HC
  have hxx := tok_iff.1 hx
  obtain ⟨x, rfl⟩ := Int.eq_ofNat_of_zero_le hxx.1
  rw [Int.toNat_natCast] at HE
  obtain ⟨hx0, hx1⟩ := hxx
  clear hx ha
  have x0 := B1.c0; have x1 := B1.c1; have x2 := B1.c2; have x3 := B1.c3
  go_wp2_with fail
  refine (l3classes_any _ _ _ _ _ _ _ _ _ _ _ _ _ n0 ht.1 (by exact r0.below L1 (Nat.le_refl _))).mono ?_
  rintro e w2 ⟨b, cp, rfl, hbb, O, hb⟩
  have L2 := L1.trans (hb.mono L1.size)
  have B2 := B1.below hb B1.lt
  clear hb B1 L1 x0 x1 x2 x3
  generalize clsV l0 = c at *
  have x0 := B2.c0; have x1 := B2.c1; have x2 := B2.c2; have x3 := B2.c3
  go_wp2_with fail
  refine (l3heads_any _ _ _ _ _ _ _ _ _ _ _ _ b cp c HC.out _ n2 n3 ht.2.2.1 ht.2.2.2 (by exact r2.below L2 (Nat.le_refl _)) (by exact r3.below L2 (Nat.le_refl _)) (by exact O)).mono ?_
  rintro e w3 ⟨ag, cg, rfl, G, hb⟩
  have O3 := O.below hb O.1
  have L3 := L2.trans (hb.mono L2.size)
  clear hb B2 L2 x0 x1 x2 x3 O
  have eu := O3.2.2 x (by omega)
  generalize c.getD x 0 = u at *
  generalize hh : headsV c l2 l3 = hs at *
  clear hh
  obtain ⟨_, hr⟩ := G
  have hn := HLE.out
  generalize hn2 : hs.length = n at *
  replace hn2 : Hid (hs.length = n) := hn2
  go_wp2_with fail
  go_loopw [7] (fun i wr => ∃ k : Nat, k ≤ n ∧ i = .int .i64 k ∧ Hid (∀ j, j < k → ¬ hs.getD j 0 = u) ∧ Below w3.heap.size w3 wr) (fun i _ => n - (intOf i).toNat)
  case atStart => exact ⟨0, Nat.zero_le _, rfl, fun j hj => absurd hj (Nat.not_lt_zero _), Below.refl _ _⟩
  case round =>
    obtain ⟨k, hk, rfl, HM, hbw⟩ := hrel
    by_cases hlt : k < n
    · rcases hr with h0 | ⟨bh, rfl, _, _, OH⟩
      · omega
      have ev : wr.cell? ⟨bh, k, none⟩ = some (.int .i64 (hs.getD k 0)) := by rw [hbw.cell (p := ⟨bh, k, none⟩) OH.1]; exact OH.2.2 k hlt
      have eu2 : wr.cell? ⟨b, x, none⟩ = some (.int .i64 u) := by rw [hbw.cell (p := ⟨b, x, none⟩) O3.1]; exact eu
      have hkn : (k : Int) < (n : Int) := by omega
      have hk0 : (0 : Int) ≤ (k : Int) := by omega
      have HHIT : Hid (hs.getD k 0 = u → idxV hs u = (k : Int)) := fun e => (idx_hit (by have := hn2.out; omega) HM.out e).1
      have HM2 : Hid (¬ hs.getD k 0 = u → ∀ j, j < k + 1 → ¬ hs.getD j 0 = u) := by
        intro hf j hj
        by_cases e : j = k
        · subst e; exact hf
        · exact HM.out j (by omega)
      generalize hs.getD k 0 = z at *
      go_wp2_with fail
      have hS0 : Below w3.heap.size w3 wr.drew ∧ wr.drew.cell? ⟨bh, k, none⟩ = some (.int .i64 z) ∧ wr.drew.cell? ⟨b, x, none⟩ = some (.int .i64 u) := ⟨hbw.drew, ev, eu2⟩
      go_region_held3 (fun w' => Below w3.heap.size w3 w' ∧ w'.cell? ⟨bh, k, none⟩ = some (.int .i64 z) ∧ w'.cell? ⟨b, x, none⟩ = some (.int .i64 u))
        (first | exact hS0 | assumption | (refine ⟨?_, ?_, ?_⟩ <;> assumption))
        (fail)
      replace hbw := hS0.1
      clear hS0 ev eu2
      generalize wr.drew = wd at *
      by_cases hf : z = u
      · have HV := HHIT.out hf
        replace HV : Hid (idxV hs u = (k : Int)) := HV
        have L4 := L3.trans (hbw.mono L3.size)
        go_wp2
        go_ret
        exact ⟨by rw [HE.out, HV.out]; rfl, L4⟩
      · have HM3 : Hid (∀ j, j < k + 1 → ¬ hs.getD j 0 = u) := HM2.out hf
        go_wp2
        go_roundw
        case rel => exact ⟨k + 1, by omega, by go_num, HM3, hbw⟩
        case measure => simp [intOf]; omega
    · have HV : Hid (idxV hs u = -1) := (idx_none (fun j hj => HM.out j (by have := hn2.out; omega))).1
      have hge : ¬ ((k : Int) < (n : Int)) := by omega
      have L4 := L3.trans (hbw.mono L3.size)
      go_wp2
      go_ret
      exact ⟨by rw [HE.out, HV.out]; rfl, L4⟩

set_option maxRecDepth 3000 in
set_option maxHeartbeats 1000000 in
theorem iHeadAt_any (a0 a1 a2 a3 : Option Addr) (c0 c1 c2 c3 : Nat) (l0 l1 l2 l3 : List (Int × Int)) (x : Int) (w : World)
    (n0 : l0.length ≤ 1048576) (n1 : l1.length ≤ 1048576) (n2 : l2.length ≤ 1048576) (n3 : l3.length ≤ 1048576)
    (r0 : PRow w a0 l0) (r1 : PRow w a1 l1) (r2 : PRow w a2 l2) (r3 : PRow w a3 l3) :
    Calls Try.prog 79 #[.agg #[.slice a0 l0.length c0, .slice a1 l1.length c1, .slice a2 l2.length c2, .slice a3 l3.length c3], .int .i64 x] w fun e w' => e = .returned (.int .i64 (headAtA l0 l1 l2 l3 x)) ∧ Below w.heap.size w w' := by
  have B0 := Box.new w (.slice a0 l0.length c0) (.slice a1 l1.length c1) (.slice a2 l2.length c2) (.slice a3 l3.length c3) 28
  have L0 : Below w.heap.size w (w.alloc (.cells #[.slice a0 l0.length c0, .slice a1 l1.length c1, .slice a2 l2.length c2, .slice a3 l3.length c3] 28)) := (Below.refl _ _).alloc (Nat.le_refl _) _
  go_enter Try.func79, Try.ntmps79
  go_wp2_with fail
  refine (iAsnOk_any _ _ _ _ _ _ _ _ _ _ _ _ _ n0 n1 n2 n3 (by exact r0.below L0 (Nat.le_refl _)) (by exact r1.below L0 (Nat.le_refl _)) (by exact r2.below L0 (Nat.le_refl _)) (by exact r3.below L0 (Nat.le_refl _))).mono ?_
  rintro e w1 ⟨rfl, hb⟩
  have B1 := B0.below hb B0.lt; have L1 := L0.trans (hb.mono L0.size)
  clear hb B0 L0
  cases ha : asnB l0 l1 l2 l3
  · have HE : Hid (headAtA l0 l1 l2 l3 x = -1) := by unfold Hid headAtA; rw [ha]; rfl
    go_wp2
    go_ret
    exact ⟨by rw [HE.out]; rfl, L1⟩
  go_wp2_with fail
  refine (iTermOk_any x _).mono ?_
  rintro e wz ⟨rfl, rfl⟩
  cases hx : tok x
  · have HE : Hid (headAtA l0 l1 l2 l3 x = -1) := by unfold Hid headAtA; rw [ha, hx]; rfl
    go_wp2
    go_ret
    exact ⟨by rw [HE.out]; rfl, L1⟩
  have HE : Hid (headAtA l0 l1 l2 l3 x = idxV (headsV (clsV l0) l2 l3) ((clsV l0).getD x.toNat 0)) := by unfold Hid headAtA; rw [ha, hx]; rfl
  have ht := asnB_tokA ha
  have HLE : Hid ((headsV (clsV l0) l2 l3).length ≤ 1048576) := by have := headsA_le l0 l1 l2 l3; unfold headsA at this; rw [if_pos ha] at this; exact this
  have HC := (Cls.all ht.1).1
  replace HC : Hid ((clsV l0).length = 16) := HC
  have hxx := tok_iff.1 hx
  obtain ⟨x, rfl⟩ := Int.eq_ofNat_of_zero_le hxx.1
  rw [Int.toNat_natCast] at HE
  obtain ⟨hx0, hx1⟩ := hxx
  clear hx ha
  have x0 := B1.c0; have x1 := B1.c1; have x2 := B1.c2; have x3 := B1.c3
  go_wp2_with fail
  refine (classesOf_any _ _ _ _ _ _ _ _ _ _ _ _ _ n0 ht.1 (by exact r0.below L1 (Nat.le_refl _))).mono ?_
  rintro e w2 ⟨rfl, hb⟩
  have L2 := L1.trans (hb.mono L1.size)
  have B2 := B1.below hb B1.lt
  clear hb B1 L1 x0 x1 x2 x3
  unfold aV
  dsimp only
  iterate 4 go_step
  have Z := OwnI.zeros w2 102
  refine ws67 rfl (.tmp 5) (.tmp 15) rfl _ rfl (clsV l0) _ rfl Z HC.out rfl ?_
  have C := Z.setAll HC.out
  have L3 := Below.setCells w2.heap.size L2.size (ic (clsV l0)) 0 _ (L2.alloc L2.size (.cells z16 102))
  have L23 := Below.setCells w2.heap.size (Nat.le_refl _) (ic (clsV l0)) 0 _ ((Below.refl w2.heap.size w2).alloc (Nat.le_refl _) (.cells z16 102))
  have B3 := B2.below L23 B2.lt
  have sb := B2.lt
  clear Z L2 L23 B2
  generalize (w2.alloc (.cells z16 102)).setCells w2.heap.size 0 (ic (clsV l0)) = w3 at *
  have eu := C.2.2 x (by omega)
  generalize clsV l0 = c at *
  generalize c.getD x 0 = u at *
  have hq := C.1
  generalize w2.heap.size = q at *
  go_wp2_with fail
  have hS0 : Below w.heap.size w w3.drew ∧ w3.drew.rangeAt q 0 (ic c) ∧ w3.drew.cell? ⟨q, x, none⟩ = some (.int .i64 u) ∧ w3.drew.cell? ⟨w.heap.size, 0, none⟩ = some (.slice a0 l0.length c0) ∧ w3.drew.cell? ⟨w.heap.size, 1, none⟩ = some (.slice a1 l1.length c1) ∧ w3.drew.cell? ⟨w.heap.size, 2, none⟩ = some (.slice a2 l2.length c2) ∧ w3.drew.cell? ⟨w.heap.size, 3, none⟩ = some (.slice a3 l3.length c3) := ⟨L3.drew, C.drew.range HC.out, eu, B3.c0, B3.c1, B3.c2, B3.c3⟩
  have u67 := Try.underlying102
  have i67 : (Try.prog.info? 102).map (·.size) = some (ic c).length := by rw [ic_length, HC.out]; kernel_rfl
  clear C eu L3 B3
  go_region_held3 (fun w' => Below w.heap.size w w' ∧ w'.rangeAt q 0 (ic c) ∧ w'.cell? ⟨q, x, none⟩ = some (.int .i64 u) ∧ w'.cell? ⟨w.heap.size, 0, none⟩ = some (.slice a0 l0.length c0) ∧ w'.cell? ⟨w.heap.size, 1, none⟩ = some (.slice a1 l1.length c1) ∧ w'.cell? ⟨w.heap.size, 2, none⟩ = some (.slice a2 l2.length c2) ∧ w'.cell? ⟨w.heap.size, 3, none⟩ = some (.slice a3 l3.length c3))
    (first | exact hS0 | assumption | (refine ⟨?_, ?_, ?_, ?_, ?_, ?_, ?_⟩ <;> assumption))
    (first
      | (go_at_call 159; refine (heads_any _ _ _ _ _ _ _ _ _ _ _ _ c HC.out _ n2 n3 ht.2.2.1 ht.2.2.2 (r2.below hS0.1 (Nat.le_refl _)) (r3.below hS0.1 (Nat.le_refl _))).mono ?_; rintro e u0 ⟨ag, cg, rfl, G, h0⟩; have k0 := keepH hS0 h0 (by simpa using hq) (by simp; omega))
      | (go_at_call 169; refine (index_any _ _ _ _ _ _ u _ HLE.out G).mono ?_; rintro e u1 ⟨rfl, rfl⟩))
  all_goals
    go_wp2
    go_ret
    exact ⟨by rw [HE.out]; rfl, k0.1⟩
end Go.Proofs.Ytphchdjbhbmnbaa
