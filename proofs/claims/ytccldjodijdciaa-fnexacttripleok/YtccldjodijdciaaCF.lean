/-
  The small contracts on the fields of a command.
-/
import Derived.Test.YtccldjodijdciaaChecked
import Derived.Test.YtccldjodijdciaaPlain
import Derived.Test.YtccldjodijdciaaSize
import Derived.Test.YtccldjodijdciaaCSz
import Derived.Test.YtccldjodijdciaaSem
import Derived.Outline
namespace Go.Proofs.Ytccldjodijdciaa
open Go.RowKit


theorem l6var_any (x : Int) (w : World) : Calls Try.prog 140 #[.int .i64 x] w fun e w' => e = .returned (.bool (isVar x)) ∧ w' = w := by
  by_cases c1 : 1 ≤ x
  · by_cases c2 : x ≤ 5
    · go_enter Try.func140, Try.ntmps140
      go_wp2
      go_ret
      exact ⟨ret_bool (by simp [isVar]; omega), rfl⟩
    · go_enter Try.func140, Try.ntmps140
      go_wp2
      go_ret
      exact ⟨ret_bool (by simp [isVar]; omega), rfl⟩
  · go_enter Try.func140, Try.ntmps140
    go_wp2
    go_ret
    exact ⟨ret_bool (by simp [isVar]; omega), rfl⟩

theorem l6value_any (x : Int) (w : World) : Calls Try.prog 141 #[.int .i64 x] w fun e w' => e = .returned (.bool (isVal x)) ∧ w' = w := by
  by_cases c1 : 0 ≤ x
  · by_cases c2 : x ≤ 5
    · go_enter Try.func141, Try.ntmps141
      go_wp2
      go_ret
      exact ⟨ret_bool (by simp [isVal]; omega), rfl⟩
    · go_enter Try.func141, Try.ntmps141
      go_wp2
      go_ret
      exact ⟨ret_bool (by simp [isVal]; omega), rfl⟩
  · go_enter Try.func141, Try.ntmps141
    go_wp2
    go_ret
    exact ⟨ret_bool (by simp [isVal]; omega), rfl⟩

theorem isVar_any (x : Int) (w : World) : Calls Try.prog 122 #[.int .i64 x] w fun e w' => e = .returned (.bool (isVar x)) ∧ w' = w := by
  by_cases c1 : 0 < x
  · by_cases c2 : x ≤ 5
    · go_enter Try.func122, Try.ntmps122
      go_wp2
      go_ret
      exact ⟨ret_bool (by simp [isVar]; omega), rfl⟩
    · go_enter Try.func122, Try.ntmps122
      go_wp2
      go_ret
      exact ⟨ret_bool (by simp [isVar]; omega), rfl⟩
  · go_enter Try.func122, Try.ntmps122
    go_wp2
    go_ret
    exact ⟨ret_bool (by simp [isVar]; omega), rfl⟩

theorem isValue_any (x : Int) (w : World) : Calls Try.prog 166 #[.int .i64 x] w fun e w' => e = .returned (.bool (isVal x)) ∧ w' = w := by
  by_cases c0 : x = 0
  · subst c0
    go_enter Try.func166, Try.ntmps166
    go_wp2
    go_ret
    exact ⟨ret_bool (by simp [isVal]), rfl⟩
  · have HB : Hid (isVal x = isVar x) := by show isVal x = isVar x; unfold isVal isVar; rw [Bool.eq_iff_iff]; simp; omega
    go_enter Try.func166, Try.ntmps166
    go_wp2_with fail
    refine (isVar_any _ _).mono ?_
    rintro e w1 ⟨rfl, rfl⟩
    go_wp2
    go_ret
    exact ⟨ret_bool (by simp [HB.out, c0]), rfl⟩

set_option linter.unusedVariables false in
set_option maxHeartbeats 1000000 in
theorem l6none_any (a0 a1 a2 a3 : Option Addr) (n0 n1 n2 n3 c0 c1 c2 c3 : Nat) (w : World) (m0 : n0 ≤ 1048576) (m1 : n1 ≤ 1048576) (m2 : n2 ≤ 1048576) (m3 : n3 ≤ 1048576) :
    Calls Try.prog 139 #[.agg #[.slice a0 n0 c0, .slice a1 n1 c1, .slice a2 n2 c2, .slice a3 n3 c3]] w fun e w' => e = .returned (.bool (decide (n0 + n1 + n2 + n3 = 0))) ∧ Below w.heap.size w w' := by
  have L : Below w.heap.size w (w.alloc (.cells #[.slice a0 n0 c0, .slice a1 n1 c1, .slice a2 n2 c2, .slice a3 n3 c3] 30)) := (Below.refl _ _).alloc (Nat.le_refl _) _
  by_cases k0 : (n0 : Int) = 0
  rotate_left
  · go_enter Try.func139, Try.ntmps139
    go_wp2
    go_ret
    exact ⟨ret_bool (by rw [Bool.eq_iff_iff]; simp; omega), L⟩
  by_cases k1 : (n1 : Int) = 0
  rotate_left
  · go_enter Try.func139, Try.ntmps139
    go_wp2
    go_ret
    exact ⟨ret_bool (by rw [Bool.eq_iff_iff]; simp; omega), L⟩
  by_cases k2 : (n2 : Int) = 0
  rotate_left
  · go_enter Try.func139, Try.ntmps139
    go_wp2
    go_ret
    exact ⟨ret_bool (by rw [Bool.eq_iff_iff]; simp; omega), L⟩
  by_cases k3 : (n3 : Int) = 0
  rotate_left
  · go_enter Try.func139, Try.ntmps139
    go_wp2
    go_ret
    exact ⟨ret_bool (by rw [Bool.eq_iff_iff]; simp; omega), L⟩
  go_enter Try.func139, Try.ntmps139
  go_wp2
  go_ret
  exact ⟨ret_bool (by rw [Bool.eq_iff_iff]; simp; omega), L⟩

set_option linter.unusedVariables false in
set_option maxHeartbeats 1000000 in
theorem l6room_any (a0 a1 a2 a3 : Option Addr) (n0 n1 n2 n3 c0 c1 c2 c3 : Nat) (w : World) (m0 : n0 ≤ 1048576) (m1 : n1 ≤ 1048576) (m2 : n2 ≤ 1048576) (m3 : n3 ≤ 1048576) :
    Calls Try.prog 142 #[.agg #[.slice a0 n0 c0, .slice a1 n1 c1, .slice a2 n2 c2, .slice a3 n3 c3]] w fun e w' => e = .returned (.bool (decide (n0 ≤ 4) && (decide (n1 ≤ 4) && decide (n2 + n3 ≤ 3)))) ∧ Below w.heap.size w w' := by
  have L : Below w.heap.size w (w.alloc (.cells #[.slice a0 n0 c0, .slice a1 n1 c1, .slice a2 n2 c2, .slice a3 n3 c3] 30)) := (Below.refl _ _).alloc (Nat.le_refl _) _
  by_cases k0 : (n0 : Int) ≤ 4
  rotate_left
  · go_enter Try.func142, Try.ntmps142
    go_wp2
    go_ret
    exact ⟨ret_bool (by rw [Bool.eq_iff_iff]; simp; omega), L⟩
  by_cases k1 : (n1 : Int) ≤ 4
  rotate_left
  · go_enter Try.func142, Try.ntmps142
    go_wp2
    go_ret
    exact ⟨ret_bool (by rw [Bool.eq_iff_iff]; simp; omega), L⟩
  by_cases k2 : (n2 : Int) + n3 ≤ 3
  rotate_left
  · go_enter Try.func142, Try.ntmps142
    go_wp2
    go_ret
    exact ⟨ret_bool (by rw [Bool.eq_iff_iff]; simp; omega), L⟩
  go_enter Try.func142, Try.ntmps142
  go_wp2
  go_ret
  exact ⟨ret_bool (by rw [Bool.eq_iff_iff]; simp; omega), L⟩

theorem fOk_set {c : Cm} (h : c.k = 0 ∨ c.k = 2) : fOk c = (bareB c && (isVar c.x && isVal c.y)) := by unfold fOk; rw [if_pos h]
theorem fOk_load {c : Cm} (h : c.k = 1) : fOk c = (bareB c && (isVar c.x && isVar c.y)) := by unfold fOk; rw [if_neg (by omega), if_pos h]
theorem fOk_new {c : Cm} (h : c.k = 3 ∨ c.k = 4) : fOk c = (bareB c && (isVar c.x && decide (c.y = 0))) := by unfold fOk; rw [if_neg (by omega), if_neg (by omega), if_pos h]
theorem fOk_if {c : Cm} (h : c.k = 5) : fOk c = (isVal c.x && (isVal c.y && decide (invN c = 0))) := by unfold fOk; rw [if_neg (by omega), if_neg (by omega), if_neg (by omega), if_pos h]
theorem fOk_while {c : Cm} (h : c.k = 6) : fOk c = (isVal c.x && (isVal c.y && (invB c && decide (c.B.length = 0)))) := by unfold fOk; rw [if_neg (by omega), if_neg (by omega), if_neg (by omega), if_neg (by omega), if_pos h]
theorem fOk_no {c : Cm} (h : c.k < 0 ∨ 6 < c.k) : fOk c = false := by unfold fOk; rw [if_neg (by omega), if_neg (by omega), if_neg (by omega), if_neg (by omega), if_neg (by omega)]

theorem okS_nil (d : Nat) : okS d [] = true := by simp [okS, oks]
theorem okS_len {d : Nat} {l : List Cm} (h : l.length = 0) : okS d l = true := by
  rw [List.eq_nil_of_length_eq_zero h]; exact okS_nil d
theorem ok_plain {c : Cm} {d : Nat} (hd : d ≤ 3) (hk : c.k < 5) : c.ok d = fOk c := by
  rw [Cm.ok_eq]
  cases hf : fOk c
  · simp
  · have hb : bareB c = true := by
      by_cases h0 : c.k = 0 ∨ c.k = 2
      · rw [fOk_set h0] at hf; simp at hf; exact hf.1
      · by_cases h1 : c.k = 1
        · rw [fOk_load h1] at hf; simp at hf; exact hf.1
        · by_cases h2 : c.k = 3 ∨ c.k = 4
          · rw [fOk_new h2] at hf; simp at hf; exact hf.1
          · rw [fOk_no (by omega)] at hf; cases hf
    unfold bareB at hb
    simp only [Bool.and_eq_true, decide_eq_true_eq] at hb
    rw [okS_len hb.2.2.1, okS_len hb.2.2.2]
    simp [hd]
theorem ok_if {c : Cm} {d : Nat} (hd : d ≤ 3) (hk : c.k = 5) : c.ok d = (isVal c.x && (isVal c.y && (decide (invN c = 0) && (okS (d + 1) c.A && okS (d + 1) c.B)))) := by
  rw [Cm.ok_eq, fOk_if hk]
  simp [hd, Bool.and_assoc]
theorem ok_while {c : Cm} {d : Nat} (hd : d ≤ 3) (hk : c.k = 6) : c.ok d = (isVal c.x && (isVal c.y && (plainV c.l0 c.l1 c.l2 c.l3 && (roomB c && (decide (c.B.length = 0) && okS (d + 1) c.A))))) := by
  rw [Cm.ok_eq, fOk_while hk]
  by_cases h : c.B.length = 0
  · rw [okS_len h]; simp [hd, h, invB, Bool.and_assoc]
  · simp [hd, h, invB]
theorem ok_deep {c : Cm} {d : Nat} (hd : 3 < d) : c.ok d = false := by
  rw [Cm.ok_eq, decide_eq_false (by omega)]; rfl
theorem ok_no {c : Cm} {d : Nat} (h : c.k < 0 ∨ 6 < c.k) : c.ok d = false := by
  rw [Cm.ok_eq, fOk_no h]; simp

end Go.Proofs.Ytccldjodijdciaa
