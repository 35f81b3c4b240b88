/-
  The contracts of spec.l6ok and spec.l6all.
-/
import Derived.Test.YtccldjodijdciaaCF
import Derived.Test.YtccldjodijdciaaCTo
import Derived.Outline
namespace Go.Proofs.Ytccldjodijdciaa
open Go.RowKit

/-- What l6all answers for one list. -/
def OkS (l : List Cm) : Prop := ∀ (w : World) (lo hi : Nat) (a : Option Addr) (cap d : Nat), CRow w lo hi a l → hi ≤ w.heap.size → cnts l ≤ 1048576 → d ≤ 4 →
    Calls Try.prog 102 #[.slice a l.length cap, .int .i64 d] w fun e w' => e = .returned (.bool (okS d l)) ∧ Below w.heap.size w w'

set_option linter.unusedVariables false in
set_option maxHeartbeats 1000000 in
theorem l6ok_0 (x y : Int) (q : Bool) (l0 l1 l2 l3 : List (Int × Int)) (A B : List Cm) (a0 a1 a2 a3 aA aB : Option Addr) (c0 c1 c2 c3 cA cB : Nat) (w : World) (lo hi : Nat) (d : Nat) (hd : d ≤ 3)
    (n0 : l0.length ≤ 1048576) (n1 : l1.length ≤ 1048576) (n2 : l2.length ≤ 1048576) (n3 : l3.length ≤ 1048576) (nA : A.length ≤ 1048576) (nB : B.length ≤ 1048576) (sA : cnts A ≤ 1048576) (sB : cnts B ≤ 1048576)
    (p0 : PIn w lo hi a0 l0) (p1 : PIn w lo hi a1 l1) (p2 : PIn w lo hi a2 l2) (p3 : PIn w lo hi a3 l3) (rA : CRow w lo hi aA A) (rB : CRow w lo hi aB B) (hh : hi ≤ w.heap.size) :
    Calls Try.prog 100 #[.agg #[.int .i64 0, .int .i64 x, .int .i64 y, .bool q, .slice a0 l0.length c0, .slice a1 l1.length c1, .slice a2 l2.length c2, .slice a3 l3.length c3, .slice aA A.length cA, .slice aB B.length cB], .int .i64 d] w fun e w' => e = .returned (.bool (Cm.ok d (.mk 0 x y q l0 l1 l2 l3 A B))) ∧ Below w.heap.size w w' := by
  have X := B10.new w (.int .i64 0) (.int .i64 x) (.int .i64 y) (.bool q) (.slice a0 l0.length c0) (.slice a1 l1.length c1) (.slice a2 l2.length c2) (.slice a3 l3.length c3) (.slice aA A.length cA) (.slice aB B.length cB) 59
  have L : Below w.heap.size w (w.alloc (.cells #[.int .i64 0, .int .i64 x, .int .i64 y, .bool q, .slice a0 l0.length c0, .slice a1 l1.length c1, .slice a2 l2.length c2, .slice a3 l3.length c3, .slice aA A.length cA, .slice aB B.length cB] 59)) := (Below.refl _ _).alloc (Nat.le_refl _) _
  have HV : Hid (Cm.ok d (.mk 0 x y q l0 l1 l2 l3 A B) = ((!q && (decide (l0.length + l1.length + l2.length + l3.length = 0) && (decide (A.length = 0) && decide (B.length = 0)))) && (isVar x && isVal y))) := (ok_plain hd (by show (0 : Int) < 5; decide)).trans (fOk_set (.inl rfl))
  cases q
  rotate_left
  · go_enter Try.func100, Try.ntmps100
    go_wp2
    go_ret
    exact ⟨ret_bool (by rw [HV.out]; rfl), L⟩
  go_enter Try.func100, Try.ntmps100
  go_wp2_with fail
  refine (l6none_any _ _ _ _ _ _ _ _ _ _ _ _ _ n0 n1 n2 n3).mono ?_
  rintro e w1 ⟨rfl, hb⟩
  replace X := X.below hb X.lt; replace L := L.trans (hb.mono L.size)
  clear hb
  have x0 := X.c0
  have x1 := X.c1
  have x2 := X.c2
  have x8 := X.c8
  have x9 := X.c9
  cases hN : decide (l0.length + l1.length + l2.length + l3.length = 0)
  · go_wp2
    go_ret
    exact ⟨ret_bool (by rw [HV.out, hN]; rfl), L⟩
  by_cases hAB : 0 < (A.length : Int) + B.length
  · go_wp2
    go_ret
    exact ⟨ret_bool (by
      rw [HV.out]
      by_cases hA : A.length = 0
      · rw [decide_eq_false (show ¬ B.length = 0 by omega)]; simp
      · rw [decide_eq_false hA]; simp), L⟩
  have HA : Hid (decide (A.length = 0) = true ∧ decide (B.length = 0) = true) := ⟨decide_eq_true (show A.length = 0 by omega), decide_eq_true (show B.length = 0 by omega)⟩
  have HW : Hid (Cm.ok d (.mk 0 x y false l0 l1 l2 l3 A B) = (isVar x && isVal y)) := by
    show Cm.ok d _ = _
    rw [HV.out, hN, HA.out.1, HA.out.2]; rfl
  clear HV HA
  go_wp2_with fail
  refine (l6var_any _ _).mono ?_
  rintro e w1 ⟨rfl, rfl⟩
  cases hx : isVar x
  · go_wp2
    go_ret
    exact ⟨ret_bool (by rw [HW.out, hx]; rfl), L⟩
  go_wp2_with fail
  refine (l6value_any _ _).mono ?_
  rintro e w1 ⟨rfl, rfl⟩
  go_wp2
  go_ret
  exact ⟨ret_bool (by rw [HW.out, hx]; simp), L⟩

set_option linter.unusedVariables false in
set_option maxHeartbeats 1000000 in
theorem l6ok_1 (x y : Int) (q : Bool) (l0 l1 l2 l3 : List (Int × Int)) (A B : List Cm) (a0 a1 a2 a3 aA aB : Option Addr) (c0 c1 c2 c3 cA cB : Nat) (w : World) (lo hi : Nat) (d : Nat) (hd : d ≤ 3)
    (n0 : l0.length ≤ 1048576) (n1 : l1.length ≤ 1048576) (n2 : l2.length ≤ 1048576) (n3 : l3.length ≤ 1048576) (nA : A.length ≤ 1048576) (nB : B.length ≤ 1048576) (sA : cnts A ≤ 1048576) (sB : cnts B ≤ 1048576)
    (p0 : PIn w lo hi a0 l0) (p1 : PIn w lo hi a1 l1) (p2 : PIn w lo hi a2 l2) (p3 : PIn w lo hi a3 l3) (rA : CRow w lo hi aA A) (rB : CRow w lo hi aB B) (hh : hi ≤ w.heap.size) :
    Calls Try.prog 100 #[.agg #[.int .i64 1, .int .i64 x, .int .i64 y, .bool q, .slice a0 l0.length c0, .slice a1 l1.length c1, .slice a2 l2.length c2, .slice a3 l3.length c3, .slice aA A.length cA, .slice aB B.length cB], .int .i64 d] w fun e w' => e = .returned (.bool (Cm.ok d (.mk 1 x y q l0 l1 l2 l3 A B))) ∧ Below w.heap.size w w' := by
  have X := B10.new w (.int .i64 1) (.int .i64 x) (.int .i64 y) (.bool q) (.slice a0 l0.length c0) (.slice a1 l1.length c1) (.slice a2 l2.length c2) (.slice a3 l3.length c3) (.slice aA A.length cA) (.slice aB B.length cB) 59
  have L : Below w.heap.size w (w.alloc (.cells #[.int .i64 1, .int .i64 x, .int .i64 y, .bool q, .slice a0 l0.length c0, .slice a1 l1.length c1, .slice a2 l2.length c2, .slice a3 l3.length c3, .slice aA A.length cA, .slice aB B.length cB] 59)) := (Below.refl _ _).alloc (Nat.le_refl _) _
  have HV : Hid (Cm.ok d (.mk 1 x y q l0 l1 l2 l3 A B) = ((!q && (decide (l0.length + l1.length + l2.length + l3.length = 0) && (decide (A.length = 0) && decide (B.length = 0)))) && (isVar x && isVar y))) := (ok_plain hd (by show (1 : Int) < 5; decide)).trans (fOk_load rfl)
  cases q
  rotate_left
  · go_enter Try.func100, Try.ntmps100
    go_wp2
    go_ret
    exact ⟨ret_bool (by rw [HV.out]; rfl), L⟩
  go_enter Try.func100, Try.ntmps100
  go_wp2_with fail
  refine (l6none_any _ _ _ _ _ _ _ _ _ _ _ _ _ n0 n1 n2 n3).mono ?_
  rintro e w1 ⟨rfl, hb⟩
  replace X := X.below hb X.lt; replace L := L.trans (hb.mono L.size)
  clear hb
  have x0 := X.c0
  have x1 := X.c1
  have x2 := X.c2
  have x8 := X.c8
  have x9 := X.c9
  cases hN : decide (l0.length + l1.length + l2.length + l3.length = 0)
  · go_wp2
    go_ret
    exact ⟨ret_bool (by rw [HV.out, hN]; rfl), L⟩
  by_cases hAB : 0 < (A.length : Int) + B.length
  · go_wp2
    go_ret
    exact ⟨ret_bool (by
      rw [HV.out]
      by_cases hA : A.length = 0
      · rw [decide_eq_false (show ¬ B.length = 0 by omega)]; simp
      · rw [decide_eq_false hA]; simp), L⟩
  have HA : Hid (decide (A.length = 0) = true ∧ decide (B.length = 0) = true) := ⟨decide_eq_true (show A.length = 0 by omega), decide_eq_true (show B.length = 0 by omega)⟩
  have HW : Hid (Cm.ok d (.mk 1 x y false l0 l1 l2 l3 A B) = (isVar x && isVar y)) := by
    show Cm.ok d _ = _
    rw [HV.out, hN, HA.out.1, HA.out.2]; rfl
  clear HV HA
  go_wp2_with fail
  refine (l6var_any _ _).mono ?_
  rintro e w1 ⟨rfl, rfl⟩
  cases hx : isVar x
  · go_wp2
    go_ret
    exact ⟨ret_bool (by rw [HW.out, hx]; rfl), L⟩
  go_wp2_with fail
  refine (l6var_any _ _).mono ?_
  rintro e w1 ⟨rfl, rfl⟩
  go_wp2
  go_ret
  exact ⟨ret_bool (by rw [HW.out, hx]; simp), L⟩

set_option linter.unusedVariables false in
set_option maxHeartbeats 1000000 in
theorem l6ok_2 (x y : Int) (q : Bool) (l0 l1 l2 l3 : List (Int × Int)) (A B : List Cm) (a0 a1 a2 a3 aA aB : Option Addr) (c0 c1 c2 c3 cA cB : Nat) (w : World) (lo hi : Nat) (d : Nat) (hd : d ≤ 3)
    (n0 : l0.length ≤ 1048576) (n1 : l1.length ≤ 1048576) (n2 : l2.length ≤ 1048576) (n3 : l3.length ≤ 1048576) (nA : A.length ≤ 1048576) (nB : B.length ≤ 1048576) (sA : cnts A ≤ 1048576) (sB : cnts B ≤ 1048576)
    (p0 : PIn w lo hi a0 l0) (p1 : PIn w lo hi a1 l1) (p2 : PIn w lo hi a2 l2) (p3 : PIn w lo hi a3 l3) (rA : CRow w lo hi aA A) (rB : CRow w lo hi aB B) (hh : hi ≤ w.heap.size) :
    Calls Try.prog 100 #[.agg #[.int .i64 2, .int .i64 x, .int .i64 y, .bool q, .slice a0 l0.length c0, .slice a1 l1.length c1, .slice a2 l2.length c2, .slice a3 l3.length c3, .slice aA A.length cA, .slice aB B.length cB], .int .i64 d] w fun e w' => e = .returned (.bool (Cm.ok d (.mk 2 x y q l0 l1 l2 l3 A B))) ∧ Below w.heap.size w w' := by
  have X := B10.new w (.int .i64 2) (.int .i64 x) (.int .i64 y) (.bool q) (.slice a0 l0.length c0) (.slice a1 l1.length c1) (.slice a2 l2.length c2) (.slice a3 l3.length c3) (.slice aA A.length cA) (.slice aB B.length cB) 59
  have L : Below w.heap.size w (w.alloc (.cells #[.int .i64 2, .int .i64 x, .int .i64 y, .bool q, .slice a0 l0.length c0, .slice a1 l1.length c1, .slice a2 l2.length c2, .slice a3 l3.length c3, .slice aA A.length cA, .slice aB B.length cB] 59)) := (Below.refl _ _).alloc (Nat.le_refl _) _
  have HV : Hid (Cm.ok d (.mk 2 x y q l0 l1 l2 l3 A B) = ((!q && (decide (l0.length + l1.length + l2.length + l3.length = 0) && (decide (A.length = 0) && decide (B.length = 0)))) && (isVar x && isVal y))) := (ok_plain hd (by show (2 : Int) < 5; decide)).trans (fOk_set (.inr rfl))
  cases q
  rotate_left
  · go_enter Try.func100, Try.ntmps100
    go_wp2
    go_ret
    exact ⟨ret_bool (by rw [HV.out]; rfl), L⟩
  go_enter Try.func100, Try.ntmps100
  go_wp2_with fail
  refine (l6none_any _ _ _ _ _ _ _ _ _ _ _ _ _ n0 n1 n2 n3).mono ?_
  rintro e w1 ⟨rfl, hb⟩
  replace X := X.below hb X.lt; replace L := L.trans (hb.mono L.size)
  clear hb
  have x0 := X.c0
  have x1 := X.c1
  have x2 := X.c2
  have x8 := X.c8
  have x9 := X.c9
  cases hN : decide (l0.length + l1.length + l2.length + l3.length = 0)
  · go_wp2
    go_ret
    exact ⟨ret_bool (by rw [HV.out, hN]; rfl), L⟩
  by_cases hAB : 0 < (A.length : Int) + B.length
  · go_wp2
    go_ret
    exact ⟨ret_bool (by
      rw [HV.out]
      by_cases hA : A.length = 0
      · rw [decide_eq_false (show ¬ B.length = 0 by omega)]; simp
      · rw [decide_eq_false hA]; simp), L⟩
  have HA : Hid (decide (A.length = 0) = true ∧ decide (B.length = 0) = true) := ⟨decide_eq_true (show A.length = 0 by omega), decide_eq_true (show B.length = 0 by omega)⟩
  have HW : Hid (Cm.ok d (.mk 2 x y false l0 l1 l2 l3 A B) = (isVar x && isVal y)) := by
    show Cm.ok d _ = _
    rw [HV.out, hN, HA.out.1, HA.out.2]; rfl
  clear HV HA
  go_wp2_with fail
  refine (l6var_any _ _).mono ?_
  rintro e w1 ⟨rfl, rfl⟩
  cases hx : isVar x
  · go_wp2
    go_ret
    exact ⟨ret_bool (by rw [HW.out, hx]; rfl), L⟩
  go_wp2_with fail
  refine (l6value_any _ _).mono ?_
  rintro e w1 ⟨rfl, rfl⟩
  go_wp2
  go_ret
  exact ⟨ret_bool (by rw [HW.out, hx]; simp), L⟩

set_option linter.unusedVariables false in
set_option maxHeartbeats 1000000 in
theorem l6ok_3 (x y : Int) (q : Bool) (l0 l1 l2 l3 : List (Int × Int)) (A B : List Cm) (a0 a1 a2 a3 aA aB : Option Addr) (c0 c1 c2 c3 cA cB : Nat) (w : World) (lo hi : Nat) (d : Nat) (hd : d ≤ 3)
    (n0 : l0.length ≤ 1048576) (n1 : l1.length ≤ 1048576) (n2 : l2.length ≤ 1048576) (n3 : l3.length ≤ 1048576) (nA : A.length ≤ 1048576) (nB : B.length ≤ 1048576) (sA : cnts A ≤ 1048576) (sB : cnts B ≤ 1048576)
    (p0 : PIn w lo hi a0 l0) (p1 : PIn w lo hi a1 l1) (p2 : PIn w lo hi a2 l2) (p3 : PIn w lo hi a3 l3) (rA : CRow w lo hi aA A) (rB : CRow w lo hi aB B) (hh : hi ≤ w.heap.size) :
    Calls Try.prog 100 #[.agg #[.int .i64 3, .int .i64 x, .int .i64 y, .bool q, .slice a0 l0.length c0, .slice a1 l1.length c1, .slice a2 l2.length c2, .slice a3 l3.length c3, .slice aA A.length cA, .slice aB B.length cB], .int .i64 d] w fun e w' => e = .returned (.bool (Cm.ok d (.mk 3 x y q l0 l1 l2 l3 A B))) ∧ Below w.heap.size w w' := by
  have X := B10.new w (.int .i64 3) (.int .i64 x) (.int .i64 y) (.bool q) (.slice a0 l0.length c0) (.slice a1 l1.length c1) (.slice a2 l2.length c2) (.slice a3 l3.length c3) (.slice aA A.length cA) (.slice aB B.length cB) 59
  have L : Below w.heap.size w (w.alloc (.cells #[.int .i64 3, .int .i64 x, .int .i64 y, .bool q, .slice a0 l0.length c0, .slice a1 l1.length c1, .slice a2 l2.length c2, .slice a3 l3.length c3, .slice aA A.length cA, .slice aB B.length cB] 59)) := (Below.refl _ _).alloc (Nat.le_refl _) _
  have HV : Hid (Cm.ok d (.mk 3 x y q l0 l1 l2 l3 A B) = ((!q && (decide (l0.length + l1.length + l2.length + l3.length = 0) && (decide (A.length = 0) && decide (B.length = 0)))) && (isVar x && decide (y = 0)))) := (ok_plain hd (by show (3 : Int) < 5; decide)).trans (fOk_new (.inl rfl))
  cases q
  rotate_left
  · go_enter Try.func100, Try.ntmps100
    go_wp2
    go_ret
    exact ⟨ret_bool (by rw [HV.out]; rfl), L⟩
  go_enter Try.func100, Try.ntmps100
  go_wp2_with fail
  refine (l6none_any _ _ _ _ _ _ _ _ _ _ _ _ _ n0 n1 n2 n3).mono ?_
  rintro e w1 ⟨rfl, hb⟩
  replace X := X.below hb X.lt; replace L := L.trans (hb.mono L.size)
  clear hb
  have x0 := X.c0
  have x1 := X.c1
  have x2 := X.c2
  have x8 := X.c8
  have x9 := X.c9
  cases hN : decide (l0.length + l1.length + l2.length + l3.length = 0)
  · go_wp2
    go_ret
    exact ⟨ret_bool (by rw [HV.out, hN]; rfl), L⟩
  by_cases hAB : 0 < (A.length : Int) + B.length
  · go_wp2
    go_ret
    exact ⟨ret_bool (by
      rw [HV.out]
      by_cases hA : A.length = 0
      · rw [decide_eq_false (show ¬ B.length = 0 by omega)]; simp
      · rw [decide_eq_false hA]; simp), L⟩
  have HA : Hid (decide (A.length = 0) = true ∧ decide (B.length = 0) = true) := ⟨decide_eq_true (show A.length = 0 by omega), decide_eq_true (show B.length = 0 by omega)⟩
  have HW : Hid (Cm.ok d (.mk 3 x y false l0 l1 l2 l3 A B) = (isVar x && decide (y = 0))) := by
    show Cm.ok d _ = _
    rw [HV.out, hN, HA.out.1, HA.out.2]; rfl
  clear HV HA
  go_wp2_with fail
  refine (l6var_any _ _).mono ?_
  rintro e w1 ⟨rfl, rfl⟩
  cases hx : isVar x
  · go_wp2
    go_ret
    exact ⟨ret_bool (by rw [HW.out, hx]; rfl), L⟩
  by_cases hy : y = 0
  · subst hy
    go_wp2
    go_ret
    exact ⟨ret_bool (by rw [HW.out, hx]; rfl), L⟩
  go_wp2
  go_ret
  exact ⟨ret_bool (by rw [HW.out, hx]; simp [hy]), L⟩

set_option linter.unusedVariables false in
set_option maxHeartbeats 1000000 in
theorem l6ok_4 (x y : Int) (q : Bool) (l0 l1 l2 l3 : List (Int × Int)) (A B : List Cm) (a0 a1 a2 a3 aA aB : Option Addr) (c0 c1 c2 c3 cA cB : Nat) (w : World) (lo hi : Nat) (d : Nat) (hd : d ≤ 3)
    (n0 : l0.length ≤ 1048576) (n1 : l1.length ≤ 1048576) (n2 : l2.length ≤ 1048576) (n3 : l3.length ≤ 1048576) (nA : A.length ≤ 1048576) (nB : B.length ≤ 1048576) (sA : cnts A ≤ 1048576) (sB : cnts B ≤ 1048576)
    (p0 : PIn w lo hi a0 l0) (p1 : PIn w lo hi a1 l1) (p2 : PIn w lo hi a2 l2) (p3 : PIn w lo hi a3 l3) (rA : CRow w lo hi aA A) (rB : CRow w lo hi aB B) (hh : hi ≤ w.heap.size) :
    Calls Try.prog 100 #[.agg #[.int .i64 4, .int .i64 x, .int .i64 y, .bool q, .slice a0 l0.length c0, .slice a1 l1.length c1, .slice a2 l2.length c2, .slice a3 l3.length c3, .slice aA A.length cA, .slice aB B.length cB], .int .i64 d] w fun e w' => e = .returned (.bool (Cm.ok d (.mk 4 x y q l0 l1 l2 l3 A B))) ∧ Below w.heap.size w w' := by
  have X := B10.new w (.int .i64 4) (.int .i64 x) (.int .i64 y) (.bool q) (.slice a0 l0.length c0) (.slice a1 l1.length c1) (.slice a2 l2.length c2) (.slice a3 l3.length c3) (.slice aA A.length cA) (.slice aB B.length cB) 59
  have L : Below w.heap.size w (w.alloc (.cells #[.int .i64 4, .int .i64 x, .int .i64 y, .bool q, .slice a0 l0.length c0, .slice a1 l1.length c1, .slice a2 l2.length c2, .slice a3 l3.length c3, .slice aA A.length cA, .slice aB B.length cB] 59)) := (Below.refl _ _).alloc (Nat.le_refl _) _
  have HV : Hid (Cm.ok d (.mk 4 x y q l0 l1 l2 l3 A B) = ((!q && (decide (l0.length + l1.length + l2.length + l3.length = 0) && (decide (A.length = 0) && decide (B.length = 0)))) && (isVar x && decide (y = 0)))) := (ok_plain hd (by show (4 : Int) < 5; decide)).trans (fOk_new (.inr rfl))
  cases q
  rotate_left
  · go_enter Try.func100, Try.ntmps100
    go_wp2
    go_ret
    exact ⟨ret_bool (by rw [HV.out]; rfl), L⟩
  go_enter Try.func100, Try.ntmps100
  go_wp2_with fail
  refine (l6none_any _ _ _ _ _ _ _ _ _ _ _ _ _ n0 n1 n2 n3).mono ?_
  rintro e w1 ⟨rfl, hb⟩
  replace X := X.below hb X.lt; replace L := L.trans (hb.mono L.size)
  clear hb
  have x0 := X.c0
  have x1 := X.c1
  have x2 := X.c2
  have x8 := X.c8
  have x9 := X.c9
  cases hN : decide (l0.length + l1.length + l2.length + l3.length = 0)
  · go_wp2
    go_ret
    exact ⟨ret_bool (by rw [HV.out, hN]; rfl), L⟩
  by_cases hAB : 0 < (A.length : Int) + B.length
  · go_wp2
    go_ret
    exact ⟨ret_bool (by
      rw [HV.out]
      by_cases hA : A.length = 0
      · rw [decide_eq_false (show ¬ B.length = 0 by omega)]; simp
      · rw [decide_eq_false hA]; simp), L⟩
  have HA : Hid (decide (A.length = 0) = true ∧ decide (B.length = 0) = true) := ⟨decide_eq_true (show A.length = 0 by omega), decide_eq_true (show B.length = 0 by omega)⟩
  have HW : Hid (Cm.ok d (.mk 4 x y false l0 l1 l2 l3 A B) = (isVar x && decide (y = 0))) := by
    show Cm.ok d _ = _
    rw [HV.out, hN, HA.out.1, HA.out.2]; rfl
  clear HV HA
  go_wp2_with fail
  refine (l6var_any _ _).mono ?_
  rintro e w1 ⟨rfl, rfl⟩
  cases hx : isVar x
  · go_wp2
    go_ret
    exact ⟨ret_bool (by rw [HW.out, hx]; rfl), L⟩
  by_cases hy : y = 0
  · subst hy
    go_wp2
    go_ret
    exact ⟨ret_bool (by rw [HW.out, hx]; rfl), L⟩
  go_wp2
  go_ret
  exact ⟨ret_bool (by rw [HW.out, hx]; simp [hy]), L⟩

set_option linter.unusedVariables false in
set_option maxHeartbeats 1000000 in
theorem l6ok_5 (x y : Int) (q : Bool) (l0 l1 l2 l3 : List (Int × Int)) (A B : List Cm) (a0 a1 a2 a3 aA aB : Option Addr) (c0 c1 c2 c3 cA cB : Nat) (w : World) (lo hi : Nat) (d : Nat) (hd : d ≤ 3) (HA : OkS A) (HB : OkS B)
    (n0 : l0.length ≤ 1048576) (n1 : l1.length ≤ 1048576) (n2 : l2.length ≤ 1048576) (n3 : l3.length ≤ 1048576) (nA : A.length ≤ 1048576) (nB : B.length ≤ 1048576) (sA : cnts A ≤ 1048576) (sB : cnts B ≤ 1048576)
    (p0 : PIn w lo hi a0 l0) (p1 : PIn w lo hi a1 l1) (p2 : PIn w lo hi a2 l2) (p3 : PIn w lo hi a3 l3) (rA : CRow w lo hi aA A) (rB : CRow w lo hi aB B) (hh : hi ≤ w.heap.size) :
    Calls Try.prog 100 #[.agg #[.int .i64 5, .int .i64 x, .int .i64 y, .bool q, .slice a0 l0.length c0, .slice a1 l1.length c1, .slice a2 l2.length c2, .slice a3 l3.length c3, .slice aA A.length cA, .slice aB B.length cB], .int .i64 d] w fun e w' => e = .returned (.bool (Cm.ok d (.mk 5 x y q l0 l1 l2 l3 A B))) ∧ Below w.heap.size w w' := by
  have X := B10.new w (.int .i64 5) (.int .i64 x) (.int .i64 y) (.bool q) (.slice a0 l0.length c0) (.slice a1 l1.length c1) (.slice a2 l2.length c2) (.slice a3 l3.length c3) (.slice aA A.length cA) (.slice aB B.length cB) 59
  have L : Below w.heap.size w (w.alloc (.cells #[.int .i64 5, .int .i64 x, .int .i64 y, .bool q, .slice a0 l0.length c0, .slice a1 l1.length c1, .slice a2 l2.length c2, .slice a3 l3.length c3, .slice aA A.length cA, .slice aB B.length cB] 59)) := (Below.refl _ _).alloc (Nat.le_refl _) _
  have HV : Hid (Cm.ok d (.mk 5 x y q l0 l1 l2 l3 A B) = (isVal x && (isVal y && (decide (l0.length + l1.length + l2.length + l3.length = 0) && (okS (d + 1) A && okS (d + 1) B))))) := ok_if hd rfl
  go_enter Try.func100, Try.ntmps100
  go_wp2_with fail
  refine (l6value_any _ _).mono ?_
  rintro e w1 ⟨rfl, rfl⟩
  cases hx : isVal x
  · go_wp2
    go_ret
    exact ⟨ret_bool (by rw [HV.out, hx]; rfl), L⟩
  go_wp2_with fail
  refine (l6value_any _ _).mono ?_
  rintro e w1 ⟨rfl, rfl⟩
  cases hy : isVal y
  · go_wp2
    go_ret
    exact ⟨ret_bool (by rw [HV.out, hx, hy]; rfl), L⟩
  go_wp2_with fail
  refine (l6none_any _ _ _ _ _ _ _ _ _ _ _ _ _ n0 n1 n2 n3).mono ?_
  rintro e w1 ⟨rfl, hb⟩
  replace X := X.below hb X.lt; replace L := L.trans (hb.mono L.size)
  clear hb
  have x8 := X.c8
  cases hN : decide (l0.length + l1.length + l2.length + l3.length = 0)
  · go_wp2
    go_ret
    exact ⟨ret_bool (by rw [HV.out, hx, hy, hN]; rfl), L⟩
  go_wp2_with fail
  refine (HA _ _ _ _ _ (d + 1) (by exact rA.below L hh) (by exact Nat.le_trans hh L.size) sA (by omega)).mono ?_
  rintro e w2 ⟨rfl, hb⟩
  replace X := X.below hb X.lt; replace L := L.trans (hb.mono L.size)
  clear hb
  clear x8
  have x9 := X.c9
  cases hA : okS (d + 1) A
  · go_wp2
    go_ret
    exact ⟨ret_bool (by rw [HV.out, hx, hy, hN, hA]; rfl), L⟩
  go_wp2_with fail
  refine (HB _ _ _ _ _ (d + 1) (by exact rB.below L hh) (by exact Nat.le_trans hh L.size) sB (by omega)).mono ?_
  rintro e w3 ⟨rfl, hb⟩
  replace X := X.below hb X.lt; replace L := L.trans (hb.mono L.size)
  clear hb
  go_wp2
  go_ret
  exact ⟨ret_bool (by rw [HV.out, hx, hy, hN, hA]; simp), L⟩

set_option linter.unusedVariables false in
set_option maxHeartbeats 1000000 in
theorem l6ok_6 (x y : Int) (q : Bool) (l0 l1 l2 l3 : List (Int × Int)) (A B : List Cm) (a0 a1 a2 a3 aA aB : Option Addr) (c0 c1 c2 c3 cA cB : Nat) (w : World) (lo hi : Nat) (d : Nat) (hd : d ≤ 3) (HA : OkS A)
    (n0 : l0.length ≤ 1048576) (n1 : l1.length ≤ 1048576) (n2 : l2.length ≤ 1048576) (n3 : l3.length ≤ 1048576) (nA : A.length ≤ 1048576) (nB : B.length ≤ 1048576) (sA : cnts A ≤ 1048576) (sB : cnts B ≤ 1048576)
    (p0 : PIn w lo hi a0 l0) (p1 : PIn w lo hi a1 l1) (p2 : PIn w lo hi a2 l2) (p3 : PIn w lo hi a3 l3) (rA : CRow w lo hi aA A) (rB : CRow w lo hi aB B) (hh : hi ≤ w.heap.size) :
    Calls Try.prog 100 #[.agg #[.int .i64 6, .int .i64 x, .int .i64 y, .bool q, .slice a0 l0.length c0, .slice a1 l1.length c1, .slice a2 l2.length c2, .slice a3 l3.length c3, .slice aA A.length cA, .slice aB B.length cB], .int .i64 d] w fun e w' => e = .returned (.bool (Cm.ok d (.mk 6 x y q l0 l1 l2 l3 A B))) ∧ Below w.heap.size w w' := by
  have X := B10.new w (.int .i64 6) (.int .i64 x) (.int .i64 y) (.bool q) (.slice a0 l0.length c0) (.slice a1 l1.length c1) (.slice a2 l2.length c2) (.slice a3 l3.length c3) (.slice aA A.length cA) (.slice aB B.length cB) 59
  have L : Below w.heap.size w (w.alloc (.cells #[.int .i64 6, .int .i64 x, .int .i64 y, .bool q, .slice a0 l0.length c0, .slice a1 l1.length c1, .slice a2 l2.length c2, .slice a3 l3.length c3, .slice aA A.length cA, .slice aB B.length cB] 59)) := (Below.refl _ _).alloc (Nat.le_refl _) _
  have HV : Hid (Cm.ok d (.mk 6 x y q l0 l1 l2 l3 A B) = (isVal x && (isVal y && (plainV l0 l1 l2 l3 && ((decide (l0.length ≤ 4) && (decide (l1.length ≤ 4) && decide (l2.length + l3.length ≤ 3))) && (decide (B.length = 0) && okS (d + 1) A)))))) := ok_while hd rfl
  clear rB
  generalize hnb : B.length = nb at *
  clear hnb
  go_enter Try.func100, Try.ntmps100
  go_wp2_with fail
  refine (l6value_any _ _).mono ?_
  rintro e w1 ⟨rfl, rfl⟩
  cases hx : isVal x
  · go_wp2
    go_ret
    exact ⟨ret_bool (by rw [HV.out, hx]; rfl), L⟩
  go_wp2_with fail
  refine (l6value_any _ _).mono ?_
  rintro e w1 ⟨rfl, rfl⟩
  cases hy : isVal y
  · go_wp2
    go_ret
    exact ⟨ret_bool (by rw [HV.out, hx, hy]; rfl), L⟩
  go_wp2_with fail
  refine (sPlain_any _ _ _ _ _ _ _ _ _ _ _ _ _ n0 n1 n2 n3 (by exact p0.prow L hh) (by exact p1.prow L hh) (by exact p2.prow L hh) (by exact p3.prow L hh)).mono ?_
  rintro e w1 ⟨rfl, hb⟩
  replace X := X.below hb X.lt; replace L := L.trans (hb.mono L.size)
  clear hb
  have x4 := X.c4
  have x5 := X.c5
  have x6 := X.c6
  have x7 := X.c7
  cases hP : plainV l0 l1 l2 l3
  · go_wp2
    go_ret
    exact ⟨ret_bool (by rw [HV.out, hx, hy, hP]; rfl), L⟩
  go_wp2_with fail
  refine (l6room_any _ _ _ _ _ _ _ _ _ _ _ _ _ n0 n1 n2 n3).mono ?_
  rintro e w2 ⟨rfl, hb⟩
  replace X := X.below hb X.lt; replace L := L.trans (hb.mono L.size)
  clear hb
  clear x4 x5 x6 x7
  have x8 := X.c8
  have x9 := X.c9
  cases hR : (decide (l0.length ≤ 4) && (decide (l1.length ≤ 4) && decide (l2.length + l3.length ≤ 3)))
  · go_wp2
    go_ret
    exact ⟨ret_bool (by rw [HV.out, hx, hy, hP, hR]; rfl), L⟩
  by_cases hB : (nb : Int) = 0
  rotate_left
  · go_wp2
    go_ret
    exact ⟨ret_bool (by rw [HV.out, hx, hy, hP, hR, decide_eq_false (show ¬ nb = 0 by omega)]; rfl), L⟩
  go_wp2_with fail
  refine (HA _ _ _ _ _ (d + 1) (by exact rA.below L hh) (by exact Nat.le_trans hh L.size) sA (by omega)).mono ?_
  rintro e w3 ⟨rfl, hb⟩
  replace X := X.below hb X.lt; replace L := L.trans (hb.mono L.size)
  clear hb
  go_wp2
  go_ret
  exact ⟨ret_bool (by rw [HV.out, hx, hy, hP, hR, decide_eq_true (show nb = 0 by omega)]; simp), L⟩

set_option linter.unusedVariables false in
set_option maxHeartbeats 1000000 in
theorem l6ok_mk (kk x y : Int) (q : Bool) (l0 l1 l2 l3 : List (Int × Int)) (A B : List Cm) (a0 a1 a2 a3 aA aB : Option Addr) (c0 c1 c2 c3 cA cB : Nat) (w : World) (lo hi : Nat) (d : Nat) (hd : d ≤ 4) (HA : OkS A) (HB : OkS B)
    (n0 : l0.length ≤ 1048576) (n1 : l1.length ≤ 1048576) (n2 : l2.length ≤ 1048576) (n3 : l3.length ≤ 1048576) (nA : A.length ≤ 1048576) (nB : B.length ≤ 1048576) (sA : cnts A ≤ 1048576) (sB : cnts B ≤ 1048576)
    (p0 : PIn w lo hi a0 l0) (p1 : PIn w lo hi a1 l1) (p2 : PIn w lo hi a2 l2) (p3 : PIn w lo hi a3 l3) (rA : CRow w lo hi aA A) (rB : CRow w lo hi aB B) (hh : hi ≤ w.heap.size) :
    Calls Try.prog 100 #[.agg #[.int .i64 kk, .int .i64 x, .int .i64 y, .bool q, .slice a0 l0.length c0, .slice a1 l1.length c1, .slice a2 l2.length c2, .slice a3 l3.length c3, .slice aA A.length cA, .slice aB B.length cB], .int .i64 d] w fun e w' => e = .returned (.bool (Cm.ok d (.mk kk x y q l0 l1 l2 l3 A B))) ∧ Below w.heap.size w w' := by
  have X := B10.new w (.int .i64 kk) (.int .i64 x) (.int .i64 y) (.bool q) (.slice a0 l0.length c0) (.slice a1 l1.length c1) (.slice a2 l2.length c2) (.slice a3 l3.length c3) (.slice aA A.length cA) (.slice aB B.length cB) 59
  have L : Below w.heap.size w (w.alloc (.cells #[.int .i64 kk, .int .i64 x, .int .i64 y, .bool q, .slice a0 l0.length c0, .slice a1 l1.length c1, .slice a2 l2.length c2, .slice a3 l3.length c3, .slice aA A.length cA, .slice aB B.length cB] 59)) := (Below.refl _ _).alloc (Nat.le_refl _) _
  by_cases k1 : kk < 0
  · go_enter Try.func100, Try.ntmps100
    go_wp2
    go_ret
    exact ⟨ret_bool (ok_no (c := (.mk kk x y q l0 l1 l2 l3 A B)) (.inl k1)).symm, L⟩
  by_cases k2 : 6 < kk
  · go_enter Try.func100, Try.ntmps100
    go_wp2
    go_ret
    exact ⟨ret_bool (ok_no (c := (.mk kk x y q l0 l1 l2 l3 A B)) (.inr k2)).symm, L⟩
  by_cases k3 : 3 < (d : Int)
  · go_enter Try.func100, Try.ntmps100
    go_wp2
    go_ret
    exact ⟨ret_bool (ok_deep (by omega)).symm, L⟩
  have hd3 : d ≤ 3 := by omega
  clear X L
  obtain rfl | rfl | rfl | rfl | rfl | rfl | rfl : kk = 0 ∨ kk = 1 ∨ kk = 2 ∨ kk = 3 ∨ kk = 4 ∨ kk = 5 ∨ kk = 6 := by omega
  · exact l6ok_0 x y q l0 l1 l2 l3 A B a0 a1 a2 a3 aA aB c0 c1 c2 c3 cA cB w lo hi d hd3 n0 n1 n2 n3 nA nB sA sB p0 p1 p2 p3 rA rB hh
  · exact l6ok_1 x y q l0 l1 l2 l3 A B a0 a1 a2 a3 aA aB c0 c1 c2 c3 cA cB w lo hi d hd3 n0 n1 n2 n3 nA nB sA sB p0 p1 p2 p3 rA rB hh
  · exact l6ok_2 x y q l0 l1 l2 l3 A B a0 a1 a2 a3 aA aB c0 c1 c2 c3 cA cB w lo hi d hd3 n0 n1 n2 n3 nA nB sA sB p0 p1 p2 p3 rA rB hh
  · exact l6ok_3 x y q l0 l1 l2 l3 A B a0 a1 a2 a3 aA aB c0 c1 c2 c3 cA cB w lo hi d hd3 n0 n1 n2 n3 nA nB sA sB p0 p1 p2 p3 rA rB hh
  · exact l6ok_4 x y q l0 l1 l2 l3 A B a0 a1 a2 a3 aA aB c0 c1 c2 c3 cA cB w lo hi d hd3 n0 n1 n2 n3 nA nB sA sB p0 p1 p2 p3 rA rB hh
  · exact l6ok_5 x y q l0 l1 l2 l3 A B a0 a1 a2 a3 aA aB c0 c1 c2 c3 cA cB w lo hi d hd3 HA HB n0 n1 n2 n3 nA nB sA sB p0 p1 p2 p3 rA rB hh
  · exact l6ok_6 x y q l0 l1 l2 l3 A B a0 a1 a2 a3 aA aB c0 c1 c2 c3 cA cB w lo hi d hd3 HA n0 n1 n2 n3 nA nB sA sB p0 p1 p2 p3 rA rB hh

theorem l6ok_of {c : Cm} (HA : OkS c.A) (HB : OkS c.B) (a0 a1 a2 a3 aA aB : Option Addr) (c0 c1 c2 c3 cA cB : Nat) (w : World) (lo hi d : Nat) (V : CVal w lo hi c a0 a1 a2 a3 aA aB) (hh : hi ≤ w.heap.size) (hc : c.cnt ≤ 1048576) (hd : d ≤ 4) :
    Calls Try.prog 100 #[.agg #[.int .i64 c.k, .int .i64 c.x, .int .i64 c.y, .bool c.q, .slice a0 c.l0.length c0, .slice a1 c.l1.length c1, .slice a2 c.l2.length c2, .slice a3 c.l3.length c3, .slice aA c.A.length cA, .slice aB c.B.length cB], .int .i64 d] w fun e w' => e = .returned (.bool (c.ok d)) ∧ Below w.heap.size w w' := by
  have F := Fit.of hc
  cases c with
  | mk kk x y q l0 l1 l2 l3 A B => exact l6ok_mk kk x y q l0 l1 l2 l3 A B a0 a1 a2 a3 aA aB c0 c1 c2 c3 cA cB w lo hi d hd HA HB F.n0 F.n1 F.n2 F.n3 F.mA F.mB F.nA F.nB V.p0 V.p1 V.p2 V.p3 V.rA V.rB hh

set_option maxHeartbeats 1000000 in
theorem l6all_any : ∀ l : List Cm, OkS l := by
  refine Cm.ind fun l ih => ?_
  intro w lo hi a cap d hr hh hs hd
  obtain ⟨hm, hr⟩ := hr
  have hn : l.length ≤ 1048576 := Nat.le_trans (len_le_cnts l) hs
  have HE : Hid (okS d l = (decide (l.length ≤ 20) && oks d l)) := rfl
  by_cases h20 : 20 < (l.length : Int)
  · go_enter Try.func102, Try.ntmps102
    go_wp2
    go_ret
    exact ⟨ret_bool (by rw [HE.out, decide_eq_false (by omega)]; rfl), Below.refl _ _⟩
  have HCELL : Hid (∀ k, k < l.length → ∃ b o, a = some ⟨b, o, none⟩ ∧ lo ≤ b ∧ b < hi ∧ CAt w lo hi b (o + k * 10) (l.getD k Cm.zero)) := by
    intro k hk
    rcases hr with rfl | ⟨b, o, rfl, g1, g2, hc⟩
    · simp at hk
    · exact ⟨b, o, rfl, g1, g2, hc.get k hk⟩
  clear hr
  have HIH : Hid (∀ k, k < l.length → OkS (l.getD k Cm.zero).A ∧ OkS (l.getD k Cm.zero).B ∧ (l.getD k Cm.zero).cnt ≤ 1048576) := fun k hk => ⟨(ih _ (mem_getD hk)).1, (ih _ (mem_getD hk)).2, by have := cnt_le_cnts hk; omega⟩
  have HT : Hid ((∀ i, i < l.length → (l.getD i Cm.zero).ok d = true) → oks d l = true) := oks_true
  have HF : Hid (∀ k, k < l.length → (l.getD k Cm.zero).ok d = false → oks d l = false) := fun k hk h => oks_false hk h
  have HE2 : Hid (okS d l = oks d l) := by show okS d l = _; rw [HE.out, decide_eq_true (by omega)]; rfl
  clear ih hs hm HE
  generalize hN : l.length = n at *
  clear hN
  go_enter Try.func102, Try.ntmps102
  go_wp2
  go_loopw [5] (fun i wr => ∃ k : Nat, k ≤ n ∧ i = .int .i64 k ∧ Hid (∀ i, i < k → (l.getD i Cm.zero).ok d = true) ∧ Below w.heap.size w wr) (fun i _ => n - (intOf i).toNat)
  case atStart => exact ⟨0, Nat.zero_le _, rfl, fun i hi => by omega, Below.refl _ _⟩
  case round =>
    obtain ⟨k, hk, rfl, hall, hbw⟩ := hrel
    by_cases hlt : k < n
    · obtain ⟨b, o, rfl, e1, e2, hc⟩ := HCELL.out k hlt
      obtain ⟨HA', HB', hcn⟩ := HIH.out k hlt
      obtain ⟨a0, a1, a2, a3, aA, aB, c0, c1, c2, c3, cA, cB, X, V⟩ := hc.out
      clear hc
      have HF2 : Hid ((l.getD k Cm.zero).ok d = false → oks d l = false) := HF.out k hlt
      have HS2 : Hid ((l.getD k Cm.zero).ok d = true → ∀ i, i < k + 1 → (l.getD i Cm.zero).ok d = true) := fun h i hi => by
        by_cases e : i = k
        · subst e; exact h
        · exact hall.out i (by omega)
      generalize hce : l.getD k Cm.zero = c at *
      clear hce
      replace X := X.below hbw (by omega)
      replace V := V.below hbw hh
      have x0 := X.e0; have x1 := X.e1; have x2 := X.e2; have x3 := X.e3; have x4 := X.e4; have x5 := X.e5; have x6 := X.e6; have x7 := X.e7; have x8 := X.e8; have x9 := X.e9
      clear X
      go_wp2_with fail
      clear x0 x1 x2 x3 x4 x5 x6 x7 x8 x9
      refine (l6ok_of HA' HB' _ _ _ _ _ _ _ _ _ _ _ _ _ _ _ d V (Nat.le_trans hh hbw.size) hcn hd).mono ?_
      rintro e w1 ⟨rfl, hb1⟩
      have hbw1 := hbw.trans (hb1.mono hbw.size)
      clear hb1 hbw V
      cases hok : c.ok d
      · go_wp2
        go_ret
        exact ⟨ret_bool (by rw [HE2.out, HF2.out hok]), hbw1⟩
      · go_wp2
        go_roundw
        case rel => exact ⟨k + 1, by omega, by go_num, HS2.out hok, hbw1⟩
        case measure => simp [intOf]; omega
    · go_wp2
      go_ret
      obtain rfl : k = n := by omega
      exact ⟨ret_bool (by rw [HE2.out, HT.out hall.out]), hbw⟩

end Go.Proofs.Ytccldjodijdciaa
