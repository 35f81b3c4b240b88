/-
  The contracts of impl.bare, impl.invOk and impl.fieldsOk.
-/
import Derived.Test.YtccldjodijdciaaCF
import Derived.Test.YtccldjodijdciaaCTo
import Derived.Outline
namespace Go.Proofs.Ytccldjodijdciaa
open Go.RowKit

theorem sizeV_zero {l0 l1 l2 l3 : List (Int × Int)} : (sizeV l0 l1 l2 l3 = 0) ↔ l0.length + l1.length + l2.length + l3.length = 0 := by
  unfold sizeV
  constructor
  · intro h; split at h <;> omega
  · intro h
    have h0 : l0 = [] := List.eq_nil_of_length_eq_zero (by omega)
    have h1 : l1 = [] := List.eq_nil_of_length_eq_zero (by omega)
    have h2 : l2 = [] := List.eq_nil_of_length_eq_zero (by omega)
    have h3 : l3 = [] := List.eq_nil_of_length_eq_zero (by omega)
    subst h0 h1 h2 h3
    rw [if_pos (by decide)]; rfl

set_option linter.unusedVariables false in
set_option maxHeartbeats 1000000 in
theorem bare_mk (kk x y : Int) (q : Bool) (l0 l1 l2 l3 : List (Int × Int)) (A B : List Cm) (a0 a1 a2 a3 aA aB : Option Addr) (c0 c1 c2 c3 cA cB : Nat) (w : World) (lo hi : Nat)
    (n0 : l0.length ≤ 1048576) (n1 : l1.length ≤ 1048576) (n2 : l2.length ≤ 1048576) (n3 : l3.length ≤ 1048576) (nA : A.length ≤ 1048576) (nB : B.length ≤ 1048576) (sA : cnts A ≤ 1048576) (sB : cnts B ≤ 1048576)
    (p0 : PIn w lo hi a0 l0) (p1 : PIn w lo hi a1 l1) (p2 : PIn w lo hi a2 l2) (p3 : PIn w lo hi a3 l3) (rA : CRow w lo hi aA A) (rB : CRow w lo hi aB B) (hh : hi ≤ w.heap.size) :
    Calls Try.prog 165 #[.agg #[.int .i64 kk, .int .i64 x, .int .i64 y, .bool q, .slice a0 l0.length c0, .slice a1 l1.length c1, .slice a2 l2.length c2, .slice a3 l3.length c3, .slice aA A.length cA, .slice aB B.length cB]] w fun e w' => e = .returned (.bool (!q && (decide (l0.length + l1.length + l2.length + l3.length = 0) && (decide (A.length = 0) && decide (B.length = 0))))) ∧ Below w.heap.size w w' := by
  have X := B10.new w (.int .i64 kk) (.int .i64 x) (.int .i64 y) (.bool q) (.slice a0 l0.length c0) (.slice a1 l1.length c1) (.slice a2 l2.length c2) (.slice a3 l3.length c3) (.slice aA A.length cA) (.slice aB B.length cB) 59
  have L : Below w.heap.size w (w.alloc (.cells #[.int .i64 kk, .int .i64 x, .int .i64 y, .bool q, .slice a0 l0.length c0, .slice a1 l1.length c1, .slice a2 l2.length c2, .slice a3 l3.length c3, .slice aA A.length cA, .slice aB B.length cB] 59)) := (Below.refl _ _).alloc (Nat.le_refl _) _
  clear rA rB sA sB
  generalize hna : A.length = na at *
  generalize hnb : B.length = nb at *
  clear hna hnb
  cases q
  rotate_left
  · go_enter Try.func165, Try.ntmps165
    go_wp2
    go_ret
    exact ⟨ret_bool (by rfl), L⟩
  go_enter Try.func165, Try.ntmps165
  go_wp2_with fail
  refine (iSizeOf_any _ _ _ _ _ _ _ _ _ _ _ _ _ n0 n1 n2 n3 (by exact p0.prow L hh) (by exact p1.prow L hh) (by exact p2.prow L hh) (by exact p3.prow L hh)).mono ?_
  rintro e w1 ⟨rfl, hb⟩
  replace X := X.below hb X.lt; replace L := L.trans (hb.mono L.size)
  clear hb
  have x8 := X.c8
  have x9 := X.c9
  by_cases hz : sizeV l0 l1 l2 l3 = 0
  rotate_left
  · have HZ : Hid (¬ (l0.length + l1.length + l2.length + l3.length = 0)) := fun h => hz (sizeV_zero.2 h)
    generalize sizeV l0 l1 l2 l3 = z at *
    go_wp2
    go_ret
    exact ⟨ret_bool (by rw [decide_eq_false HZ.out]; rfl), L⟩
  have HZ : Hid (l0.length + l1.length + l2.length + l3.length = 0) := sizeV_zero.1 hz
  rw [hz]
  clear hz
  by_cases ka : (na : Int) = 0
  rotate_left
  · go_wp2
    go_ret
    exact ⟨ret_bool (by rw [decide_eq_true HZ.out, decide_eq_false (show ¬ na = 0 by omega)]; rfl), L⟩
  go_wp2
  go_ret
  exact ⟨ret_bool (by rw [decide_eq_true HZ.out, decide_eq_true (show na = 0 by omega), Bool.eq_iff_iff]; simp), L⟩

set_option maxHeartbeats 1000000 in
theorem invOk_any (a0 a1 a2 a3 : Option Addr) (c0 c1 c2 c3 : Nat) (l0 l1 l2 l3 : List (Int × Int)) (w : World)
    (n0 : l0.length ≤ 1048576) (n1 : l1.length ≤ 1048576) (n2 : l2.length ≤ 1048576) (n3 : l3.length ≤ 1048576)
    (r0 : PRow w a0 l0) (r1 : PRow w a1 l1) (r2 : PRow w a2 l2) (r3 : PRow w a3 l3) :
    Calls Try.prog 167 #[.agg #[.slice a0 l0.length c0, .slice a1 l1.length c1, .slice a2 l2.length c2, .slice a3 l3.length c3]] w fun e w' => e = .returned (.bool (plainV l0 l1 l2 l3 && (decide (l0.length ≤ 4) && (decide (l1.length ≤ 4) && decide (l2.length + l3.length ≤ 3))))) ∧ Below w.heap.size w w' := by
  have B0 := Box.new w (.slice a0 l0.length c0) (.slice a1 l1.length c1) (.slice a2 l2.length c2) (.slice a3 l3.length c3) 30
  have L : Below w.heap.size w (w.alloc (.cells #[.slice a0 l0.length c0, .slice a1 l1.length c1, .slice a2 l2.length c2, .slice a3 l3.length c3] 30)) := (Below.refl _ _).alloc (Nat.le_refl _) _
  go_enter Try.func167, Try.ntmps167
  go_wp2_with fail
  refine (iPlain_any _ _ _ _ _ _ _ _ _ _ _ _ _ n0 n1 n2 n3 (by exact r0.below L (Nat.le_refl _)) (by exact r1.below L (Nat.le_refl _)) (by exact r2.below L (Nat.le_refl _)) (by exact r3.below L (Nat.le_refl _))).mono ?_
  rintro e w1 ⟨rfl, hb⟩
  have B1 := B0.below hb B0.lt
  replace L := L.trans (hb.mono L.size)
  clear hb B0
  have x0 := B1.c0; have x1 := B1.c1; have x2 := B1.c2; have x3 := B1.c3
  cases hP : plainV l0 l1 l2 l3
  · go_wp2
    go_ret
    exact ⟨ret_bool (by rw [hP]; rfl), L⟩
  by_cases k0 : (l0.length : Int) ≤ 4
  rotate_left
  · go_wp2
    go_ret
    exact ⟨ret_bool (by rw [decide_eq_false (show ¬ l0.length ≤ 4 by omega)]; rfl), L⟩
  by_cases k1 : (l1.length : Int) ≤ 4
  rotate_left
  · go_wp2
    go_ret
    exact ⟨ret_bool (by rw [decide_eq_true (show l0.length ≤ 4 by omega), decide_eq_false (show ¬ l1.length ≤ 4 by omega)]; rfl), L⟩
  go_wp2
  go_ret
  exact ⟨ret_bool (by rw [decide_eq_true (show l0.length ≤ 4 by omega), decide_eq_true (show l1.length ≤ 4 by omega), Bool.eq_iff_iff]; simp [hP]; omega), L⟩

set_option linter.unusedVariables false in
set_option maxHeartbeats 1000000 in
theorem fOk_0 (x y : Int) (q : Bool) (l0 l1 l2 l3 : List (Int × Int)) (A B : List Cm) (a0 a1 a2 a3 aA aB : Option Addr) (c0 c1 c2 c3 cA cB : Nat) (w : World) (lo hi : Nat)
    (n0 : l0.length ≤ 1048576) (n1 : l1.length ≤ 1048576) (n2 : l2.length ≤ 1048576) (n3 : l3.length ≤ 1048576) (nA : A.length ≤ 1048576) (nB : B.length ≤ 1048576) (sA : cnts A ≤ 1048576) (sB : cnts B ≤ 1048576)
    (p0 : PIn w lo hi a0 l0) (p1 : PIn w lo hi a1 l1) (p2 : PIn w lo hi a2 l2) (p3 : PIn w lo hi a3 l3) (rA : CRow w lo hi aA A) (rB : CRow w lo hi aB B) (hh : hi ≤ w.heap.size) :
    Calls Try.prog 143 #[.agg #[.int .i64 0, .int .i64 x, .int .i64 y, .bool q, .slice a0 l0.length c0, .slice a1 l1.length c1, .slice a2 l2.length c2, .slice a3 l3.length c3, .slice aA A.length cA, .slice aB B.length cB]] w fun e w' => e = .returned (.bool (fOk (.mk 0 x y q l0 l1 l2 l3 A B))) ∧ Below w.heap.size w w' := by
  have X := B10.new w (.int .i64 0) (.int .i64 x) (.int .i64 y) (.bool q) (.slice a0 l0.length c0) (.slice a1 l1.length c1) (.slice a2 l2.length c2) (.slice a3 l3.length c3) (.slice aA A.length cA) (.slice aB B.length cB) 59
  have L : Below w.heap.size w (w.alloc (.cells #[.int .i64 0, .int .i64 x, .int .i64 y, .bool q, .slice a0 l0.length c0, .slice a1 l1.length c1, .slice a2 l2.length c2, .slice a3 l3.length c3, .slice aA A.length cA, .slice aB B.length cB] 59)) := (Below.refl _ _).alloc (Nat.le_refl _) _
  have HV : Hid (fOk (.mk 0 x y q l0 l1 l2 l3 A B) = ((!q && (decide (l0.length + l1.length + l2.length + l3.length = 0) && (decide (A.length = 0) && decide (B.length = 0)))) && (isVar x && isVal y))) := fOk_set (.inl rfl)
  go_enter Try.func143, Try.ntmps143
  go_wp2_with fail
  refine (bare_mk 0 x y q l0 l1 l2 l3 A B a0 a1 a2 a3 aA aB c0 c1 c2 c3 cA cB _ lo hi n0 n1 n2 n3 nA nB sA sB (by exact p0.keep (Eqv.of_below L hh) (Nat.le_refl _) (Nat.le_refl _)) (by exact p1.keep (Eqv.of_below L hh) (Nat.le_refl _) (Nat.le_refl _)) (by exact p2.keep (Eqv.of_below L hh) (Nat.le_refl _) (Nat.le_refl _)) (by exact p3.keep (Eqv.of_below L hh) (Nat.le_refl _) (Nat.le_refl _)) (by exact rA.below L hh) (by exact rB.below L hh) (by exact Nat.le_trans hh L.size)).mono ?_
  rintro e w1 ⟨rfl, hb⟩
  replace X := X.below hb X.lt; replace L := L.trans (hb.mono L.size)
  clear hb
  have x1 := X.c1
  have x2 := X.c2
  generalize (!q && (decide (l0.length + l1.length + l2.length + l3.length = 0) && (decide (A.length = 0) && decide (B.length = 0)))) = bb at *
  cases bb
  · go_wp2
    go_ret
    exact ⟨ret_bool (by rw [HV.out]; rfl), L⟩
  go_wp2_with fail
  refine (isVar_any _ _).mono ?_
  rintro e w1 ⟨rfl, rfl⟩
  cases hx : isVar x
  · go_wp2
    go_ret
    exact ⟨ret_bool (by rw [HV.out, hx]; rfl), L⟩
  go_wp2_with fail
  refine (isValue_any _ _).mono ?_
  rintro e w1 ⟨rfl, rfl⟩
  go_wp2
  go_ret
  exact ⟨ret_bool (by rw [HV.out, hx]; simp), L⟩

set_option linter.unusedVariables false in
set_option maxHeartbeats 1000000 in
theorem fOk_1 (x y : Int) (q : Bool) (l0 l1 l2 l3 : List (Int × Int)) (A B : List Cm) (a0 a1 a2 a3 aA aB : Option Addr) (c0 c1 c2 c3 cA cB : Nat) (w : World) (lo hi : Nat)
    (n0 : l0.length ≤ 1048576) (n1 : l1.length ≤ 1048576) (n2 : l2.length ≤ 1048576) (n3 : l3.length ≤ 1048576) (nA : A.length ≤ 1048576) (nB : B.length ≤ 1048576) (sA : cnts A ≤ 1048576) (sB : cnts B ≤ 1048576)
    (p0 : PIn w lo hi a0 l0) (p1 : PIn w lo hi a1 l1) (p2 : PIn w lo hi a2 l2) (p3 : PIn w lo hi a3 l3) (rA : CRow w lo hi aA A) (rB : CRow w lo hi aB B) (hh : hi ≤ w.heap.size) :
    Calls Try.prog 143 #[.agg #[.int .i64 1, .int .i64 x, .int .i64 y, .bool q, .slice a0 l0.length c0, .slice a1 l1.length c1, .slice a2 l2.length c2, .slice a3 l3.length c3, .slice aA A.length cA, .slice aB B.length cB]] w fun e w' => e = .returned (.bool (fOk (.mk 1 x y q l0 l1 l2 l3 A B))) ∧ Below w.heap.size w w' := by
  have X := B10.new w (.int .i64 1) (.int .i64 x) (.int .i64 y) (.bool q) (.slice a0 l0.length c0) (.slice a1 l1.length c1) (.slice a2 l2.length c2) (.slice a3 l3.length c3) (.slice aA A.length cA) (.slice aB B.length cB) 59
  have L : Below w.heap.size w (w.alloc (.cells #[.int .i64 1, .int .i64 x, .int .i64 y, .bool q, .slice a0 l0.length c0, .slice a1 l1.length c1, .slice a2 l2.length c2, .slice a3 l3.length c3, .slice aA A.length cA, .slice aB B.length cB] 59)) := (Below.refl _ _).alloc (Nat.le_refl _) _
  have HV : Hid (fOk (.mk 1 x y q l0 l1 l2 l3 A B) = ((!q && (decide (l0.length + l1.length + l2.length + l3.length = 0) && (decide (A.length = 0) && decide (B.length = 0)))) && (isVar x && isVar y))) := fOk_load rfl
  go_enter Try.func143, Try.ntmps143
  go_wp2_with fail
  refine (bare_mk 1 x y q l0 l1 l2 l3 A B a0 a1 a2 a3 aA aB c0 c1 c2 c3 cA cB _ lo hi n0 n1 n2 n3 nA nB sA sB (by exact p0.keep (Eqv.of_below L hh) (Nat.le_refl _) (Nat.le_refl _)) (by exact p1.keep (Eqv.of_below L hh) (Nat.le_refl _) (Nat.le_refl _)) (by exact p2.keep (Eqv.of_below L hh) (Nat.le_refl _) (Nat.le_refl _)) (by exact p3.keep (Eqv.of_below L hh) (Nat.le_refl _) (Nat.le_refl _)) (by exact rA.below L hh) (by exact rB.below L hh) (by exact Nat.le_trans hh L.size)).mono ?_
  rintro e w1 ⟨rfl, hb⟩
  replace X := X.below hb X.lt; replace L := L.trans (hb.mono L.size)
  clear hb
  have x1 := X.c1
  have x2 := X.c2
  generalize (!q && (decide (l0.length + l1.length + l2.length + l3.length = 0) && (decide (A.length = 0) && decide (B.length = 0)))) = bb at *
  cases bb
  · go_wp2
    go_ret
    exact ⟨ret_bool (by rw [HV.out]; rfl), L⟩
  go_wp2_with fail
  refine (isVar_any _ _).mono ?_
  rintro e w1 ⟨rfl, rfl⟩
  cases hx : isVar x
  · go_wp2
    go_ret
    exact ⟨ret_bool (by rw [HV.out, hx]; rfl), L⟩
  go_wp2_with fail
  refine (isVar_any _ _).mono ?_
  rintro e w1 ⟨rfl, rfl⟩
  go_wp2
  go_ret
  exact ⟨ret_bool (by rw [HV.out, hx]; simp), L⟩

set_option linter.unusedVariables false in
set_option maxHeartbeats 1000000 in
theorem fOk_2 (x y : Int) (q : Bool) (l0 l1 l2 l3 : List (Int × Int)) (A B : List Cm) (a0 a1 a2 a3 aA aB : Option Addr) (c0 c1 c2 c3 cA cB : Nat) (w : World) (lo hi : Nat)
    (n0 : l0.length ≤ 1048576) (n1 : l1.length ≤ 1048576) (n2 : l2.length ≤ 1048576) (n3 : l3.length ≤ 1048576) (nA : A.length ≤ 1048576) (nB : B.length ≤ 1048576) (sA : cnts A ≤ 1048576) (sB : cnts B ≤ 1048576)
    (p0 : PIn w lo hi a0 l0) (p1 : PIn w lo hi a1 l1) (p2 : PIn w lo hi a2 l2) (p3 : PIn w lo hi a3 l3) (rA : CRow w lo hi aA A) (rB : CRow w lo hi aB B) (hh : hi ≤ w.heap.size) :
    Calls Try.prog 143 #[.agg #[.int .i64 2, .int .i64 x, .int .i64 y, .bool q, .slice a0 l0.length c0, .slice a1 l1.length c1, .slice a2 l2.length c2, .slice a3 l3.length c3, .slice aA A.length cA, .slice aB B.length cB]] w fun e w' => e = .returned (.bool (fOk (.mk 2 x y q l0 l1 l2 l3 A B))) ∧ Below w.heap.size w w' := by
  have X := B10.new w (.int .i64 2) (.int .i64 x) (.int .i64 y) (.bool q) (.slice a0 l0.length c0) (.slice a1 l1.length c1) (.slice a2 l2.length c2) (.slice a3 l3.length c3) (.slice aA A.length cA) (.slice aB B.length cB) 59
  have L : Below w.heap.size w (w.alloc (.cells #[.int .i64 2, .int .i64 x, .int .i64 y, .bool q, .slice a0 l0.length c0, .slice a1 l1.length c1, .slice a2 l2.length c2, .slice a3 l3.length c3, .slice aA A.length cA, .slice aB B.length cB] 59)) := (Below.refl _ _).alloc (Nat.le_refl _) _
  have HV : Hid (fOk (.mk 2 x y q l0 l1 l2 l3 A B) = ((!q && (decide (l0.length + l1.length + l2.length + l3.length = 0) && (decide (A.length = 0) && decide (B.length = 0)))) && (isVar x && isVal y))) := fOk_set (.inr rfl)
  go_enter Try.func143, Try.ntmps143
  go_wp2_with fail
  refine (bare_mk 2 x y q l0 l1 l2 l3 A B a0 a1 a2 a3 aA aB c0 c1 c2 c3 cA cB _ lo hi n0 n1 n2 n3 nA nB sA sB (by exact p0.keep (Eqv.of_below L hh) (Nat.le_refl _) (Nat.le_refl _)) (by exact p1.keep (Eqv.of_below L hh) (Nat.le_refl _) (Nat.le_refl _)) (by exact p2.keep (Eqv.of_below L hh) (Nat.le_refl _) (Nat.le_refl _)) (by exact p3.keep (Eqv.of_below L hh) (Nat.le_refl _) (Nat.le_refl _)) (by exact rA.below L hh) (by exact rB.below L hh) (by exact Nat.le_trans hh L.size)).mono ?_
  rintro e w1 ⟨rfl, hb⟩
  replace X := X.below hb X.lt; replace L := L.trans (hb.mono L.size)
  clear hb
  have x1 := X.c1
  have x2 := X.c2
  generalize (!q && (decide (l0.length + l1.length + l2.length + l3.length = 0) && (decide (A.length = 0) && decide (B.length = 0)))) = bb at *
  cases bb
  · go_wp2
    go_ret
    exact ⟨ret_bool (by rw [HV.out]; rfl), L⟩
  go_wp2_with fail
  refine (isVar_any _ _).mono ?_
  rintro e w1 ⟨rfl, rfl⟩
  cases hx : isVar x
  · go_wp2
    go_ret
    exact ⟨ret_bool (by rw [HV.out, hx]; rfl), L⟩
  go_wp2_with fail
  refine (isValue_any _ _).mono ?_
  rintro e w1 ⟨rfl, rfl⟩
  go_wp2
  go_ret
  exact ⟨ret_bool (by rw [HV.out, hx]; simp), L⟩

set_option linter.unusedVariables false in
set_option maxHeartbeats 1000000 in
theorem fOk_3 (x y : Int) (q : Bool) (l0 l1 l2 l3 : List (Int × Int)) (A B : List Cm) (a0 a1 a2 a3 aA aB : Option Addr) (c0 c1 c2 c3 cA cB : Nat) (w : World) (lo hi : Nat)
    (n0 : l0.length ≤ 1048576) (n1 : l1.length ≤ 1048576) (n2 : l2.length ≤ 1048576) (n3 : l3.length ≤ 1048576) (nA : A.length ≤ 1048576) (nB : B.length ≤ 1048576) (sA : cnts A ≤ 1048576) (sB : cnts B ≤ 1048576)
    (p0 : PIn w lo hi a0 l0) (p1 : PIn w lo hi a1 l1) (p2 : PIn w lo hi a2 l2) (p3 : PIn w lo hi a3 l3) (rA : CRow w lo hi aA A) (rB : CRow w lo hi aB B) (hh : hi ≤ w.heap.size) :
    Calls Try.prog 143 #[.agg #[.int .i64 3, .int .i64 x, .int .i64 y, .bool q, .slice a0 l0.length c0, .slice a1 l1.length c1, .slice a2 l2.length c2, .slice a3 l3.length c3, .slice aA A.length cA, .slice aB B.length cB]] w fun e w' => e = .returned (.bool (fOk (.mk 3 x y q l0 l1 l2 l3 A B))) ∧ Below w.heap.size w w' := by
  have X := B10.new w (.int .i64 3) (.int .i64 x) (.int .i64 y) (.bool q) (.slice a0 l0.length c0) (.slice a1 l1.length c1) (.slice a2 l2.length c2) (.slice a3 l3.length c3) (.slice aA A.length cA) (.slice aB B.length cB) 59
  have L : Below w.heap.size w (w.alloc (.cells #[.int .i64 3, .int .i64 x, .int .i64 y, .bool q, .slice a0 l0.length c0, .slice a1 l1.length c1, .slice a2 l2.length c2, .slice a3 l3.length c3, .slice aA A.length cA, .slice aB B.length cB] 59)) := (Below.refl _ _).alloc (Nat.le_refl _) _
  have HV : Hid (fOk (.mk 3 x y q l0 l1 l2 l3 A B) = ((!q && (decide (l0.length + l1.length + l2.length + l3.length = 0) && (decide (A.length = 0) && decide (B.length = 0)))) && (isVar x && decide (y = 0)))) := fOk_new (.inl rfl)
  go_enter Try.func143, Try.ntmps143
  go_wp2_with fail
  refine (bare_mk 3 x y q l0 l1 l2 l3 A B a0 a1 a2 a3 aA aB c0 c1 c2 c3 cA cB _ lo hi n0 n1 n2 n3 nA nB sA sB (by exact p0.keep (Eqv.of_below L hh) (Nat.le_refl _) (Nat.le_refl _)) (by exact p1.keep (Eqv.of_below L hh) (Nat.le_refl _) (Nat.le_refl _)) (by exact p2.keep (Eqv.of_below L hh) (Nat.le_refl _) (Nat.le_refl _)) (by exact p3.keep (Eqv.of_below L hh) (Nat.le_refl _) (Nat.le_refl _)) (by exact rA.below L hh) (by exact rB.below L hh) (by exact Nat.le_trans hh L.size)).mono ?_
  rintro e w1 ⟨rfl, hb⟩
  replace X := X.below hb X.lt; replace L := L.trans (hb.mono L.size)
  clear hb
  have x1 := X.c1
  have x2 := X.c2
  generalize (!q && (decide (l0.length + l1.length + l2.length + l3.length = 0) && (decide (A.length = 0) && decide (B.length = 0)))) = bb at *
  cases bb
  · go_wp2
    go_ret
    exact ⟨ret_bool (by rw [HV.out]; rfl), L⟩
  go_wp2_with fail
  refine (isVar_any _ _).mono ?_
  rintro e w1 ⟨rfl, rfl⟩
  cases hx : isVar x
  · go_wp2
    go_ret
    exact ⟨ret_bool (by rw [HV.out, hx]; rfl), L⟩
  by_cases hy : y = 0
  · subst hy
    go_wp2
    go_ret
    exact ⟨ret_bool (by rw [HV.out, hx]; rfl), L⟩
  go_wp2
  go_ret
  exact ⟨ret_bool (by rw [HV.out, hx]; simp [hy]), L⟩

set_option linter.unusedVariables false in
set_option maxHeartbeats 1000000 in
theorem fOk_4 (x y : Int) (q : Bool) (l0 l1 l2 l3 : List (Int × Int)) (A B : List Cm) (a0 a1 a2 a3 aA aB : Option Addr) (c0 c1 c2 c3 cA cB : Nat) (w : World) (lo hi : Nat)
    (n0 : l0.length ≤ 1048576) (n1 : l1.length ≤ 1048576) (n2 : l2.length ≤ 1048576) (n3 : l3.length ≤ 1048576) (nA : A.length ≤ 1048576) (nB : B.length ≤ 1048576) (sA : cnts A ≤ 1048576) (sB : cnts B ≤ 1048576)
    (p0 : PIn w lo hi a0 l0) (p1 : PIn w lo hi a1 l1) (p2 : PIn w lo hi a2 l2) (p3 : PIn w lo hi a3 l3) (rA : CRow w lo hi aA A) (rB : CRow w lo hi aB B) (hh : hi ≤ w.heap.size) :
    Calls Try.prog 143 #[.agg #[.int .i64 4, .int .i64 x, .int .i64 y, .bool q, .slice a0 l0.length c0, .slice a1 l1.length c1, .slice a2 l2.length c2, .slice a3 l3.length c3, .slice aA A.length cA, .slice aB B.length cB]] w fun e w' => e = .returned (.bool (fOk (.mk 4 x y q l0 l1 l2 l3 A B))) ∧ Below w.heap.size w w' := by
  have X := B10.new w (.int .i64 4) (.int .i64 x) (.int .i64 y) (.bool q) (.slice a0 l0.length c0) (.slice a1 l1.length c1) (.slice a2 l2.length c2) (.slice a3 l3.length c3) (.slice aA A.length cA) (.slice aB B.length cB) 59
  have L : Below w.heap.size w (w.alloc (.cells #[.int .i64 4, .int .i64 x, .int .i64 y, .bool q, .slice a0 l0.length c0, .slice a1 l1.length c1, .slice a2 l2.length c2, .slice a3 l3.length c3, .slice aA A.length cA, .slice aB B.length cB] 59)) := (Below.refl _ _).alloc (Nat.le_refl _) _
  have HV : Hid (fOk (.mk 4 x y q l0 l1 l2 l3 A B) = ((!q && (decide (l0.length + l1.length + l2.length + l3.length = 0) && (decide (A.length = 0) && decide (B.length = 0)))) && (isVar x && decide (y = 0)))) := fOk_new (.inr rfl)
  go_enter Try.func143, Try.ntmps143
  go_wp2_with fail
  refine (bare_mk 4 x y q l0 l1 l2 l3 A B a0 a1 a2 a3 aA aB c0 c1 c2 c3 cA cB _ lo hi n0 n1 n2 n3 nA nB sA sB (by exact p0.keep (Eqv.of_below L hh) (Nat.le_refl _) (Nat.le_refl _)) (by exact p1.keep (Eqv.of_below L hh) (Nat.le_refl _) (Nat.le_refl _)) (by exact p2.keep (Eqv.of_below L hh) (Nat.le_refl _) (Nat.le_refl _)) (by exact p3.keep (Eqv.of_below L hh) (Nat.le_refl _) (Nat.le_refl _)) (by exact rA.below L hh) (by exact rB.below L hh) (by exact Nat.le_trans hh L.size)).mono ?_
  rintro e w1 ⟨rfl, hb⟩
  replace X := X.below hb X.lt; replace L := L.trans (hb.mono L.size)
  clear hb
  have x1 := X.c1
  have x2 := X.c2
  generalize (!q && (decide (l0.length + l1.length + l2.length + l3.length = 0) && (decide (A.length = 0) && decide (B.length = 0)))) = bb at *
  cases bb
  · go_wp2
    go_ret
    exact ⟨ret_bool (by rw [HV.out]; rfl), L⟩
  go_wp2_with fail
  refine (isVar_any _ _).mono ?_
  rintro e w1 ⟨rfl, rfl⟩
  cases hx : isVar x
  · go_wp2
    go_ret
    exact ⟨ret_bool (by rw [HV.out, hx]; rfl), L⟩
  by_cases hy : y = 0
  · subst hy
    go_wp2
    go_ret
    exact ⟨ret_bool (by rw [HV.out, hx]; rfl), L⟩
  go_wp2
  go_ret
  exact ⟨ret_bool (by rw [HV.out, hx]; simp [hy]), L⟩

set_option linter.unusedVariables false in
set_option maxHeartbeats 1000000 in
theorem fOk_5 (x y : Int) (q : Bool) (l0 l1 l2 l3 : List (Int × Int)) (A B : List Cm) (a0 a1 a2 a3 aA aB : Option Addr) (c0 c1 c2 c3 cA cB : Nat) (w : World) (lo hi : Nat)
    (n0 : l0.length ≤ 1048576) (n1 : l1.length ≤ 1048576) (n2 : l2.length ≤ 1048576) (n3 : l3.length ≤ 1048576) (nA : A.length ≤ 1048576) (nB : B.length ≤ 1048576) (sA : cnts A ≤ 1048576) (sB : cnts B ≤ 1048576)
    (p0 : PIn w lo hi a0 l0) (p1 : PIn w lo hi a1 l1) (p2 : PIn w lo hi a2 l2) (p3 : PIn w lo hi a3 l3) (rA : CRow w lo hi aA A) (rB : CRow w lo hi aB B) (hh : hi ≤ w.heap.size) :
    Calls Try.prog 143 #[.agg #[.int .i64 5, .int .i64 x, .int .i64 y, .bool q, .slice a0 l0.length c0, .slice a1 l1.length c1, .slice a2 l2.length c2, .slice a3 l3.length c3, .slice aA A.length cA, .slice aB B.length cB]] w fun e w' => e = .returned (.bool (fOk (.mk 5 x y q l0 l1 l2 l3 A B))) ∧ Below w.heap.size w w' := by
  have X := B10.new w (.int .i64 5) (.int .i64 x) (.int .i64 y) (.bool q) (.slice a0 l0.length c0) (.slice a1 l1.length c1) (.slice a2 l2.length c2) (.slice a3 l3.length c3) (.slice aA A.length cA) (.slice aB B.length cB) 59
  have L : Below w.heap.size w (w.alloc (.cells #[.int .i64 5, .int .i64 x, .int .i64 y, .bool q, .slice a0 l0.length c0, .slice a1 l1.length c1, .slice a2 l2.length c2, .slice a3 l3.length c3, .slice aA A.length cA, .slice aB B.length cB] 59)) := (Below.refl _ _).alloc (Nat.le_refl _) _
  have HV : Hid (fOk (.mk 5 x y q l0 l1 l2 l3 A B) = (isVal x && (isVal y && decide (l0.length + l1.length + l2.length + l3.length = 0)))) := fOk_if rfl
  go_enter Try.func143, Try.ntmps143
  go_wp2_with fail
  refine (isValue_any _ _).mono ?_
  rintro e w1 ⟨rfl, rfl⟩
  cases hx : isVal x
  · go_wp2
    go_ret
    exact ⟨ret_bool (by rw [HV.out, hx]; rfl), L⟩
  go_wp2_with fail
  refine (isValue_any _ _).mono ?_
  rintro e w1 ⟨rfl, rfl⟩
  cases hy : isVal y
  · go_wp2
    go_ret
    exact ⟨ret_bool (by rw [HV.out, hx, hy]; rfl), L⟩
  go_wp2_with fail
  refine (iSizeOf_any _ _ _ _ _ _ _ _ _ _ _ _ _ n0 n1 n2 n3 (by exact p0.prow L hh) (by exact p1.prow L hh) (by exact p2.prow L hh) (by exact p3.prow L hh)).mono ?_
  rintro e w1 ⟨rfl, hb⟩
  replace X := X.below hb X.lt; replace L := L.trans (hb.mono L.size)
  clear hb
  by_cases hz : sizeV l0 l1 l2 l3 = 0
  rotate_left
  · have HZ : Hid (¬ (l0.length + l1.length + l2.length + l3.length = 0)) := fun h => hz (sizeV_zero.2 h)
    generalize sizeV l0 l1 l2 l3 = z at *
    go_wp2
    go_ret
    exact ⟨ret_bool (by rw [HV.out, hx, hy, decide_eq_false HZ.out]; simp [hz]), L⟩
  have HZ : Hid (l0.length + l1.length + l2.length + l3.length = 0) := sizeV_zero.1 hz
  rw [hz]
  clear hz
  go_wp2
  go_ret
  exact ⟨ret_bool (by rw [HV.out, hx, hy, decide_eq_true HZ.out]; rfl), L⟩

set_option linter.unusedVariables false in
set_option maxHeartbeats 1000000 in
theorem fOk_6 (x y : Int) (q : Bool) (l0 l1 l2 l3 : List (Int × Int)) (A B : List Cm) (a0 a1 a2 a3 aA aB : Option Addr) (c0 c1 c2 c3 cA cB : Nat) (w : World) (lo hi : Nat)
    (n0 : l0.length ≤ 1048576) (n1 : l1.length ≤ 1048576) (n2 : l2.length ≤ 1048576) (n3 : l3.length ≤ 1048576) (nA : A.length ≤ 1048576) (nB : B.length ≤ 1048576) (sA : cnts A ≤ 1048576) (sB : cnts B ≤ 1048576)
    (p0 : PIn w lo hi a0 l0) (p1 : PIn w lo hi a1 l1) (p2 : PIn w lo hi a2 l2) (p3 : PIn w lo hi a3 l3) (rA : CRow w lo hi aA A) (rB : CRow w lo hi aB B) (hh : hi ≤ w.heap.size) :
    Calls Try.prog 143 #[.agg #[.int .i64 6, .int .i64 x, .int .i64 y, .bool q, .slice a0 l0.length c0, .slice a1 l1.length c1, .slice a2 l2.length c2, .slice a3 l3.length c3, .slice aA A.length cA, .slice aB B.length cB]] w fun e w' => e = .returned (.bool (fOk (.mk 6 x y q l0 l1 l2 l3 A B))) ∧ Below w.heap.size w w' := by
  have X := B10.new w (.int .i64 6) (.int .i64 x) (.int .i64 y) (.bool q) (.slice a0 l0.length c0) (.slice a1 l1.length c1) (.slice a2 l2.length c2) (.slice a3 l3.length c3) (.slice aA A.length cA) (.slice aB B.length cB) 59
  have L : Below w.heap.size w (w.alloc (.cells #[.int .i64 6, .int .i64 x, .int .i64 y, .bool q, .slice a0 l0.length c0, .slice a1 l1.length c1, .slice a2 l2.length c2, .slice a3 l3.length c3, .slice aA A.length cA, .slice aB B.length cB] 59)) := (Below.refl _ _).alloc (Nat.le_refl _) _
  have HV : Hid (fOk (.mk 6 x y q l0 l1 l2 l3 A B) = (isVal x && (isVal y && ((plainV l0 l1 l2 l3 && (decide (l0.length ≤ 4) && (decide (l1.length ≤ 4) && decide (l2.length + l3.length ≤ 3)))) && decide (B.length = 0))))) := fOk_while rfl
  clear rA rB sA sB
  generalize hnb : B.length = nb at *
  clear hnb
  go_enter Try.func143, Try.ntmps143
  go_wp2_with fail
  refine (isValue_any _ _).mono ?_
  rintro e w1 ⟨rfl, rfl⟩
  cases hx : isVal x
  · go_wp2
    go_ret
    exact ⟨ret_bool (by rw [HV.out, hx]; rfl), L⟩
  go_wp2_with fail
  refine (isValue_any _ _).mono ?_
  rintro e w1 ⟨rfl, rfl⟩
  cases hy : isVal y
  · go_wp2
    go_ret
    exact ⟨ret_bool (by rw [HV.out, hx, hy]; rfl), L⟩
  go_wp2_with fail
  refine (invOk_any _ _ _ _ _ _ _ _ _ _ _ _ _ n0 n1 n2 n3 (by exact p0.prow L hh) (by exact p1.prow L hh) (by exact p2.prow L hh) (by exact p3.prow L hh)).mono ?_
  rintro e w1 ⟨rfl, hb⟩
  replace X := X.below hb X.lt; replace L := L.trans (hb.mono L.size)
  clear hb
  have x9 := X.c9
  generalize (plainV l0 l1 l2 l3 && (decide (l0.length ≤ 4) && (decide (l1.length ≤ 4) && decide (l2.length + l3.length ≤ 3)))) = bb at *
  cases bb
  · go_wp2
    go_ret
    exact ⟨ret_bool (by rw [HV.out, hx, hy]; rfl), L⟩
  go_wp2
  go_ret
  exact ⟨ret_bool (by rw [HV.out, hx, hy, Bool.eq_iff_iff]; simp), L⟩

set_option linter.unusedVariables false in
set_option maxHeartbeats 1000000 in
theorem fOk_mk (kk x y : Int) (q : Bool) (l0 l1 l2 l3 : List (Int × Int)) (A B : List Cm) (a0 a1 a2 a3 aA aB : Option Addr) (c0 c1 c2 c3 cA cB : Nat) (w : World) (lo hi : Nat)
    (n0 : l0.length ≤ 1048576) (n1 : l1.length ≤ 1048576) (n2 : l2.length ≤ 1048576) (n3 : l3.length ≤ 1048576) (nA : A.length ≤ 1048576) (nB : B.length ≤ 1048576) (sA : cnts A ≤ 1048576) (sB : cnts B ≤ 1048576)
    (p0 : PIn w lo hi a0 l0) (p1 : PIn w lo hi a1 l1) (p2 : PIn w lo hi a2 l2) (p3 : PIn w lo hi a3 l3) (rA : CRow w lo hi aA A) (rB : CRow w lo hi aB B) (hh : hi ≤ w.heap.size) :
    Calls Try.prog 143 #[.agg #[.int .i64 kk, .int .i64 x, .int .i64 y, .bool q, .slice a0 l0.length c0, .slice a1 l1.length c1, .slice a2 l2.length c2, .slice a3 l3.length c3, .slice aA A.length cA, .slice aB B.length cB]] w fun e w' => e = .returned (.bool (fOk (.mk kk x y q l0 l1 l2 l3 A B))) ∧ Below w.heap.size w w' := by
  have X := B10.new w (.int .i64 kk) (.int .i64 x) (.int .i64 y) (.bool q) (.slice a0 l0.length c0) (.slice a1 l1.length c1) (.slice a2 l2.length c2) (.slice a3 l3.length c3) (.slice aA A.length cA) (.slice aB B.length cB) 59
  have L : Below w.heap.size w (w.alloc (.cells #[.int .i64 kk, .int .i64 x, .int .i64 y, .bool q, .slice a0 l0.length c0, .slice a1 l1.length c1, .slice a2 l2.length c2, .slice a3 l3.length c3, .slice aA A.length cA, .slice aB B.length cB] 59)) := (Below.refl _ _).alloc (Nat.le_refl _) _
  by_cases k1 : kk < 0
  · have q0 : ¬ kk = 0 := by omega
    have q1 : ¬ kk = 1 := by omega
    have q2 : ¬ kk = 2 := by omega
    have q3 : ¬ kk = 3 := by omega
    have q4 : ¬ kk = 4 := by omega
    have q5 : ¬ kk = 5 := by omega
    have q6 : ¬ kk = 6 := by omega
    have HN : Hid (fOk (.mk kk x y q l0 l1 l2 l3 A B) = false) := fOk_no (c := (.mk kk x y q l0 l1 l2 l3 A B)) (.inl k1)
    go_enter Try.func143, Try.ntmps143
    go_wp2
    go_ret
    exact ⟨ret_bool HN.out.symm, L⟩
  by_cases k2 : 6 < kk
  · have q0 : ¬ kk = 0 := by omega
    have q1 : ¬ kk = 1 := by omega
    have q2 : ¬ kk = 2 := by omega
    have q3 : ¬ kk = 3 := by omega
    have q4 : ¬ kk = 4 := by omega
    have q5 : ¬ kk = 5 := by omega
    have q6 : ¬ kk = 6 := by omega
    have HN : Hid (fOk (.mk kk x y q l0 l1 l2 l3 A B) = false) := fOk_no (c := (.mk kk x y q l0 l1 l2 l3 A B)) (.inr k2)
    go_enter Try.func143, Try.ntmps143
    go_wp2
    go_ret
    exact ⟨ret_bool HN.out.symm, L⟩
  clear X L
  obtain rfl | rfl | rfl | rfl | rfl | rfl | rfl : kk = 0 ∨ kk = 1 ∨ kk = 2 ∨ kk = 3 ∨ kk = 4 ∨ kk = 5 ∨ kk = 6 := by omega
  · exact fOk_0 x y q l0 l1 l2 l3 A B a0 a1 a2 a3 aA aB c0 c1 c2 c3 cA cB w lo hi n0 n1 n2 n3 nA nB sA sB p0 p1 p2 p3 rA rB hh
  · exact fOk_1 x y q l0 l1 l2 l3 A B a0 a1 a2 a3 aA aB c0 c1 c2 c3 cA cB w lo hi n0 n1 n2 n3 nA nB sA sB p0 p1 p2 p3 rA rB hh
  · exact fOk_2 x y q l0 l1 l2 l3 A B a0 a1 a2 a3 aA aB c0 c1 c2 c3 cA cB w lo hi n0 n1 n2 n3 nA nB sA sB p0 p1 p2 p3 rA rB hh
  · exact fOk_3 x y q l0 l1 l2 l3 A B a0 a1 a2 a3 aA aB c0 c1 c2 c3 cA cB w lo hi n0 n1 n2 n3 nA nB sA sB p0 p1 p2 p3 rA rB hh
  · exact fOk_4 x y q l0 l1 l2 l3 A B a0 a1 a2 a3 aA aB c0 c1 c2 c3 cA cB w lo hi n0 n1 n2 n3 nA nB sA sB p0 p1 p2 p3 rA rB hh
  · exact fOk_5 x y q l0 l1 l2 l3 A B a0 a1 a2 a3 aA aB c0 c1 c2 c3 cA cB w lo hi n0 n1 n2 n3 nA nB sA sB p0 p1 p2 p3 rA rB hh
  · exact fOk_6 x y q l0 l1 l2 l3 A B a0 a1 a2 a3 aA aB c0 c1 c2 c3 cA cB w lo hi n0 n1 n2 n3 nA nB sA sB p0 p1 p2 p3 rA rB hh

theorem fieldsOk_of {c : Cm} (a0 a1 a2 a3 aA aB : Option Addr) (c0 c1 c2 c3 cA cB : Nat) (w : World) (lo hi : Nat) (V : CVal w lo hi c a0 a1 a2 a3 aA aB) (hh : hi ≤ w.heap.size) (hc : c.cnt ≤ 1048576) :
    Calls Try.prog 143 #[.agg #[.int .i64 c.k, .int .i64 c.x, .int .i64 c.y, .bool c.q, .slice a0 c.l0.length c0, .slice a1 c.l1.length c1, .slice a2 c.l2.length c2, .slice a3 c.l3.length c3, .slice aA c.A.length cA, .slice aB c.B.length cB]] w fun e w' => e = .returned (.bool (fOk c)) ∧ Below w.heap.size w w' := by
  have F := Fit.of hc
  cases c with
  | mk kk x y q l0 l1 l2 l3 A B => exact fOk_mk kk x y q l0 l1 l2 l3 A B a0 a1 a2 a3 aA aB c0 c1 c2 c3 cA cB w lo hi F.n0 F.n1 F.n2 F.n3 F.mA F.mB F.nA F.nB V.p0 V.p1 V.p2 V.p3 V.rA V.rB hh

end Go.Proofs.Ytccldjodijdciaa
