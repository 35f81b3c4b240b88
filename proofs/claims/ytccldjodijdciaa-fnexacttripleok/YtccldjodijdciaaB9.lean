/-
  Nine cells, and the room that cases want: the contracts of spec.l4room and impl.hasRoom.
-/
import Derived.Test.YtccldjodijdciaaChecked
import Derived.Test.YtccldjodijdciaaB10
import Derived.Test.YtccldjodijdciaaOk
import Derived.Test.YtccldjodijdciaaOkI
import Derived.Outline
namespace Go.Proofs.Ytccldjodijdciaa
open Go.RowKit

/-- Block b of w is nine cells, none of them frozen. -/
structure B9 (w : World) (b : Nat) (v0 v1 v2 v3 v4 v5 v6 v7 v8 : Value) : Prop where
  lt : b < w.heap.size
  c0 : w.cell? ⟨b, 0, none⟩ = some v0
  c1 : w.cell? ⟨b, 1, none⟩ = some v1
  c2 : w.cell? ⟨b, 2, none⟩ = some v2
  c3 : w.cell? ⟨b, 3, none⟩ = some v3
  c4 : w.cell? ⟨b, 4, none⟩ = some v4
  c5 : w.cell? ⟨b, 5, none⟩ = some v5
  c6 : w.cell? ⟨b, 6, none⟩ = some v6
  c7 : w.cell? ⟨b, 7, none⟩ = some v7
  c8 : w.cell? ⟨b, 8, none⟩ = some v8
  f0 : w.frozen? ⟨b, 0, none⟩ = false
  f1 : w.frozen? ⟨b, 1, none⟩ = false
  f2 : w.frozen? ⟨b, 2, none⟩ = false
  f3 : w.frozen? ⟨b, 3, none⟩ = false
  f4 : w.frozen? ⟨b, 4, none⟩ = false
  f5 : w.frozen? ⟨b, 5, none⟩ = false
  f6 : w.frozen? ⟨b, 6, none⟩ = false
  f7 : w.frozen? ⟨b, 7, none⟩ = false
  f8 : w.frozen? ⟨b, 8, none⟩ = false

theorem B9.new (w : World) (v0 v1 v2 v3 v4 v5 v6 v7 v8 : Value) (t : TypeId) : B9 (w.alloc (.cells #[v0, v1, v2, v3, v4, v5, v6, v7, v8] t)) w.heap.size v0 v1 v2 v3 v4 v5 v6 v7 v8 := by
  constructor <;> simp
theorem B9.below {B : Nat} {w w' : World} {b : Nat} {v0 v1 v2 v3 v4 v5 v6 v7 v8 : Value} (h : B9 w b v0 v1 v2 v3 v4 v5 v6 v7 v8) (hb : Below B w w') (hB : b < B) : B9 w' b v0 v1 v2 v3 v4 v5 v6 v7 v8 := by
  have c : ∀ j, w'.cell? ⟨b, j, none⟩ = w.cell? ⟨b, j, none⟩ := fun j => hb.cell (p := ⟨b, j, none⟩) hB
  have f : ∀ j, w'.frozen? ⟨b, j, none⟩ = w.frozen? ⟨b, j, none⟩ := fun j => hb.frozen (p := ⟨b, j, none⟩) hB
  exact ⟨Nat.lt_of_lt_of_le h.lt hb.size, (c _).trans h.c0, (c _).trans h.c1, (c _).trans h.c2, (c _).trans h.c3, (c _).trans h.c4, (c _).trans h.c5, (c _).trans h.c6, (c _).trans h.c7, (c _).trans h.c8, (f _).trans h.f0, (f _).trans h.f1, (f _).trans h.f2, (f _).trans h.f3, (f _).trans h.f4, (f _).trans h.f5, (f _).trans h.f6, (f _).trans h.f7, (f _).trans h.f8⟩
theorem B9.alloc {w : World} {b : Nat} {v0 v1 v2 v3 v4 v5 v6 v7 v8 : Value} (h : B9 w b v0 v1 v2 v3 v4 v5 v6 v7 v8) (o : Obj) : B9 (w.alloc o) b v0 v1 v2 v3 v4 v5 v6 v7 v8 :=
  h.below ((Below.refl _ _).alloc (Nat.le_refl _) o) h.lt
theorem B9.other {w : World} {b : Nat} {v0 v1 v2 v3 v4 v5 v6 v7 v8 : Value} (h : B9 w b v0 v1 v2 v3 v4 v5 v6 v7 v8) (b' i' : Nat) (hp : b' ≠ b) (u : Value) : B9 (w.setCell ⟨b', i', none⟩ u) b v0 v1 v2 v3 v4 v5 v6 v7 v8 := by
  have c : ∀ j, (w.setCell ⟨b', i', none⟩ u).cell? ⟨b, j, none⟩ = w.cell? ⟨b, j, none⟩ := fun j => World.cell?_setCell_other _ _ _ _ (by intro e; exact hp (by injection e))
  exact ⟨by simpa using h.lt, (c _).trans h.c0, (c _).trans h.c1, (c _).trans h.c2, (c _).trans h.c3, (c _).trans h.c4, (c _).trans h.c5, (c _).trans h.c6, (c _).trans h.c7, (c _).trans h.c8, (by simpa using h.f0), (by simpa using h.f1), (by simpa using h.f2), (by simpa using h.f3), (by simpa using h.f4), (by simpa using h.f5), (by simpa using h.f6), (by simpa using h.f7), (by simpa using h.f8)⟩
theorem B9.set0 {w : World} {b : Nat} {v0 v1 v2 v3 v4 v5 v6 v7 v8 : Value} (h : B9 w b v0 v1 v2 v3 v4 v5 v6 v7 v8) (u : Value) : B9 (w.setCell ⟨b, 0, none⟩ u) b u v1 v2 v3 v4 v5 v6 v7 v8 :=
  ⟨by simpa using h.lt, (by simpa using cell_set (a := 0) (x := u) h.c0), (by simpa using cell_set (a := 0) (x := u) h.c1), (by simpa using cell_set (a := 0) (x := u) h.c2), (by simpa using cell_set (a := 0) (x := u) h.c3), (by simpa using cell_set (a := 0) (x := u) h.c4), (by simpa using cell_set (a := 0) (x := u) h.c5), (by simpa using cell_set (a := 0) (x := u) h.c6), (by simpa using cell_set (a := 0) (x := u) h.c7), (by simpa using cell_set (a := 0) (x := u) h.c8), (by simpa using h.f0), (by simpa using h.f1), (by simpa using h.f2), (by simpa using h.f3), (by simpa using h.f4), (by simpa using h.f5), (by simpa using h.f6), (by simpa using h.f7), (by simpa using h.f8)⟩
theorem B9.set1 {w : World} {b : Nat} {v0 v1 v2 v3 v4 v5 v6 v7 v8 : Value} (h : B9 w b v0 v1 v2 v3 v4 v5 v6 v7 v8) (u : Value) : B9 (w.setCell ⟨b, 1, none⟩ u) b v0 u v2 v3 v4 v5 v6 v7 v8 :=
  ⟨by simpa using h.lt, (by simpa using cell_set (a := 1) (x := u) h.c0), (by simpa using cell_set (a := 1) (x := u) h.c1), (by simpa using cell_set (a := 1) (x := u) h.c2), (by simpa using cell_set (a := 1) (x := u) h.c3), (by simpa using cell_set (a := 1) (x := u) h.c4), (by simpa using cell_set (a := 1) (x := u) h.c5), (by simpa using cell_set (a := 1) (x := u) h.c6), (by simpa using cell_set (a := 1) (x := u) h.c7), (by simpa using cell_set (a := 1) (x := u) h.c8), (by simpa using h.f0), (by simpa using h.f1), (by simpa using h.f2), (by simpa using h.f3), (by simpa using h.f4), (by simpa using h.f5), (by simpa using h.f6), (by simpa using h.f7), (by simpa using h.f8)⟩
theorem B9.set2 {w : World} {b : Nat} {v0 v1 v2 v3 v4 v5 v6 v7 v8 : Value} (h : B9 w b v0 v1 v2 v3 v4 v5 v6 v7 v8) (u : Value) : B9 (w.setCell ⟨b, 2, none⟩ u) b v0 v1 u v3 v4 v5 v6 v7 v8 :=
  ⟨by simpa using h.lt, (by simpa using cell_set (a := 2) (x := u) h.c0), (by simpa using cell_set (a := 2) (x := u) h.c1), (by simpa using cell_set (a := 2) (x := u) h.c2), (by simpa using cell_set (a := 2) (x := u) h.c3), (by simpa using cell_set (a := 2) (x := u) h.c4), (by simpa using cell_set (a := 2) (x := u) h.c5), (by simpa using cell_set (a := 2) (x := u) h.c6), (by simpa using cell_set (a := 2) (x := u) h.c7), (by simpa using cell_set (a := 2) (x := u) h.c8), (by simpa using h.f0), (by simpa using h.f1), (by simpa using h.f2), (by simpa using h.f3), (by simpa using h.f4), (by simpa using h.f5), (by simpa using h.f6), (by simpa using h.f7), (by simpa using h.f8)⟩
theorem B9.set3 {w : World} {b : Nat} {v0 v1 v2 v3 v4 v5 v6 v7 v8 : Value} (h : B9 w b v0 v1 v2 v3 v4 v5 v6 v7 v8) (u : Value) : B9 (w.setCell ⟨b, 3, none⟩ u) b v0 v1 v2 u v4 v5 v6 v7 v8 :=
  ⟨by simpa using h.lt, (by simpa using cell_set (a := 3) (x := u) h.c0), (by simpa using cell_set (a := 3) (x := u) h.c1), (by simpa using cell_set (a := 3) (x := u) h.c2), (by simpa using cell_set (a := 3) (x := u) h.c3), (by simpa using cell_set (a := 3) (x := u) h.c4), (by simpa using cell_set (a := 3) (x := u) h.c5), (by simpa using cell_set (a := 3) (x := u) h.c6), (by simpa using cell_set (a := 3) (x := u) h.c7), (by simpa using cell_set (a := 3) (x := u) h.c8), (by simpa using h.f0), (by simpa using h.f1), (by simpa using h.f2), (by simpa using h.f3), (by simpa using h.f4), (by simpa using h.f5), (by simpa using h.f6), (by simpa using h.f7), (by simpa using h.f8)⟩
theorem B9.set4 {w : World} {b : Nat} {v0 v1 v2 v3 v4 v5 v6 v7 v8 : Value} (h : B9 w b v0 v1 v2 v3 v4 v5 v6 v7 v8) (u : Value) : B9 (w.setCell ⟨b, 4, none⟩ u) b v0 v1 v2 v3 u v5 v6 v7 v8 :=
  ⟨by simpa using h.lt, (by simpa using cell_set (a := 4) (x := u) h.c0), (by simpa using cell_set (a := 4) (x := u) h.c1), (by simpa using cell_set (a := 4) (x := u) h.c2), (by simpa using cell_set (a := 4) (x := u) h.c3), (by simpa using cell_set (a := 4) (x := u) h.c4), (by simpa using cell_set (a := 4) (x := u) h.c5), (by simpa using cell_set (a := 4) (x := u) h.c6), (by simpa using cell_set (a := 4) (x := u) h.c7), (by simpa using cell_set (a := 4) (x := u) h.c8), (by simpa using h.f0), (by simpa using h.f1), (by simpa using h.f2), (by simpa using h.f3), (by simpa using h.f4), (by simpa using h.f5), (by simpa using h.f6), (by simpa using h.f7), (by simpa using h.f8)⟩
theorem B9.set5 {w : World} {b : Nat} {v0 v1 v2 v3 v4 v5 v6 v7 v8 : Value} (h : B9 w b v0 v1 v2 v3 v4 v5 v6 v7 v8) (u : Value) : B9 (w.setCell ⟨b, 5, none⟩ u) b v0 v1 v2 v3 v4 u v6 v7 v8 :=
  ⟨by simpa using h.lt, (by simpa using cell_set (a := 5) (x := u) h.c0), (by simpa using cell_set (a := 5) (x := u) h.c1), (by simpa using cell_set (a := 5) (x := u) h.c2), (by simpa using cell_set (a := 5) (x := u) h.c3), (by simpa using cell_set (a := 5) (x := u) h.c4), (by simpa using cell_set (a := 5) (x := u) h.c5), (by simpa using cell_set (a := 5) (x := u) h.c6), (by simpa using cell_set (a := 5) (x := u) h.c7), (by simpa using cell_set (a := 5) (x := u) h.c8), (by simpa using h.f0), (by simpa using h.f1), (by simpa using h.f2), (by simpa using h.f3), (by simpa using h.f4), (by simpa using h.f5), (by simpa using h.f6), (by simpa using h.f7), (by simpa using h.f8)⟩
theorem B9.set6 {w : World} {b : Nat} {v0 v1 v2 v3 v4 v5 v6 v7 v8 : Value} (h : B9 w b v0 v1 v2 v3 v4 v5 v6 v7 v8) (u : Value) : B9 (w.setCell ⟨b, 6, none⟩ u) b v0 v1 v2 v3 v4 v5 u v7 v8 :=
  ⟨by simpa using h.lt, (by simpa using cell_set (a := 6) (x := u) h.c0), (by simpa using cell_set (a := 6) (x := u) h.c1), (by simpa using cell_set (a := 6) (x := u) h.c2), (by simpa using cell_set (a := 6) (x := u) h.c3), (by simpa using cell_set (a := 6) (x := u) h.c4), (by simpa using cell_set (a := 6) (x := u) h.c5), (by simpa using cell_set (a := 6) (x := u) h.c6), (by simpa using cell_set (a := 6) (x := u) h.c7), (by simpa using cell_set (a := 6) (x := u) h.c8), (by simpa using h.f0), (by simpa using h.f1), (by simpa using h.f2), (by simpa using h.f3), (by simpa using h.f4), (by simpa using h.f5), (by simpa using h.f6), (by simpa using h.f7), (by simpa using h.f8)⟩
theorem B9.set7 {w : World} {b : Nat} {v0 v1 v2 v3 v4 v5 v6 v7 v8 : Value} (h : B9 w b v0 v1 v2 v3 v4 v5 v6 v7 v8) (u : Value) : B9 (w.setCell ⟨b, 7, none⟩ u) b v0 v1 v2 v3 v4 v5 v6 u v8 :=
  ⟨by simpa using h.lt, (by simpa using cell_set (a := 7) (x := u) h.c0), (by simpa using cell_set (a := 7) (x := u) h.c1), (by simpa using cell_set (a := 7) (x := u) h.c2), (by simpa using cell_set (a := 7) (x := u) h.c3), (by simpa using cell_set (a := 7) (x := u) h.c4), (by simpa using cell_set (a := 7) (x := u) h.c5), (by simpa using cell_set (a := 7) (x := u) h.c6), (by simpa using cell_set (a := 7) (x := u) h.c7), (by simpa using cell_set (a := 7) (x := u) h.c8), (by simpa using h.f0), (by simpa using h.f1), (by simpa using h.f2), (by simpa using h.f3), (by simpa using h.f4), (by simpa using h.f5), (by simpa using h.f6), (by simpa using h.f7), (by simpa using h.f8)⟩
theorem B9.set8 {w : World} {b : Nat} {v0 v1 v2 v3 v4 v5 v6 v7 v8 : Value} (h : B9 w b v0 v1 v2 v3 v4 v5 v6 v7 v8) (u : Value) : B9 (w.setCell ⟨b, 8, none⟩ u) b v0 v1 v2 v3 v4 v5 v6 v7 u :=
  ⟨by simpa using h.lt, (by simpa using cell_set (a := 8) (x := u) h.c0), (by simpa using cell_set (a := 8) (x := u) h.c1), (by simpa using cell_set (a := 8) (x := u) h.c2), (by simpa using cell_set (a := 8) (x := u) h.c3), (by simpa using cell_set (a := 8) (x := u) h.c4), (by simpa using cell_set (a := 8) (x := u) h.c5), (by simpa using cell_set (a := 8) (x := u) h.c6), (by simpa using cell_set (a := 8) (x := u) h.c7), (by simpa using cell_set (a := 8) (x := u) h.c8), (by simpa using h.f0), (by simpa using h.f1), (by simpa using h.f2), (by simpa using h.f3), (by simpa using h.f4), (by simpa using h.f5), (by simpa using h.f6), (by simpa using h.f7), (by simpa using h.f8)⟩

def caseB (l0 l1 l2 l3 : List (Int × Int)) : Bool := asnB l0 l1 l2 l3 && decide (l0.length + l3.length ≤ 12) && decide (l1.length + l3.length ≤ 12)

set_option maxRecDepth 20000 in
set_option maxHeartbeats 2000000 in
theorem l4room_any (a0 a1 a2 a3 : Option Addr) (c0 c1 c2 c3 : Nat) (l0 l1 l2 l3 : List (Int × Int)) (w : World) (n0 : l0.length ≤ 1048576) (n1 : l1.length ≤ 1048576) (n2 : l2.length ≤ 1048576) (n3 : l3.length ≤ 1048576) (r0 : PRow w a0 l0) (r1 : PRow w a1 l1) (r2 : PRow w a2 l2) (r3 : PRow w a3 l3) :
    Calls Try.prog 128 #[.agg #[.slice a0 l0.length c0, .slice a1 l1.length c1, .slice a2 l2.length c2, .slice a3 l3.length c3]] w fun e w' => e = .returned (.bool (caseB l0 l1 l2 l3)) ∧ Below w.heap.size w w' := by
  have A0 := Box.new w (.slice a0 l0.length c0) (.slice a1 l1.length c1) (.slice a2 l2.length c2) (.slice a3 l3.length c3) 30
  have L0 : Below w.heap.size w (w.alloc (.cells #[.slice a0 l0.length c0, .slice a1 l1.length c1, .slice a2 l2.length c2, .slice a3 l3.length c3] 30)) := (Below.refl _ _).alloc (Nat.le_refl _) _
  have A0c0 := A0.c0; have A0c1 := A0.c1; have A0c2 := A0.c2; have A0c3 := A0.c3
  go_enter Try.func128, Try.ntmps128
  go_wp2_with fail
  clear A0c0 A0c1 A0c2 A0c3
  refine (sAsnOk_any _ _ _ _ _ _ _ _ l0 l1 l2 l3 _ n0 n1 n2 n3 (r0.below L0 (Nat.le_refl _)) (r1.below L0 (Nat.le_refl _)) (r2.below L0 (Nat.le_refl _)) (r3.below L0 (Nat.le_refl _))).mono ?_
  rintro e w1 ⟨rfl, hb⟩
  replace A0 := A0.below hb A0.lt; replace L0 := L0.trans (hb.mono L0.size)
  have A0c0 := A0.c0; have A0c1 := A0.c1; have A0c3 := A0.c3
  clear hb r0 r1 r2 r3 A0
  obtain ⟨ok, hok⟩ : ∃ ok, Hid (asnB l0 l1 l2 l3 = ok) := ⟨_, rfl⟩
  rw [hok.out]
  cases ok
  · have HE : Hid (caseB l0 l1 l2 l3 = false) := by show caseB _ _ _ _ = _; unfold caseB; rw [hok.out]; rfl
    go_wp2
    go_ret
    exact ⟨ret_bool (by rw [HE.out]), L0⟩
  by_cases h1 : (l0.length : Int) + (l3.length : Int) ≤ 12
  · by_cases h2 : (l1.length : Int) + (l3.length : Int) ≤ 12
    · have HE : Hid (caseB l0 l1 l2 l3 = true) := by show caseB _ _ _ _ = _; unfold caseB; rw [hok.out, decide_eq_true (by omega), decide_eq_true (by omega)]; rfl
      go_wp2
      go_ret
      exact ⟨ret_bool (by rw [HE.out]), L0⟩
    · have HE : Hid (caseB l0 l1 l2 l3 = false) := by show caseB _ _ _ _ = _; unfold caseB; rw [decide_eq_false (p := l1.length + l3.length ≤ 12) (by omega)]; simp
      go_wp2
      go_ret
      exact ⟨ret_bool (by rw [HE.out]; exact decide_eq_false (by omega)), L0⟩
  · have HE : Hid (caseB l0 l1 l2 l3 = false) := by show caseB _ _ _ _ = _; unfold caseB; rw [decide_eq_false (p := l0.length + l3.length ≤ 12) (by omega)]; simp
    go_wp2
    go_ret
    exact ⟨ret_bool (by rw [HE.out]), L0⟩

set_option maxRecDepth 20000 in
set_option maxHeartbeats 2000000 in
theorem hasRoom_any (a0 a1 a2 a3 : Option Addr) (c0 c1 c2 c3 : Nat) (l0 l1 l2 l3 : List (Int × Int)) (w : World) (n0 : l0.length ≤ 1048576) (n1 : l1.length ≤ 1048576) (n2 : l2.length ≤ 1048576) (n3 : l3.length ≤ 1048576) (r0 : PRow w a0 l0) (r1 : PRow w a1 l1) (r2 : PRow w a2 l2) (r3 : PRow w a3 l3) :
    Calls Try.prog 129 #[.agg #[.slice a0 l0.length c0, .slice a1 l1.length c1, .slice a2 l2.length c2, .slice a3 l3.length c3]] w fun e w' => e = .returned (.bool (caseB l0 l1 l2 l3)) ∧ Below w.heap.size w w' := by
  have A0 := Box.new w (.slice a0 l0.length c0) (.slice a1 l1.length c1) (.slice a2 l2.length c2) (.slice a3 l3.length c3) 30
  have L0 : Below w.heap.size w (w.alloc (.cells #[.slice a0 l0.length c0, .slice a1 l1.length c1, .slice a2 l2.length c2, .slice a3 l3.length c3] 30)) := (Below.refl _ _).alloc (Nat.le_refl _) _
  have A0c0 := A0.c0; have A0c1 := A0.c1; have A0c2 := A0.c2; have A0c3 := A0.c3
  go_enter Try.func129, Try.ntmps129
  go_wp2_with fail
  clear A0c0 A0c1 A0c2 A0c3
  refine (iAsnOk_any _ _ _ _ _ _ _ _ l0 l1 l2 l3 _ n0 n1 n2 n3 (r0.below L0 (Nat.le_refl _)) (r1.below L0 (Nat.le_refl _)) (r2.below L0 (Nat.le_refl _)) (r3.below L0 (Nat.le_refl _))).mono ?_
  rintro e w1 ⟨rfl, hb⟩
  replace A0 := A0.below hb A0.lt; replace L0 := L0.trans (hb.mono L0.size)
  have A0c0 := A0.c0; have A0c1 := A0.c1; have A0c3 := A0.c3
  clear hb r0 r1 r2 r3 A0
  obtain ⟨ok, hok⟩ : ∃ ok, Hid (asnB l0 l1 l2 l3 = ok) := ⟨_, rfl⟩
  rw [hok.out]
  cases ok
  · have HE : Hid (caseB l0 l1 l2 l3 = false) := by show caseB _ _ _ _ = _; unfold caseB; rw [hok.out]; rfl
    go_wp2
    go_ret
    exact ⟨ret_bool (by rw [HE.out]), L0⟩
  by_cases h1 : (l0.length : Int) + (l3.length : Int) ≤ 12
  · by_cases h2 : (l1.length : Int) + (l3.length : Int) ≤ 12
    · have HE : Hid (caseB l0 l1 l2 l3 = true) := by show caseB _ _ _ _ = _; unfold caseB; rw [hok.out, decide_eq_true (by omega), decide_eq_true (by omega)]; rfl
      go_wp2
      go_ret
      exact ⟨ret_bool (by rw [HE.out]), L0⟩
    · have HE : Hid (caseB l0 l1 l2 l3 = false) := by show caseB _ _ _ _ = _; unfold caseB; rw [decide_eq_false (p := l1.length + l3.length ≤ 12) (by omega)]; simp
      go_wp2
      go_ret
      exact ⟨ret_bool (by rw [HE.out]; exact decide_eq_false (by omega)), L0⟩
  · have HE : Hid (caseB l0 l1 l2 l3 = false) := by show caseB _ _ _ _ = _; unfold caseB; rw [decide_eq_false (p := l0.length + l3.length ≤ 12) (by omega)]; simp
    go_wp2
    go_ret
    exact ⟨ret_bool (by rw [HE.out]), L0⟩

end Go.Proofs.Ytccldjodijdciaa
