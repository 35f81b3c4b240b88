/-
  The contracts of Alike.
-/
import Derived.Test.YtldhbooginlcpaaL3
import Derived.Test.YtldhbooginlcpaaCl
namespace Go.Proofs.Ytldhbooginlcpaa
open Go.RowKit
def alikeV (l0 l1 l2 l3 : List (Int × Int)) (x y : Int) : Bool := asnB l0 l1 l2 l3 && (tok x && (tok y && decide ((clsV l0).getD x.toNat 0 = (clsV l0).getD y.toNat 0)))
theorem tok_iff {x : Int} : tok x = true ↔ 0 ≤ x ∧ x < 16 := by simp [tok]
theorem asnB_tokA {l0 l1 l2 l3 : List (Int × Int)} (h : asnB l0 l1 l2 l3 = true) : toks l0 = true ∧ toks l1 = true ∧ toks l2 = true ∧ toks l3 = true := by
  unfold asnB at h
  simp only [Bool.and_eq_true] at h
  exact ⟨h.1.1.1.1.1.1, h.1.1.1.1.1.2, h.1.1.1.1.2, h.1.1.1.2⟩

set_option maxRecDepth 3000 in
set_option maxHeartbeats 1000000 in
theorem sAlike_any (a0 a1 a2 a3 : Option Addr) (c0 c1 c2 c3 : Nat) (l0 l1 l2 l3 : List (Int × Int)) (x y : Int) (w : World)
    (n0 : l0.length ≤ 1048576) (n1 : l1.length ≤ 1048576) (n2 : l2.length ≤ 1048576) (n3 : l3.length ≤ 1048576)
    (r0 : PRow w a0 l0) (r1 : PRow w a1 l1) (r2 : PRow w a2 l2) (r3 : PRow w a3 l3) :
    Calls Try.prog 58 #[.agg #[.slice a0 l0.length c0, .slice a1 l1.length c1, .slice a2 l2.length c2, .slice a3 l3.length c3], .int .i64 x, .int .i64 y] w fun e w' => e = .returned (.bool (alikeV l0 l1 l2 l3 x y)) ∧ Below w.heap.size w w' := by
  have B0 := Box.new w (.slice a0 l0.length c0) (.slice a1 l1.length c1) (.slice a2 l2.length c2) (.slice a3 l3.length c3) 28
  have L0 : Below w.heap.size w (w.alloc (.cells #[.slice a0 l0.length c0, .slice a1 l1.length c1, .slice a2 l2.length c2, .slice a3 l3.length c3] 28)) := (Below.refl _ _).alloc (Nat.le_refl _) _
  go_enter Try.func58, Try.ntmps58
  go_wp2_with fail
  refine (sAsnOk_any _ _ _ _ _ _ _ _ _ _ _ _ _ n0 n1 n2 n3 (by exact r0.below L0 (Nat.le_refl _)) (by exact r1.below L0 (Nat.le_refl _)) (by exact r2.below L0 (Nat.le_refl _)) (by exact r3.below L0 (Nat.le_refl _))).mono ?_
  rintro e w1 ⟨rfl, hb⟩
  have B1 := B0.below hb B0.lt; have L1 := L0.trans (hb.mono L0.size)
  clear hb B0 L0
  cases ha : asnB l0 l1 l2 l3
  · have HE : Hid (alikeV l0 l1 l2 l3 x y = false) := by unfold Hid alikeV; rw [ha]; rfl
    go_wp2
    go_ret
    exact ⟨by rw [HE.out]; rfl, L1⟩
  go_wp2_with fail
  refine (sTermOk_any x _).mono ?_
  rintro e wz ⟨rfl, rfl⟩
  cases hx : tok x
  · have HE : Hid (alikeV l0 l1 l2 l3 x y = false) := by unfold Hid alikeV; rw [ha, hx]; rfl
    go_wp2
    go_ret
    exact ⟨by rw [HE.out]; rfl, L1⟩
  go_wp2_with fail
  refine (sTermOk_any y _).mono ?_
  rintro e wz ⟨rfl, rfl⟩
  cases hy : tok y
  · have HE : Hid (alikeV l0 l1 l2 l3 x y = false) := by unfold Hid alikeV; rw [ha, hx, hy]; rfl
    go_wp2
    go_ret
    exact ⟨by rw [HE.out]; rfl, L1⟩
  have HE : Hid (alikeV l0 l1 l2 l3 x y = decide ((clsV l0).getD x.toNat 0 = (clsV l0).getD y.toNat 0)) := by unfold Hid alikeV; rw [ha, hx, hy]; simp
  have ht := (asnB_tokA ha).1
  have hxx := tok_iff.1 hx
  have hyy := tok_iff.1 hy
  obtain ⟨x, rfl⟩ := Int.eq_ofNat_of_zero_le hxx.1
  obtain ⟨y, rfl⟩ := Int.eq_ofNat_of_zero_le hyy.1
  rw [Int.toNat_natCast, Int.toNat_natCast] at HE
  obtain ⟨hx0, hx1⟩ := hxx
  obtain ⟨hy0, hy1⟩ := hyy
  clear hx hy ha
  have x0 := B1.c0; have x1 := B1.c1; have x2 := B1.c2; have x3 := B1.c3
  go_wp2_with fail
  refine (l3classes_any _ _ _ _ _ _ _ _ _ _ _ _ _ n0 ht (by exact r0.below L1 (Nat.le_refl _))).mono ?_
  rintro e w2 ⟨b, cp, rfl, hbb, O, hb⟩
  have L2 := L1.trans (hb.mono L1.size)
  clear hb B1 L1 x0 x1 x2 x3
  have eu := O.2.2 x (by omega)
  have ev := O.2.2 y (by omega)
  generalize (clsV l0).getD x 0 = u at *
  generalize (clsV l0).getD y 0 = v at *
  go_wp2_with fail
  have hS0 : Below w.heap.size w w2.drew ∧ w2.drew.cell? ⟨b, x, none⟩ = some (.int .i64 u) ∧ w2.drew.cell? ⟨b, y, none⟩ = some (.int .i64 v) := ⟨L2.drew, eu, ev⟩
  go_region_held3 (fun w' => Below w.heap.size w w' ∧ w'.cell? ⟨b, x, none⟩ = some (.int .i64 u) ∧ w'.cell? ⟨b, y, none⟩ = some (.int .i64 v))
    (first | exact hS0 | assumption | (refine ⟨?_, ?_, ?_⟩ <;> assumption))
    (fail)
  go_wp2
  go_ret
  exact ⟨by rw [HE.out]; rfl, hS0.1⟩

set_option maxRecDepth 3000 in
set_option maxHeartbeats 1000000 in
theorem iAlike_any (a0 a1 a2 a3 : Option Addr) (c0 c1 c2 c3 : Nat) (l0 l1 l2 l3 : List (Int × Int)) (x y : Int) (w : World)
    (n0 : l0.length ≤ 1048576) (n1 : l1.length ≤ 1048576) (n2 : l2.length ≤ 1048576) (n3 : l3.length ≤ 1048576)
    (r0 : PRow w a0 l0) (r1 : PRow w a1 l1) (r2 : PRow w a2 l2) (r3 : PRow w a3 l3) :
    Calls Try.prog 59 #[.agg #[.slice a0 l0.length c0, .slice a1 l1.length c1, .slice a2 l2.length c2, .slice a3 l3.length c3], .int .i64 x, .int .i64 y] w fun e w' => e = .returned (.bool (alikeV l0 l1 l2 l3 x y)) ∧ Below w.heap.size w w' := by
  have B0 := Box.new w (.slice a0 l0.length c0) (.slice a1 l1.length c1) (.slice a2 l2.length c2) (.slice a3 l3.length c3) 28
  have L0 : Below w.heap.size w (w.alloc (.cells #[.slice a0 l0.length c0, .slice a1 l1.length c1, .slice a2 l2.length c2, .slice a3 l3.length c3] 28)) := (Below.refl _ _).alloc (Nat.le_refl _) _
  go_enter Try.func59, Try.ntmps59
  go_wp2_with fail
  refine (iAsnOk_any _ _ _ _ _ _ _ _ _ _ _ _ _ n0 n1 n2 n3 (by exact r0.below L0 (Nat.le_refl _)) (by exact r1.below L0 (Nat.le_refl _)) (by exact r2.below L0 (Nat.le_refl _)) (by exact r3.below L0 (Nat.le_refl _))).mono ?_
  rintro e w1 ⟨rfl, hb⟩
  have B1 := B0.below hb B0.lt; have L1 := L0.trans (hb.mono L0.size)
  clear hb B0 L0
  cases ha : asnB l0 l1 l2 l3
  · have HE : Hid (alikeV l0 l1 l2 l3 x y = false) := by unfold Hid alikeV; rw [ha]; rfl
    go_wp2
    go_ret
    exact ⟨by rw [HE.out]; rfl, L1⟩
  go_wp2_with fail
  refine (iTermOk_any x _).mono ?_
  rintro e wz ⟨rfl, rfl⟩
  cases hx : tok x
  · have HE : Hid (alikeV l0 l1 l2 l3 x y = false) := by unfold Hid alikeV; rw [ha, hx]; rfl
    go_wp2
    go_ret
    exact ⟨by rw [HE.out]; rfl, L1⟩
  go_wp2_with fail
  refine (iTermOk_any y _).mono ?_
  rintro e wz ⟨rfl, rfl⟩
  cases hy : tok y
  · have HE : Hid (alikeV l0 l1 l2 l3 x y = false) := by unfold Hid alikeV; rw [ha, hx, hy]; rfl
    go_wp2
    go_ret
    exact ⟨by rw [HE.out]; rfl, L1⟩
  have HE : Hid (alikeV l0 l1 l2 l3 x y = decide ((clsV l0).getD x.toNat 0 = (clsV l0).getD y.toNat 0)) := by unfold Hid alikeV; rw [ha, hx, hy]; simp
  have ht := (asnB_tokA ha).1
  have hxx := tok_iff.1 hx
  have hyy := tok_iff.1 hy
  obtain ⟨x, rfl⟩ := Int.eq_ofNat_of_zero_le hxx.1
  obtain ⟨y, rfl⟩ := Int.eq_ofNat_of_zero_le hyy.1
  rw [Int.toNat_natCast, Int.toNat_natCast] at HE
  obtain ⟨hx0, hx1⟩ := hxx
  obtain ⟨hy0, hy1⟩ := hyy
  clear hx hy ha
  have x0 := B1.c0; have x1 := B1.c1; have x2 := B1.c2; have x3 := B1.c3
  go_wp2_with fail
  refine (classesOf_any _ _ _ _ _ _ _ _ _ _ _ _ _ n0 ht (by exact r0.below L1 (Nat.le_refl _))).mono ?_
  rintro e w2 ⟨rfl, hb⟩
  have L2 := L1.trans (hb.mono L1.size)
  clear hb B1 L1 x0 x1 x2 x3
  unfold aV
  have HC := (Cls.all ht).1
  dsimp only
  iterate 4 go_step
  have Z := OwnI.zeros w2 95
  refine ws67 rfl (.tmp 7) (.tmp 22) rfl _ rfl (clsV l0) _ rfl Z HC rfl ?_
  have C := Z.setAll HC
  have L3 := Below.setCells w2.heap.size L2.size (ic (clsV l0)) 0 _ (L2.alloc L2.size (.cells z16 95))
  clear Z L2
  generalize (w2.alloc (.cells z16 95)).setCells w2.heap.size 0 (ic (clsV l0)) = w3 at *
  have eu := C.2.2 x (by omega)
  have ev := C.2.2 y (by omega)
  generalize (clsV l0).getD x 0 = u at *
  generalize (clsV l0).getD y 0 = v at *
  clear HC C
  generalize w2.heap.size = b at *
  go_wp2_with fail
  have hS0 : Below w.heap.size w w3.drew ∧ w3.drew.cell? ⟨b, x, none⟩ = some (.int .i64 u) ∧ w3.drew.cell? ⟨b, y, none⟩ = some (.int .i64 v) := ⟨L3.drew, eu, ev⟩
  go_region_held3 (fun w' => Below w.heap.size w w' ∧ w'.cell? ⟨b, x, none⟩ = some (.int .i64 u) ∧ w'.cell? ⟨b, y, none⟩ = some (.int .i64 v))
    (first | exact hS0 | assumption | (refine ⟨?_, ?_, ?_⟩ <;> assumption))
    (fail)
  go_wp2
  go_ret
  exact ⟨by rw [HE.out]; rfl, hS0.1⟩
end Go.Proofs.Ytldhbooginlcpaa
