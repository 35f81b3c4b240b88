/-
  The contracts of Plain, in package spec and in package impl.
-/
import Derived.Test.YtccldjodijdciaaTin
import Derived.Test.YtccldjodijdciaaOkI
namespace Go.Proofs.Ytccldjodijdciaa
open Go.RowKit

theorem idxB (f : Nat → Bool) (j : Nat) (hj : j < 16) (w : World) : (Instr.index 96 (.agg #[.bool (f 0), .bool (f 1), .bool (f 2), .bool (f 3), .bool (f 4), .bool (f 5), .bool (f 6), .bool (f 7), .bool (f 8), .bool (f 9), .bool (f 10), .bool (f 11), .bool (f 12), .bool (f 13), .bool (f 14), .bool (f 15)]) (.int .i64 j)).run Try.prog w = .ok (.bool (f j)) w := by
  obtain rfl | rfl | rfl | rfl | rfl | rfl | rfl | rfl | rfl | rfl | rfl | rfl | rfl | rfl | rfl | rfl : j = 0 ∨ j = 1 ∨ j = 2 ∨ j = 3 ∨ j = 4 ∨ j = 5 ∨ j = 6 ∨ j = 7 ∨ j = 8 ∨ j = 9 ∨ j = 10 ∨ j = 11 ∨ j = 12 ∨ j = 13 ∨ j = 14 ∨ j = 15 := by omega
  all_goals kernel_rfl

def plainF (f : Nat → Bool) : Bool := (List.range 16).all fun t => !(f t && decide (5 < t))
def plainV (l0 l1 l2 l3 : List (Int × Int)) : Bool := asnB l0 l1 l2 l3 && plainF (usedV l0 l1 l2 l3)

theorem plainF_false {f : Nat → Bool} {k : Nat} (h1 : 6 ≤ k) (h2 : k < 16) (h4 : f k = true) : plainF f = false := by
  unfold plainF
  rw [List.all_eq_false]
  exact ⟨k, List.mem_range.2 h2, by simp [h4]; omega⟩
theorem plainF_true {f : Nat → Bool} (h : ∀ i, 6 ≤ i → i < 16 → f i = false) : plainF f = true := by
  unfold plainF
  rw [List.all_eq_true]
  intro i hi
  by_cases e : 6 ≤ i
  · simp [h i e (List.mem_range.1 hi)]
  · simp; omega

set_option maxHeartbeats 1000000 in
theorem sPlain_any (a0 a1 a2 a3 : Option Addr) (c0 c1 c2 c3 : Nat) (l0 l1 l2 l3 : List (Int × Int)) (w : World)
    (n0 : l0.length ≤ 1048576) (n1 : l1.length ≤ 1048576) (n2 : l2.length ≤ 1048576) (n3 : l3.length ≤ 1048576)
    (r0 : PRow w a0 l0) (r1 : PRow w a1 l1) (r2 : PRow w a2 l2) (r3 : PRow w a3 l3) :
    Calls Try.prog 31 #[.agg #[.slice a0 l0.length c0, .slice a1 l1.length c1, .slice a2 l2.length c2, .slice a3 l3.length c3]] w fun e w' => e = .returned (.bool (plainV l0 l1 l2 l3)) ∧ Below w.heap.size w w' := by
  have B0 := Box.new w (.slice a0 l0.length c0) (.slice a1 l1.length c1) (.slice a2 l2.length c2) (.slice a3 l3.length c3) 30
  have L : Below w.heap.size w (w.alloc (.cells #[.slice a0 l0.length c0, .slice a1 l1.length c1, .slice a2 l2.length c2, .slice a3 l3.length c3] 30)) := (Below.refl _ _).alloc (Nat.le_refl _) _
  go_enter Try.func31, Try.ntmps31
  go_wp2_with fail
  refine (sAsnOk_any _ _ _ _ _ _ _ _ _ _ _ _ _ n0 n1 n2 n3 (by exact r0.below L (Nat.le_refl _)) (by exact r1.below L (Nat.le_refl _)) (by exact r2.below L (Nat.le_refl _)) (by exact r3.below L (Nat.le_refl _))).mono ?_
  rintro e w1 ⟨rfl, hb⟩
  have B1 := B0.below hb B0.lt; have L1 := L.trans (hb.mono L.size)
  clear hb B0 L
  have x0 := B1.c0; have x1 := B1.c1; have x2 := B1.c2; have x3 := B1.c3
  cases h : asnB l0 l1 l2 l3
  · go_wp2
    go_ret
    exact ⟨ret_bool (by simp [plainV, h]), L1⟩
  · have HT : Hid (asnB l0 l1 l2 l3 = true) := h
    clear h
    go_wp2_with fail
    refine (l1used_any _ _ _ _ _ _ _ _ _ _ _ _ _ n0 n1 n2 n3 (by exact r0.below L1 (Nat.le_refl _)) (by exact r1.below L1 (Nat.le_refl _)) (by exact r2.below L1 (Nat.le_refl _)) (by exact r3.below L1 (Nat.le_refl _)) HT.out).mono ?_
    rintro e w2 ⟨bI, rfl, hI, I, hb⟩
    have L2 := L1.trans (hb.mono L1.size)
    have HV : Hid (plainV l0 l1 l2 l3 = plainF (usedV l0 l1 l2 l3)) := by show plainV l0 l1 l2 l3 = _; unfold plainV; rw [HT.out]; rfl
    clear hb L1 B1 x0 x1 x2 x3 HT hI
    generalize usedV l0 l1 l2 l3 = f at *
    go_wp2
    go_loop [4] (fun i => ∃ k : Nat, 6 ≤ k ∧ k ≤ 16 ∧ i = .int .i64 k ∧ Hid (∀ i, 6 ≤ i → i < k → f i = false)) (fun i => 16 - (intOf i).toNat)
    case atStart => exact ⟨6, by omega, by omega, rfl, fun i h1 h2 => by omega⟩
    case round =>
      obtain ⟨k, hk0, hk, rfl, hall⟩ := hrel
      by_cases hlt : k < 16
      · have hx := (I.2 k hlt).1
        cases hf : f k
        · rw [hf] at hx
          have HF : Hid (f k = false) := hf
          clear hf
          go_wp2
          go_round
          case rel => exact ⟨k + 1, by omega, by omega, by go_num, fun i h1 h2 => by
            by_cases e : i = k
            · subst e; exact HF.out
            · exact hall.out i h1 (by omega)⟩
          case measure => simp [intOf]; omega
        · rw [hf] at hx
          have HF : Hid (f k = true) := hf
          clear hf
          go_wp2
          go_ret
          exact ⟨ret_bool (HV.out.trans (plainF_false hk0 hlt HF.out)).symm, L2⟩
      · obtain rfl : k = 16 := by omega
        go_wp2
        go_ret
        exact ⟨ret_bool (HV.out.trans (plainF_true hall.out)).symm, L2⟩

set_option maxHeartbeats 1000000 in
theorem iPlain_any (a0 a1 a2 a3 : Option Addr) (c0 c1 c2 c3 : Nat) (l0 l1 l2 l3 : List (Int × Int)) (w : World)
    (n0 : l0.length ≤ 1048576) (n1 : l1.length ≤ 1048576) (n2 : l2.length ≤ 1048576) (n3 : l3.length ≤ 1048576)
    (r0 : PRow w a0 l0) (r1 : PRow w a1 l1) (r2 : PRow w a2 l2) (r3 : PRow w a3 l3) :
    Calls Try.prog 32 #[.agg #[.slice a0 l0.length c0, .slice a1 l1.length c1, .slice a2 l2.length c2, .slice a3 l3.length c3]] w fun e w' => e = .returned (.bool (plainV l0 l1 l2 l3)) ∧ Below w.heap.size w w' := by
  have B0 := Box.new w (.slice a0 l0.length c0) (.slice a1 l1.length c1) (.slice a2 l2.length c2) (.slice a3 l3.length c3) 30
  have L : Below w.heap.size w (w.alloc (.cells #[.slice a0 l0.length c0, .slice a1 l1.length c1, .slice a2 l2.length c2, .slice a3 l3.length c3] 30)) := (Below.refl _ _).alloc (Nat.le_refl _) _
  go_enter Try.func32, Try.ntmps32
  go_wp2_with fail
  refine (iAsnOk_any _ _ _ _ _ _ _ _ _ _ _ _ _ n0 n1 n2 n3 (by exact r0.below L (Nat.le_refl _)) (by exact r1.below L (Nat.le_refl _)) (by exact r2.below L (Nat.le_refl _)) (by exact r3.below L (Nat.le_refl _))).mono ?_
  rintro e w1 ⟨rfl, hb⟩
  have B1 := B0.below hb B0.lt; have L1 := L.trans (hb.mono L.size)
  clear hb B0 L
  have x0 := B1.c0; have x1 := B1.c1; have x2 := B1.c2; have x3 := B1.c3
  cases h : asnB l0 l1 l2 l3
  · go_wp2
    go_ret
    exact ⟨ret_bool (by simp [plainV, h]), L1⟩
  · have HT : Hid (asnB l0 l1 l2 l3 = true) := h
    clear h
    go_wp2_with fail
    refine (termsIn_any _ _ _ _ _ _ _ _ _ _ _ _ _ n0 n1 n2 n3 (by exact r0.below L1 (Nat.le_refl _)) (by exact r1.below L1 (Nat.le_refl _)) (by exact r2.below L1 (Nat.le_refl _)) (by exact r3.below L1 (Nat.le_refl _)) HT.out).mono ?_
    rintro e w2 ⟨rfl, hb⟩
    have L2 := L1.trans (hb.mono L1.size)
    have HV : Hid (plainV l0 l1 l2 l3 = plainF (usedV l0 l1 l2 l3)) := by show plainV l0 l1 l2 l3 = _; unfold plainV; rw [HT.out]; rfl
    clear hb L1 B1 x0 x1 x2 x3 HT
    generalize usedV l0 l1 l2 l3 = f at *
    go_wp2
    go_loop [10] (fun i => ∃ k : Nat, k ≤ 16 ∧ i = .int .i64 k ∧ Hid (∀ i, 6 ≤ i → i < k → f i = false)) (fun i => 16 - (intOf i).toNat)
    case atStart => exact ⟨0, by omega, rfl, fun i h1 h2 => by omega⟩
    case round =>
      obtain ⟨k, hk, rfl, hall⟩ := hrel
      by_cases hlt : k < 16
      · have hx := idxB f k hlt
        cases hf : f k
        · rw [hf] at hx
          have HF : Hid (f k = false) := hf
          clear hf
          go_wp2
          go_round
          case rel => exact ⟨k + 1, by omega, by go_num, fun i h1 h2 => by
            by_cases e : i = k
            · subst e; exact HF.out
            · exact hall.out i h1 (by omega)⟩
          case measure => simp [intOf]; omega
        · rw [hf] at hx
          have HF : Hid (f k = true) := hf
          clear hf
          by_cases h5 : 5 < (k : Int)
          · go_wp2
            go_ret
            exact ⟨ret_bool (HV.out.trans (plainF_false (by omega) hlt HF.out)).symm, L2⟩
          · go_wp2
            go_round
            case rel => exact ⟨k + 1, by omega, by go_num, fun i h1 h2 => by omega⟩
            case measure => simp [intOf]; omega
      · obtain rfl : k = 16 := by omega
        go_wp2
        go_ret
        exact ⟨ret_bool (HV.out.trans (plainF_true hall.out)).symm, L2⟩

end Go.Proofs.Ytccldjodijdciaa
