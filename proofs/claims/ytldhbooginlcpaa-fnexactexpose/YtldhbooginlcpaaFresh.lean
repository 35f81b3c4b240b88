/-
  The contracts of Fresh, Plain and Has, in package spec and in package impl.
-/
import Derived.Test.YtldhbooginlcpaaTin
import Derived.Outline
namespace Go.Proofs.Ytldhbooginlcpaa
open Go.RowKit

def freshGo (f : Nat → Bool) : Nat → Nat → Int
  | 0, _ => -1
  | n + 1, t => if f t = true then freshGo f n (t + 1) else t

theorem freshGo_hit (f : Nat → Bool) : ∀ (n t k : Nat), t ≤ k → k < t + n → (∀ i, t ≤ i → i < k → f i = true) → f k = false → freshGo f n t = k
  | 0, t, k, h1, h2, _, _ => absurd h1 (by omega)
  | n + 1, t, k, h1, h2, h3, h4 => by
    unfold freshGo
    by_cases e : t = k
    · subst e; rw [h4]; simp
    · rw [h3 t (Nat.le_refl _) (by omega), if_pos rfl]
      exact freshGo_hit f n (t + 1) k (by omega) (by omega) (fun i hi hk => h3 i (by omega) hk) h4

theorem freshGo_miss (f : Nat → Bool) : ∀ (n t : Nat), (∀ i, t ≤ i → i < t + n → f i = true) → freshGo f n t = -1
  | 0, _, _ => rfl
  | n + 1, t, h => by
    unfold freshGo
    rw [h t (Nat.le_refl _) (by omega), if_pos rfl]
    exact freshGo_miss f n (t + 1) (fun i hi hk => h i (by omega) (by omega))

def freshF (f : Nat → Bool) : Int := freshGo f 10 6
def freshV (l0 l1 l2 l3 : List (Int × Int)) : Int := if asnB l0 l1 l2 l3 = true then freshF (usedV l0 l1 l2 l3) else -1

theorem freshF_hit {f : Nat → Bool} {k : Nat} (h1 : 6 ≤ k) (h2 : k < 16) (h3 : ∀ i, 6 ≤ i → i < k → f i = true) (h4 : f k = false) : freshF f = k := freshGo_hit f 10 6 k h1 (by omega) h3 h4
theorem freshF_miss {f : Nat → Bool} (h3 : ∀ i, 6 ≤ i → i < 16 → f i = true) : freshF f = -1 := freshGo_miss f 10 6 (fun i h k => h3 i h (by omega))

theorem BRow.lit (w : World) (t : TypeId) (f : Nat → Bool) : BRow (w.alloc (.cells #[.bool (f 0), .bool (f 1), .bool (f 2), .bool (f 3), .bool (f 4), .bool (f 5), .bool (f 6), .bool (f 7), .bool (f 8), .bool (f 9), .bool (f 10), .bool (f 11), .bool (f 12), .bool (f 13), .bool (f 14), .bool (f 15)] t)) w.heap.size f := by
  refine ⟨by simp, fun j hj => ⟨?_, by simp⟩⟩
  rw [World.cell?_alloc_new]
  match j, hj with
  | 0, _ => rfl
  | 1, _ => rfl
  | 2, _ => rfl
  | 3, _ => rfl
  | 4, _ => rfl
  | 5, _ => rfl
  | 6, _ => rfl
  | 7, _ => rfl
  | 8, _ => rfl
  | 9, _ => rfl
  | 10, _ => rfl
  | 11, _ => rfl
  | 12, _ => rfl
  | 13, _ => rfl
  | 14, _ => rfl
  | 15, _ => rfl
  | j + 16, h => exact absurd h (by omega)

theorem idxB (f : Nat → Bool) (j : Nat) (hj : j < 16) (w : World) : (Instr.index 87 (.agg #[.bool (f 0), .bool (f 1), .bool (f 2), .bool (f 3), .bool (f 4), .bool (f 5), .bool (f 6), .bool (f 7), .bool (f 8), .bool (f 9), .bool (f 10), .bool (f 11), .bool (f 12), .bool (f 13), .bool (f 14), .bool (f 15)]) (.int .i64 j)).run Try.prog w = .ok (.bool (f j)) w := by
  obtain rfl | rfl | rfl | rfl | rfl | rfl | rfl | rfl | rfl | rfl | rfl | rfl | rfl | rfl | rfl | rfl : j = 0 ∨ j = 1 ∨ j = 2 ∨ j = 3 ∨ j = 4 ∨ j = 5 ∨ j = 6 ∨ j = 7 ∨ j = 8 ∨ j = 9 ∨ j = 10 ∨ j = 11 ∨ j = 12 ∨ j = 13 ∨ j = 14 ∨ j = 15 := by omega
  all_goals kernel_rfl

set_option maxHeartbeats 1000000 in
theorem l1fresh_any (a0 a1 a2 a3 : Option Addr) (c0 c1 c2 c3 : Nat) (l0 l1 l2 l3 : List (Int × Int)) (w : World)
    (n0 : l0.length ≤ 1048576) (n1 : l1.length ≤ 1048576) (n2 : l2.length ≤ 1048576) (n3 : l3.length ≤ 1048576)
    (r0 : PRow w a0 l0) (r1 : PRow w a1 l1) (r2 : PRow w a2 l2) (r3 : PRow w a3 l3) (ht : asnB l0 l1 l2 l3 = true) :
    Calls Try.prog 122 #[.agg #[.slice a0 l0.length c0, .slice a1 l1.length c1, .slice a2 l2.length c2, .slice a3 l3.length c3]] w fun e w' => e = .returned (.int .i64 (freshF (usedV l0 l1 l2 l3))) ∧ Below w.heap.size w w' := by
  have HT : Hid (asnB l0 l1 l2 l3 = true) := ht
  clear ht
  have L : Below w.heap.size w (w.alloc (.cells #[.slice a0 l0.length c0, .slice a1 l1.length c1, .slice a2 l2.length c2, .slice a3 l3.length c3] 28)) := (Below.refl _ _).alloc (Nat.le_refl _) _
  go_enter Try.func122, Try.ntmps122
  go_wp2_with fail
  refine (l1used_any _ _ _ _ _ _ _ _ _ _ _ _ _ n0 n1 n2 n3 (by exact r0.below L (Nat.le_refl _)) (by exact r1.below L (Nat.le_refl _)) (by exact r2.below L (Nat.le_refl _)) (by exact r3.below L (Nat.le_refl _)) HT.out).mono ?_
  rintro e w1 ⟨bI, rfl, hI, I, hb⟩
  have L1 := L.trans (hb.mono L.size)
  clear hb L hI HT
  obtain ⟨f, hf⟩ : ∃ f, usedV l0 l1 l2 l3 = f := ⟨_, rfl⟩
  have HV : Hid (freshF (usedV l0 l1 l2 l3) = freshF f) := by show freshF (usedV l0 l1 l2 l3) = _; rw [hf]
  rw [hf] at I
  clear hf
  go_wp2
  go_loop [4] (fun i => ∃ k : Nat, 6 ≤ k ∧ k ≤ 16 ∧ i = .int .i64 k ∧ Hid (∀ i, 6 ≤ i → i < k → f i = true)) (fun i => 16 - (intOf i).toNat)
  case atStart => exact ⟨6, by omega, by omega, rfl, fun i h1 h2 => by omega⟩
  case round =>
    obtain ⟨k, hk0, hk, rfl, hall⟩ := hrel
    by_cases hlt : k < 16
    · have hx := (I.2 k hlt).1
      cases hf : f k
      · rw [hf] at hx
        have HF : Hid (f k = false) := hf
        clear hf
        go_wp2
        go_ret
        exact ⟨ret_int (HV.out.trans (freshF_hit hk0 hlt hall.out HF.out)).symm, L1⟩
      · rw [hf] at hx
        have HF : Hid (f k = true) := hf
        clear hf
        go_wp2
        go_round
        case rel => exact ⟨k + 1, by omega, by omega, by go_num, fun i h1 h2 => by
          by_cases e : i = k
          · subst e; exact HF.out
          · exact hall.out i h1 (by omega)⟩
        case measure => simp [intOf]; omega
    · obtain rfl : k = 16 := by omega
      go_wp2
      go_ret
      exact ⟨ret_int (HV.out.trans (freshF_miss hall.out)).symm, L1⟩

set_option maxHeartbeats 1000000 in
theorem sFresh_any (a0 a1 a2 a3 : Option Addr) (c0 c1 c2 c3 : Nat) (l0 l1 l2 l3 : List (Int × Int)) (w : World)
    (n0 : l0.length ≤ 1048576) (n1 : l1.length ≤ 1048576) (n2 : l2.length ≤ 1048576) (n3 : l3.length ≤ 1048576)
    (r0 : PRow w a0 l0) (r1 : PRow w a1 l1) (r2 : PRow w a2 l2) (r3 : PRow w a3 l3) :
    Calls Try.prog 42 #[.agg #[.slice a0 l0.length c0, .slice a1 l1.length c1, .slice a2 l2.length c2, .slice a3 l3.length c3]] w fun e w' => e = .returned (.int .i64 (freshV l0 l1 l2 l3)) ∧ Below w.heap.size w w' := by
  have B0 := Box.new w (.slice a0 l0.length c0) (.slice a1 l1.length c1) (.slice a2 l2.length c2) (.slice a3 l3.length c3) 28
  have L : Below w.heap.size w (w.alloc (.cells #[.slice a0 l0.length c0, .slice a1 l1.length c1, .slice a2 l2.length c2, .slice a3 l3.length c3] 28)) := (Below.refl _ _).alloc (Nat.le_refl _) _
  go_enter Try.func42, Try.ntmps42
  go_wp2_with fail
  refine (sAsnOk_any _ _ _ _ _ _ _ _ _ _ _ _ _ n0 n1 n2 n3 (by exact r0.below L (Nat.le_refl _)) (by exact r1.below L (Nat.le_refl _)) (by exact r2.below L (Nat.le_refl _)) (by exact r3.below L (Nat.le_refl _))).mono ?_
  rintro e w1 ⟨rfl, hb⟩
  have B1 := B0.below hb B0.lt; have L1 := L.trans (hb.mono L.size)
  clear hb B0 L
  have x0 := B1.c0; have x1 := B1.c1; have x2 := B1.c2; have x3 := B1.c3
  cases h : asnB l0 l1 l2 l3
  · go_wp2
    go_ret
    exact ⟨ret_int (by simp [freshV, h]), L1⟩
  · have HT : Hid (asnB l0 l1 l2 l3 = true) := h
    clear h
    go_wp2_with fail
    refine (l1fresh_any _ _ _ _ _ _ _ _ _ _ _ _ _ n0 n1 n2 n3 (by exact r0.below L1 (Nat.le_refl _)) (by exact r1.below L1 (Nat.le_refl _)) (by exact r2.below L1 (Nat.le_refl _)) (by exact r3.below L1 (Nat.le_refl _)) HT.out).mono ?_
    rintro e w2 ⟨rfl, hb⟩
    have L2 := L1.trans (hb.mono L1.size)
    go_wp2
    go_ret
    exact ⟨ret_int (by unfold freshV; rw [if_pos HT.out]), L2⟩

set_option maxHeartbeats 1000000 in
theorem iFresh_any (a0 a1 a2 a3 : Option Addr) (c0 c1 c2 c3 : Nat) (l0 l1 l2 l3 : List (Int × Int)) (w : World)
    (n0 : l0.length ≤ 1048576) (n1 : l1.length ≤ 1048576) (n2 : l2.length ≤ 1048576) (n3 : l3.length ≤ 1048576)
    (r0 : PRow w a0 l0) (r1 : PRow w a1 l1) (r2 : PRow w a2 l2) (r3 : PRow w a3 l3) :
    Calls Try.prog 43 #[.agg #[.slice a0 l0.length c0, .slice a1 l1.length c1, .slice a2 l2.length c2, .slice a3 l3.length c3]] w fun e w' => e = .returned (.int .i64 (freshV l0 l1 l2 l3)) ∧ Below w.heap.size w w' := by
  have B0 := Box.new w (.slice a0 l0.length c0) (.slice a1 l1.length c1) (.slice a2 l2.length c2) (.slice a3 l3.length c3) 28
  have L : Below w.heap.size w (w.alloc (.cells #[.slice a0 l0.length c0, .slice a1 l1.length c1, .slice a2 l2.length c2, .slice a3 l3.length c3] 28)) := (Below.refl _ _).alloc (Nat.le_refl _) _
  go_enter Try.func43, Try.ntmps43
  go_wp2_with fail
  refine (iAsnOk_any _ _ _ _ _ _ _ _ _ _ _ _ _ n0 n1 n2 n3 (by exact r0.below L (Nat.le_refl _)) (by exact r1.below L (Nat.le_refl _)) (by exact r2.below L (Nat.le_refl _)) (by exact r3.below L (Nat.le_refl _))).mono ?_
  rintro e w1 ⟨rfl, hb⟩
  have B1 := B0.below hb B0.lt; have L1 := L.trans (hb.mono L.size)
  clear hb B0 L
  have x0 := B1.c0; have x1 := B1.c1; have x2 := B1.c2; have x3 := B1.c3
  cases h : asnB l0 l1 l2 l3
  · go_wp2
    go_ret
    exact ⟨ret_int (by simp [freshV, h]), L1⟩
  · have HT : Hid (asnB l0 l1 l2 l3 = true) := h
    clear h
    go_wp2_with fail
    refine (termsIn_any _ _ _ _ _ _ _ _ _ _ _ _ _ n0 n1 n2 n3 (by exact r0.below L1 (Nat.le_refl _)) (by exact r1.below L1 (Nat.le_refl _)) (by exact r2.below L1 (Nat.le_refl _)) (by exact r3.below L1 (Nat.le_refl _)) HT.out).mono ?_
    rintro e w2 ⟨rfl, hb⟩
    have L2 := L1.trans (hb.mono L1.size)
    have HV : Hid (freshV l0 l1 l2 l3 = freshF (usedV l0 l1 l2 l3)) := by show freshV l0 l1 l2 l3 = _; unfold freshV; rw [if_pos HT.out]
    clear hb L1 B1 x0 x1 x2 x3 HT
    generalize usedV l0 l1 l2 l3 = f at *
    have I := BRow.lit w2 87 f
    have L3 := L2.alloc L2.size (.cells #[.bool (f 0), .bool (f 1), .bool (f 2), .bool (f 3), .bool (f 4), .bool (f 5), .bool (f 6), .bool (f 7), .bool (f 8), .bool (f 9), .bool (f 10), .bool (f 11), .bool (f 12), .bool (f 13), .bool (f 14), .bool (f 15)] 87)
    clear L2
    go_wp2
    go_loop [4] (fun i => ∃ k : Nat, 6 ≤ k ∧ k ≤ 16 ∧ i = .int .i64 k ∧ Hid (∀ i, 6 ≤ i → i < k → f i = true)) (fun i => 16 - (intOf i).toNat)
    case atStart => exact ⟨6, by omega, by omega, rfl, fun i h1 h2 => by omega⟩
    case round =>
      obtain ⟨k, hk0, hk, rfl, hall⟩ := hrel
      by_cases hlt : k < 16
      · have hx := (I.2 k hlt).1
        generalize w2.alloc (.cells #[.bool (f 0), .bool (f 1), .bool (f 2), .bool (f 3), .bool (f 4), .bool (f 5), .bool (f 6), .bool (f 7), .bool (f 8), .bool (f 9), .bool (f 10), .bool (f 11), .bool (f 12), .bool (f 13), .bool (f 14), .bool (f 15)] 87) = w3 at *
        cases hf : f k
        · rw [hf] at hx
          have HF : Hid (f k = false) := hf
          clear hf
          go_wp2
          go_ret
          exact ⟨ret_int (HV.out.trans (freshF_hit hk0 hlt hall.out HF.out)).symm, L3⟩
        · rw [hf] at hx
          have HF : Hid (f k = true) := hf
          clear hf
          go_wp2
          go_round
          case rel => exact ⟨k + 1, by omega, by omega, by go_num, fun i h1 h2 => by
            by_cases e : i = k
            · subst e; exact HF.out
            · exact hall.out i h1 (by omega)⟩
          case measure => simp [intOf]; omega
      · obtain rfl : k = 16 := by omega
        go_wp2
        go_ret
        exact ⟨ret_int (HV.out.trans (freshF_miss hall.out)).symm, L3⟩

end Go.Proofs.Ytldhbooginlcpaa
