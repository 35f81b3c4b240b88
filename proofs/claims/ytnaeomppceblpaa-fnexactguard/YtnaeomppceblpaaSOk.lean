/-
  The contracts of StateOk in package spec and in package impl, and of what they call: both answer by one plain function.
-/
import Derived.Test.YtnaeomppceblpaaSLaw
namespace Go.Proofs.Ytnaeomppceblpaa.S
open Go.RowKit

def pOk (x : Int) : Bool := decide (0 ≤ x ∧ x ≤ 6)
def aOk (x : Int) : Bool := decide (-1 ≤ x ∧ x ≤ 6)
def hOk (l : List Int) : Bool := decide (l.length = 7) && (decide (l.getD 0 0 = -1) && l.all aOk)
def tOk (l : List Int) : Bool := decide (l.length = 16) && (decide (l.getD 0 0 = 0) && l.all pOk)
def sOk (t h : List Int) : Bool := tOk t && hOk h

theorem all_true {p : Int → Bool} {l : List Int} (h : ∀ i, i < l.length → p (l.getD i 0) = true) : l.all p = true := by
  rw [List.all_eq_true]
  intro x hx
  obtain ⟨i, hi, rfl⟩ := List.getElem_of_mem hx
  simpa [hi] using h i hi

theorem all_false {p : Int → Bool} {l : List Int} {i : Nat} (hi : i < l.length) (h : p (l.getD i 0) = false) : l.all p = false := by
  rw [List.all_eq_false]
  refine ⟨l[i], List.getElem_mem hi, ?_⟩
  simp [hi] at h
  simp [h]

set_option maxHeartbeats 400000 in
theorem l2heap_any (b cap : Nat) (l : List Int) (w : World) (hn : l.length ≤ 1048576) (ho : OwnI w b l.length l l.length) :
    Calls Try.prog 88 #[.slice (some ⟨b, 0, none⟩) l.length cap] w fun e w' => e = .returned (.bool (hOk l)) ∧ w' = w := by
  have HF : Hid (∀ i, i < l.length → aOk (l.getD i 0) = false → hOk l = false) := fun i hi h => by unfold hOk; rw [all_false hi h]; simp
  have HT : Hid ((∀ i, i < l.length → aOk (l.getD i 0) = true) → hOk l = (decide (l.length = 7) && decide (l.getD 0 0 = -1))) := fun h => by unfold hOk; rw [all_true h]; simp
  obtain ⟨x0, e0⟩ : ∃ x0, Hid (l.getD 0 0 = x0) := ⟨_, rfl⟩
  rw [e0.out] at HT
  generalize hN : l.length = n at *
  clear hN
  go_enter Try.func88, Try.ntmps88
  go_wp2
  go_loop [3] (fun i => ∃ k : Nat, k ≤ n ∧ i = .int .i64 k ∧ Hid (∀ i, i < k → aOk (l.getD i 0) = true)) (fun i => n - (intOf i).toNat)
  case atStart => exact ⟨0, Nat.zero_le _, rfl, fun i hi => by omega⟩
  case round =>
    obtain ⟨k, hk, rfl, hall⟩ := hrel
    by_cases hlt : k < n
    · have hx := ho.2.2 k hlt
      obtain ⟨x, ex⟩ : ∃ x, Hid (l.getD k 0 = x) := ⟨_, rfl⟩
      rw [ex.out] at hx
      by_cases c1 : x < -1
      · go_wp2
        go_ret
        exact ⟨ret_bool (HF.out k hlt (by rw [ex.out]; simp [aOk]; omega)).symm, rfl⟩
      · by_cases c2 : x > 6
        · go_wp2
          go_ret
          exact ⟨ret_bool (HF.out k hlt (by rw [ex.out]; simp [aOk]; omega)).symm, rfl⟩
        · go_wp2
          go_round
          case rel => exact ⟨k + 1, by omega, by go_num, fun i hi => by
            by_cases e : i = k
            · subst e; rw [ex.out]; simp [aOk]; omega
            · exact hall.out i (by omega)⟩
          case measure => simp [intOf]; omega
    · obtain rfl : k = n := by omega
      by_cases c1 : k = 7
      · subst c1
        have hx := ho.2.2 0 (by omega)
        rw [e0.out] at hx
        by_cases c2 : x0 = -1
        · subst c2
          go_wp2
          go_ret
          exact ⟨ret_bool (by rw [HT.out hall.out]; rfl), rfl⟩
        · go_wp2
          go_ret
          exact ⟨ret_bool (by rw [HT.out hall.out]; simp [c2]), rfl⟩
      · have c2 : ¬ (k : Int) = 7 := by omega
        go_wp2
        go_ret
        exact ⟨ret_bool (by rw [HT.out hall.out]; simp [c1]), rfl⟩

theorem placeOk_any (x : Int) (w : World) : Calls Try.prog 128 #[.int .i64 x] w fun e w' => e = .returned (.bool (pOk x)) ∧ w' = w := by
  by_cases c1 : 0 ≤ x
  · by_cases c2 : x ≤ 6
    · go_enter Try.func128, Try.ntmps128
      go_wp2
      go_ret
      exact ⟨ret_bool (by simp [pOk, c1, c2]), rfl⟩
    · go_enter Try.func128, Try.ntmps128
      go_wp2
      go_ret
      exact ⟨ret_bool (by simp [pOk]; omega), rfl⟩
  · go_enter Try.func128, Try.ntmps128
    go_wp2
    go_ret
    exact ⟨ret_bool (by simp [pOk]; omega), rfl⟩

set_option maxHeartbeats 400000 in
theorem placesOk_any (b cap : Nat) (l : List Int) (w : World) (hn : l.length ≤ 1048576) (ho : OwnI w b l.length l l.length) :
    Calls Try.prog 89 #[.slice (some ⟨b, 0, none⟩) l.length cap] w fun e w' => e = .returned (.bool (l.all pOk)) ∧ w' = w := by
  have HF : Hid (∀ i, i < l.length → pOk (l.getD i 0) = false → l.all pOk = false) := fun i hi h => all_false hi h
  have HT : Hid ((∀ i, i < l.length → pOk (l.getD i 0) = true) → l.all pOk = true) := fun h => all_true h
  generalize hN : l.length = n at *
  generalize hA : l.all pOk = r at *
  clear hN hA
  go_enter Try.func89, Try.ntmps89
  go_wp2
  go_loop [4, 7] (fun _ i => ∃ k : Nat, k ≤ n ∧ i = .int .i64 k ∧ Hid (∀ i, i < k → pOk (l.getD i 0) = true)) (fun _ i => n - (intOf i).toNat)
  case atStart => exact ⟨0, Nat.zero_le _, rfl, fun i hi => by omega⟩
  case round =>
    obtain ⟨k, hk, rfl, hall⟩ := hrel
    by_cases hlt : k < n
    · have hx := ho.2.2 k hlt
      obtain ⟨x, ex⟩ : ∃ x, Hid (l.getD k 0 = x) := ⟨_, rfl⟩
      rw [ex.out] at hx
      cases hA : pOk x
      · go_wp2_with (go_at_call 128; refine (placeOk_any _ _).mono ?_; rintro e w1 ⟨rfl, rfl⟩)
        go_ret
        exact ⟨ret_bool (HF.out k hlt (by rw [ex.out]; exact hA)).symm, rfl⟩
      · go_wp2_with (go_at_call 128; refine (placeOk_any _ _).mono ?_; rintro e w1 ⟨rfl, rfl⟩)
        go_round
        case rel => exact ⟨k + 1, by omega, by go_num, fun i hi => by
          by_cases e : i = k
          · subst e; rw [ex.out]; exact hA
          · exact hall.out i (by omega)⟩
        case measure => simp [intOf]; omega
    · obtain rfl : k = n := by omega
      go_wp2
      go_ret
      exact ⟨ret_bool (HT.out hall.out).symm, rfl⟩

set_option maxHeartbeats 400000 in
theorem heapOk_any (b cap : Nat) (l : List Int) (w : World) (hn : l.length ≤ 1048576) (ho : OwnI w b l.length l l.length) :
    Calls Try.prog 90 #[.slice (some ⟨b, 0, none⟩) l.length cap] w fun e w' => e = .returned (.bool (hOk l)) ∧ w' = w := by
  have HF : Hid (∀ i, i < l.length → aOk (l.getD i 0) = false → hOk l = false) := fun i hi h => by unfold hOk; rw [all_false hi h]; simp
  have HT : Hid ((∀ i, i < l.length → aOk (l.getD i 0) = true) → hOk l = (decide (l.length = 7) && decide (l.getD 0 0 = -1))) := fun h => by unfold hOk; rw [all_true h]; simp
  have H7 : Hid (l.length ≠ 7 → hOk l = false) := fun h => by unfold hOk; simp [h]
  have H0 : Hid (l.getD 0 0 ≠ -1 → hOk l = false) := fun h => by unfold hOk; rw [decide_eq_false h]; simp
  obtain ⟨x0, e0⟩ : ∃ x0, Hid (l.getD 0 0 = x0) := ⟨_, rfl⟩
  rw [e0.out] at HT H0
  generalize hN : l.length = n at *
  clear hN
  by_cases c1 : n = 7
  · subst c1
    have hx0 := ho.2.2 0 (by omega)
    rw [e0.out] at hx0
    by_cases c2 : x0 = -1
    · subst c2
      go_enter Try.func90, Try.ntmps90
      go_wp2
      go_loop [4, 16] (fun _ i => ∃ k : Nat, k ≤ 7 ∧ i = .int .i64 k ∧ Hid (∀ i, i < k → aOk (l.getD i 0) = true)) (fun _ i => 7 - (intOf i).toNat)
      case atStart => exact ⟨0, Nat.zero_le _, rfl, fun i hi => by omega⟩
      case round =>
        clear hx0
        obtain ⟨k, hk, rfl, hall⟩ := hrel
        by_cases hlt : k < 7
        · have hx := ho.2.2 k hlt
          obtain ⟨x, ex⟩ : ∃ x, Hid (l.getD k 0 = x) := ⟨_, rfl⟩
          rw [ex.out] at hx
          by_cases c3 : x = -1
          · subst c3
            go_wp2
            go_round
            case rel => exact ⟨k + 1, by omega, by go_num, fun i hi => by
              by_cases e : i = k
              · subst e; rw [ex.out]; decide
              · exact hall.out i (by omega)⟩
            case measure => simp [intOf]; omega
          · cases hA : pOk x
            · go_wp2_with (go_at_call 128; refine (placeOk_any _ _).mono ?_; rintro e w1 ⟨rfl, rfl⟩)
              go_ret
              exact ⟨ret_bool (HF.out k hlt (by rw [ex.out]; simp [aOk]; simp [pOk] at hA; omega)).symm, rfl⟩
            · go_wp2_with (go_at_call 128; refine (placeOk_any _ _).mono ?_; rintro e w1 ⟨rfl, rfl⟩)
              go_round
              case rel => exact ⟨k + 1, by omega, by go_num, fun i hi => by
                by_cases e : i = k
                · subst e; rw [ex.out]; simp [aOk]; simp [pOk] at hA; omega
                · exact hall.out i (by omega)⟩
              case measure => simp [intOf]; omega
        · obtain rfl : k = 7 := by omega
          go_wp2
          go_ret
          exact ⟨ret_bool (by rw [HT.out hall.out]; rfl), rfl⟩
    · go_enter Try.func90, Try.ntmps90
      go_wp2
      go_ret
      exact ⟨ret_bool (H0.out c2).symm, rfl⟩
  · have c2 : ¬ (n : Int) = 7 := by omega
    go_enter Try.func90, Try.ntmps90
    go_wp2
    go_ret
    exact ⟨ret_bool (H7.out c1).symm, rfl⟩

end Go.Proofs.Ytnaeomppceblpaa.S
