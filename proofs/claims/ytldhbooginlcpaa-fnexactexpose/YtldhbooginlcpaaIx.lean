/-
  The contracts of slices.Index and slices.Contains at integers, and of spec.l3has.
-/
import Derived.Test.YtldhbooginlcpaaL3
import Derived.Test.YtldhbooginlcpaaCl
namespace Go.Proofs.Ytldhbooginlcpaa
open Go.RowKit
def idxV (l : List Int) (v : Int) : Int := match l.findIdx? (fun z => decide (z = v)) with | some i => (i : Int) | none => -1
def hasV (l : List Int) (v : Int) : Bool := l.any fun z => decide (z = v)
theorem idx_hit {l : List Int} {v : Int} {k : Nat} (hk : k < l.length) (h : ∀ j, j < k → ¬ l.getD j 0 = v) (e : l.getD k 0 = v) : idxV l v = (k : Int) ∧ hasV l v = true := by
  have e2 : l[k] = v := by simpa [hk] using e
  have hf : l.findIdx? (fun z => decide (z = v)) = some k := by
    rw [List.findIdx?_eq_some_iff_getElem]
    refine ⟨hk, by simpa using e2, fun j hj => ?_⟩
    have := h j hj
    have hjl : j < l.length := by omega
    simpa [hjl] using this
  refine ⟨by unfold idxV; rw [hf], ?_⟩
  unfold hasV
  rw [List.any_eq_true]
  exact ⟨l[k], List.getElem_mem hk, by simpa using e2⟩
theorem idx_none {l : List Int} {v : Int} (h : ∀ j, j < l.length → ¬ l.getD j 0 = v) : idxV l v = -1 ∧ hasV l v = false := by
  have hn : ∀ z ∈ l, ¬ z = v := by
    intro z hz
    obtain ⟨j, hj, rfl⟩ := List.getElem_of_mem hz
    have := h j hj
    simpa [hj] using this
  have hf : l.findIdx? (fun z => decide (z = v)) = none := by
    rw [List.findIdx?_eq_none_iff]
    intro z hz
    simpa using hn z hz
  refine ⟨by unfold idxV; rw [hf], ?_⟩
  unfold hasV
  rw [List.any_eq_false]
  intro z hz
  simpa using hn z hz
theorem has_idx (l : List Int) (v : Int) : decide (idxV l v ≥ 0) = hasV l v := by
  by_cases h : ∃ z ∈ l, z = v
  · obtain ⟨z, hz, rfl⟩ := h
    obtain ⟨k, hk⟩ : ∃ k, l.findIdx? (fun y => decide (y = z)) = some k := by
      cases hf : l.findIdx? (fun y => decide (y = z)) with
      | some k => exact ⟨k, rfl⟩
      | none =>
        rw [List.findIdx?_eq_none_iff] at hf
        have := hf z hz
        simp at this
    have h2 : hasV l z = true := by unfold hasV; rw [List.any_eq_true]; exact ⟨z, hz, by simp⟩
    rw [h2]
    unfold idxV
    rw [hk]
    simp
  · have hn : ∀ j, j < l.length → ¬ l.getD j 0 = v := by
      intro j hj e
      exact h ⟨l[j], List.getElem_mem hj, by simpa [hj] using e⟩
    rw [(idx_none hn).1, (idx_none hn).2]
    rfl

set_option maxRecDepth 3000 in
set_option maxHeartbeats 1000000 in
theorem index_any (lo hi n cp : Nat) (a : Option Addr) (l : List Int) (v : Int) (w : World) (hn : n ≤ 1048576) (hr : IntIn w lo hi a n l) :
    Calls Try.prog 151 #[.slice a n cp, .int .i64 v] w fun e w' => e = .returned (.int .i64 (idxV l v)) ∧ w' = w := by
  obtain ⟨hl, hr⟩ := hr
  have HL : Hid (l.length = n) := hl
  clear hl
  go_enter Try.func151, Try.ntmps151
  go_wp2_with fail
  go_loop [8] (fun i => ∃ k : Nat, k ≤ n ∧ i = .int .i64 k ∧ Hid (∀ j, j < k → ¬ l.getD j 0 = v)) (fun i => n - (intOf i).toNat)
  case atStart => exact ⟨0, Nat.zero_le _, rfl, fun j hj => absurd hj (Nat.not_lt_zero _)⟩
  case round =>
    obtain ⟨k, hk, rfl, HM⟩ := hrel
    by_cases hlt : k < n
    · rcases hr with h0 | ⟨b, rfl, _, _, O⟩
      · omega
      have ev := O.2.2 k hlt
      have hkn : (k : Int) < (n : Int) := by omega
      have hk0 : (0 : Int) ≤ (k : Int) := by omega
      clear O
      by_cases hf : l.getD k 0 = v
      · have HV : Hid (idxV l v = (k : Int)) := by unfold Hid; exact (idx_hit (by have := HL.out; omega) HM.out hf).1
        rw [hf] at ev
        clear hf
        go_wp2
        go_ret
        exact ⟨by rw [HV.out]; rfl, rfl⟩
      · have HM2 : Hid (∀ j, j < k + 1 → ¬ l.getD j 0 = v) := by
          intro j hj
          by_cases e : j = k
          · subst e; exact hf
          · exact HM.out j (by omega)
        generalize l.getD k 0 = z at *
        have hf2 : ¬ v = z := fun e => hf e.symm
        go_wp2
        go_round
        case rel => exact ⟨k + 1, by omega, by go_num, HM2⟩
        case measure => simp [intOf]; omega
    · have HV : Hid (idxV l v = -1) := by unfold Hid; exact (idx_none (fun j hj => HM.out j (by have := HL.out; omega))).1
      have hge : ¬ ((k : Int) < (n : Int)) := by omega
      go_wp2
      go_ret
      exact ⟨by rw [HV.out]; rfl, rfl⟩

set_option maxRecDepth 3000 in
set_option maxHeartbeats 1000000 in
theorem l3has_any (lo hi n cp : Nat) (a : Option Addr) (l : List Int) (v : Int) (w : World) (hn : n ≤ 1048576) (hr : IntIn w lo hi a n l) :
    Calls Try.prog 189 #[.slice a n cp, .int .i64 v] w fun e w' => e = .returned (.bool (hasV l v)) ∧ w' = w := by
  obtain ⟨hl, hr⟩ := hr
  have HL : Hid (l.length = n) := hl
  clear hl
  go_enter Try.func189, Try.ntmps189
  go_wp2_with fail
  go_loop [5] (fun i => ∃ k : Nat, k ≤ n ∧ i = .int .i64 k ∧ Hid (∀ j, j < k → ¬ l.getD j 0 = v)) (fun i => n - (intOf i).toNat)
  case atStart => exact ⟨0, Nat.zero_le _, rfl, fun j hj => absurd hj (Nat.not_lt_zero _)⟩
  case round =>
    obtain ⟨k, hk, rfl, HM⟩ := hrel
    by_cases hlt : k < n
    · rcases hr with h0 | ⟨b, rfl, _, _, O⟩
      · omega
      have ev := O.2.2 k hlt
      have hkn : (k : Int) < (n : Int) := by omega
      have hk0 : (0 : Int) ≤ (k : Int) := by omega
      clear O
      by_cases hf : l.getD k 0 = v
      · have HV : Hid (hasV l v = true) := by unfold Hid; exact (idx_hit (by have := HL.out; omega) HM.out hf).2
        rw [hf] at ev
        clear hf
        go_wp2
        go_ret
        exact ⟨by rw [HV.out]; rfl, rfl⟩
      · have HM2 : Hid (∀ j, j < k + 1 → ¬ l.getD j 0 = v) := by
          intro j hj
          by_cases e : j = k
          · subst e; exact hf
          · exact HM.out j (by omega)
        generalize l.getD k 0 = z at *
        have hf2 : ¬ v = z := fun e => hf e.symm
        go_wp2
        go_round
        case rel => exact ⟨k + 1, by omega, by go_num, HM2⟩
        case measure => simp [intOf]; omega
    · have HV : Hid (hasV l v = false) := by unfold Hid; exact (idx_none (fun j hj => HM.out j (by have := HL.out; omega))).2
      have hge : ¬ ((k : Int) < (n : Int)) := by omega
      go_wp2
      go_ret
      exact ⟨by rw [HV.out]; rfl, rfl⟩

set_option maxHeartbeats 1000000 in
theorem contains_any (lo hi n cp : Nat) (a : Option Addr) (l : List Int) (v : Int) (w : World) (hn : n ≤ 1048576) (hr : IntIn w lo hi a n l) :
    Calls Try.prog 192 #[.slice a n cp, .int .i64 v] w fun e w' => e = .returned (.bool (hasV l v)) ∧ w' = w := by
  have HV : Hid (decide (idxV l v ≥ 0) = hasV l v) := has_idx l v
  go_enter Try.func192, Try.ntmps192
  go_wp2_with fail
  refine (index_any lo hi n cp a l v _ hn hr).mono ?_
  rintro e wz ⟨rfl, rfl⟩
  generalize idxV l v = q at *
  go_wp2
  go_ret
  exact ⟨by rw [← HV.out]; rfl, rfl⟩
end Go.Proofs.Ytldhbooginlcpaa
