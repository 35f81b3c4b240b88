/-
  The contracts of TermOk and of AsnOk, in package spec and in package impl: both answer by one plain function.
-/
import Derived.Test.YtfplloabkceaoaaChecked
import Derived.Test.YtfplloabkceaoaaBase
import Derived.Outline
namespace Go.Proofs.Ytfplloabkceaoaa
open Go.RowKit

def tok (x : Int) : Bool := decide (0 ≤ x ∧ x < 16)
def toks (l : List (Int × Int)) : Bool := l.all fun p => tok p.1 && tok p.2
def asnB (l0 l1 l2 l3 : List (Int × Int)) : Bool := toks l0 && toks l1 && toks l2 && toks l3 && decide (l0.length ≤ 12) && decide (l1.length ≤ 12) && decide (l2.length + l3.length ≤ 6)

theorem toks_true {l : List (Int × Int)} (h : ∀ i, i < l.length → tok (l[i]?.getD (0, 0)).1 = true ∧ tok (l[i]?.getD (0, 0)).2 = true) : toks l = true := by
  unfold toks
  rw [List.all_eq_true]
  intro p hp
  obtain ⟨i, hi, rfl⟩ := List.getElem_of_mem hp
  have := h i hi
  simpa [hi] using this

theorem toks_false {l : List (Int × Int)} {i : Nat} (hi : i < l.length) (h : tok (l[i]?.getD (0, 0)).1 = false ∨ tok (l[i]?.getD (0, 0)).2 = false) : toks l = false := by
  unfold toks
  rw [List.all_eq_false]
  refine ⟨l[i], List.getElem_mem hi, ?_⟩
  simp [hi] at h
  rcases h with h | h <;> simp [h]

theorem sTermOk_any (x : Int) (w : World) : Calls Try.prog 130 #[.int .i64 x] w fun e w' => e = .returned (.bool (tok x)) ∧ w' = w := by
  by_cases c1 : 0 ≤ x
  · by_cases c2 : x < 16
    · go_enter Try.func130, Try.ntmps130
      go_wp2
      go_ret
      exact ⟨ret_bool (by simp [tok, c1, c2]), rfl⟩
    · go_enter Try.func130, Try.ntmps130
      go_wp2
      go_ret
      exact ⟨ret_bool (by simp [tok]; omega), rfl⟩
  · go_enter Try.func130, Try.ntmps130
    go_wp2
    go_ret
    exact ⟨ret_bool (by simp [tok]; omega), rfl⟩

theorem iTermOk_any (x : Int) (w : World) : Calls Try.prog 134 #[.int .i64 x] w fun e w' => e = .returned (.bool (tok x)) ∧ w' = w := by
  by_cases c1 : 0 ≤ x
  · by_cases c2 : x < 16
    · go_enter Try.func134, Try.ntmps134
      go_wp2
      go_ret
      exact ⟨ret_bool (by simp [tok, c1, c2]), rfl⟩
    · go_enter Try.func134, Try.ntmps134
      go_wp2
      go_ret
      exact ⟨ret_bool (by simp [tok]; omega), rfl⟩
  · go_enter Try.func134, Try.ntmps134
    go_wp2
    go_ret
    exact ⟨ret_bool (by simp [tok]; omega), rfl⟩

set_option maxHeartbeats 400000 in
theorem l1pairs_some (b off cap : Nat) (l : List (Int × Int)) (w : World) (hn : l.length ≤ 1048576)
    (hc : ∀ i, i < l.length → w.cell? ⟨b, off + i * 2, none⟩ = some (.int .i64 (l.getD i (0, 0)).1) ∧ w.cell? ⟨b, off + i * 2 + 1, none⟩ = some (.int .i64 (l.getD i (0, 0)).2)) :
    Calls Try.prog 208 #[.slice (some ⟨b, off, none⟩) l.length cap] w fun e w' => e = .returned (.bool (toks l)) ∧ w' = w := by
  have hT : (∀ i, i < l.length → tok (l[i]?.getD (0, 0)).1 = true ∧ tok (l[i]?.getD (0, 0)).2 = true) → toks l = true := toks_true
  have hF : ∀ i, i < l.length → (tok (l[i]?.getD (0, 0)).1 = false ∨ tok (l[i]?.getD (0, 0)).2 = false) → toks l = false := fun i h => toks_false h
  have HT : Hid (∀ i, i < l.length → (tok (l[i]?.getD (0, 0)).1 = false ∨ tok (l[i]?.getD (0, 0)).2 = false) → toks l = false) := hF
  have HF : Hid ((∀ i, i < l.length → tok (l[i]?.getD (0, 0)).1 = true ∧ tok (l[i]?.getD (0, 0)).2 = true) → toks l = true) := hT
  clear hT hF
  generalize hN : l.length = n at *
  clear hN
  go_enter Try.func208, Try.ntmps208
  go_wp2
  go_loop [3] (fun i => ∃ k : Nat, k ≤ n ∧ i = .int .i64 k ∧ Hid (∀ i, i < k → tok (l[i]?.getD (0, 0)).1 = true ∧ tok (l[i]?.getD (0, 0)).2 = true)) (fun i => n - (intOf i).toNat)
  case atStart => exact ⟨0, Nat.zero_le _, rfl, fun i hi => by omega⟩
  case round =>
    obtain ⟨k, hk, rfl, hall⟩ := hrel
    by_cases hlt : k < n
    · have hck := hc k hlt
      clear hc
      have hx := hck.1
      have hy := hck.2
      clear hck
      cases hA : tok (l[k]?.getD (0, 0)).1
      · go_wp2_with (go_at_call 130; refine (sTermOk_any _ _).mono ?_; rintro e w1 ⟨rfl, rfl⟩)
        go_ret
        exact ⟨ret_bool (HT.out k hlt (.inl hA)).symm, rfl⟩
      · cases hB : tok (l[k]?.getD (0, 0)).2
        · go_wp2_with (go_at_call 130; refine (sTermOk_any _ _).mono ?_; rintro e w1 ⟨rfl, rfl⟩)
          go_ret
          exact ⟨ret_bool (HT.out k hlt (.inr hB)).symm, rfl⟩
        · go_wp2_with (go_at_call 130; refine (sTermOk_any _ _).mono ?_; rintro e w1 ⟨rfl, rfl⟩)
          go_round
          case rel => exact ⟨k + 1, by omega, by go_num, fun i hi => by
            by_cases e : i = k
            · subst e; exact ⟨hA, hB⟩
            · exact hall.out i (by omega)⟩
          case measure => simp [intOf]; omega
    · go_wp2
      go_ret
      obtain rfl : k = n := by omega
      exact ⟨ret_bool (HF.out hall.out).symm, rfl⟩

set_option maxHeartbeats 400000 in
theorem l1pairs_nil (a : Option Addr) (cap : Nat) (w : World) : Calls Try.prog 208 #[.slice a 0 cap] w fun e w' => e = .returned (.bool true) ∧ w' = w := by
  go_enter Try.func208, Try.ntmps208
  go_wp2
  go_loop [3] (fun i => i = .int .i64 0) (fun _ => 0)
  case atStart => exact rfl
  case round =>
    subst hrel
    go_wp2
    go_ret
    exact ⟨rfl, rfl⟩

theorem l1pairs_any (a : Option Addr) (cap : Nat) (l : List (Int × Int)) (w : World) (hn : l.length ≤ 1048576) (hr : PRow w a l) :
    Calls Try.prog 208 #[.slice a l.length cap] w fun e w' => e = .returned (.bool (toks l)) ∧ w' = w := by
  rcases hr with rfl | ⟨b, off, rfl, hb, hc⟩
  · exact l1pairs_nil a cap w
  · exact l1pairs_some b off cap l w hn hc

set_option maxHeartbeats 1000000 in
theorem sAsnOk_any (a0 a1 a2 a3 : Option Addr) (c0 c1 c2 c3 : Nat) (l0 l1 l2 l3 : List (Int × Int)) (w : World)
    (n0 : l0.length ≤ 1048576) (n1 : l1.length ≤ 1048576) (n2 : l2.length ≤ 1048576) (n3 : l3.length ≤ 1048576)
    (r0 : PRow w a0 l0) (r1 : PRow w a1 l1) (r2 : PRow w a2 l2) (r3 : PRow w a3 l3) :
    Calls Try.prog 129 #[.agg #[.slice a0 l0.length c0, .slice a1 l1.length c1, .slice a2 l2.length c2, .slice a3 l3.length c3]] w fun e w' => e = .returned (.bool (asnB l0 l1 l2 l3)) ∧ Below w.heap.size w w' := by
  have L : Below w.heap.size w (w.alloc (.cells #[.slice a0 l0.length c0, .slice a1 l1.length c1, .slice a2 l2.length c2, .slice a3 l3.length c3] 28)) := (Below.refl _ _).alloc (Nat.le_refl _) _
  go_enter Try.func129, Try.ntmps129
  go_wp2_with fail
  refine (l1pairs_any _ _ _ _ n0 (by exact r0.below L (Nat.le_refl _))).mono ?_
  rintro e w1 ⟨rfl, rfl⟩
  cases h0 : toks l0
  · go_wp2
    go_ret
    exact ⟨ret_bool (by simp [asnB, h0]), L⟩
  go_wp2_with fail
  refine (l1pairs_any _ _ _ _ n1 (by exact r1.below L (Nat.le_refl _))).mono ?_
  rintro e w1 ⟨rfl, rfl⟩
  cases h1 : toks l1
  · go_wp2
    go_ret
    exact ⟨ret_bool (by simp [asnB, h1]), L⟩
  go_wp2_with fail
  refine (l1pairs_any _ _ _ _ n2 (by exact r2.below L (Nat.le_refl _))).mono ?_
  rintro e w1 ⟨rfl, rfl⟩
  cases h2 : toks l2
  · go_wp2
    go_ret
    exact ⟨ret_bool (by simp [asnB, h2]), L⟩
  go_wp2_with fail
  refine (l1pairs_any _ _ _ _ n3 (by exact r3.below L (Nat.le_refl _))).mono ?_
  rintro e w1 ⟨rfl, rfl⟩
  cases h3 : toks l3
  · go_wp2
    go_ret
    exact ⟨ret_bool (by simp [asnB, h3]), L⟩
  by_cases m0 : (l0.length : Int) ≤ 12
  rotate_left
  · go_wp2
    go_ret
    exact ⟨ret_bool (by simp [asnB]; omega), L⟩
  by_cases m1 : (l1.length : Int) ≤ 12
  rotate_left
  · go_wp2
    go_ret
    exact ⟨ret_bool (by simp [asnB]; omega), L⟩
  by_cases m2 : (l2.length : Int) ≤ 6
  rotate_left
  · go_wp2
    go_ret
    exact ⟨ret_bool (by simp [asnB]; omega), L⟩
  by_cases m3 : (l3.length : Int) ≤ 6
  rotate_left
  · go_wp2
    go_ret
    exact ⟨ret_bool (by simp [asnB]; omega), L⟩
  go_wp2
  go_ret
  exact ⟨ret_bool (by rw [Bool.eq_iff_iff]; simp [asnB, h0, h1, h2, h3]; omega), L⟩

end Go.Proofs.Ytfplloabkceaoaa
