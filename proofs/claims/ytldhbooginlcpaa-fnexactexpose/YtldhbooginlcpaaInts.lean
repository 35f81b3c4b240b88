/-
  Rows of integers, and the contracts of laws.eqIntS, laws.markIntS and laws.heldIntS.
-/
import Derived.Test.YtldhbooginlcpaaApp
import Derived.Deep.RegionWith
import Derived.Outline
namespace Go.Proofs.Ytldhbooginlcpaa
open Go.RowKit

/-- Block b of w is a row of n integers of the call's own, the first k of which are those of l. -/
def OwnI (w : World) (b n : Nat) (l : List Int) (k : Nat) : Prop :=
  b < w.heap.size ∧ (∀ j, j < n → (∃ v, w.cell? ⟨b, j, none⟩ = some v) ∧ w.frozen? ⟨b, j, none⟩ = false) ∧ ∀ i, i < k → w.cell? ⟨b, i, none⟩ = some (.int .i64 (l.getD i 0))

theorem OwnI.below {B : Nat} {w w' : World} {b n k : Nat} {l : List Int} (h : OwnI w b n l k) (hb : Below B w w') (hB : b < B) : OwnI w' b n l k := by
  obtain ⟨h1, h2, h3⟩ := h
  refine ⟨Nat.lt_of_lt_of_le h1 hb.size, fun j hj => ?_, fun i hi => ?_⟩
  · rw [hb.cell (p := ⟨b, j, none⟩) hB, hb.frozen (p := ⟨b, j, none⟩) hB]; exact h2 j hj
  · rw [hb.cell (p := ⟨b, _, none⟩) hB]; exact h3 i hi

theorem OwnI.out {lo hi : Nat} {w w' : World} {b n k : Nat} {l : List Int} (h : OwnI w b n l k) (ho : Out lo hi w w') (hr : b < lo ∨ hi ≤ b) : OwnI w' b n l k := by
  obtain ⟨h1, h2, h3⟩ := h
  have e : ∀ o, w'.cell? ⟨b, o, none⟩ = w.cell? ⟨b, o, none⟩ := fun o => World.cell?_of_block (w := w) (ho.block b h1 hr)
  have f : ∀ o, w'.frozen? ⟨b, o, none⟩ = w.frozen? ⟨b, o, none⟩ := fun o => World.frozen?_of_block (w := w) (ho.block b h1 hr)
  refine ⟨Nat.lt_of_lt_of_le h1 ho.size, fun j hj => ?_, fun i hi => ?_⟩
  · rw [e, f]; exact h2 j hj
  · rw [e]; exact h3 i hi

theorem OwnI.step {w : World} {b n k : Nat} {l : List Int} (h : OwnI w b n l k) (hk : k < n) : OwnI (w.setCell ⟨b, k, none⟩ (.int .i64 (l.getD k 0))) b n l (k + 1) := by
  obtain ⟨h1, h2, h3⟩ := h
  refine ⟨by simpa using h1, fun j hj => ⟨?_, by simpa using (h2 j hj).2⟩, fun i hi => ?_⟩
  · obtain ⟨v, hv⟩ := (h2 j hj).1
    exact ⟨_, cell_set hv⟩
  · by_cases e : i = k
    · subst e
      obtain ⟨v, hv⟩ := (h2 i (by omega)).1
      rw [cell_set hv, if_pos rfl]
    · rw [cell_set (h3 i (by omega)), if_neg (by omega)]

theorem OwnI.zero {w : World} {b n k : Nat} {l m : List Int} (h : OwnI w b n l k) : OwnI w b n m 0 := ⟨h.1, h.2.1, fun i hi => by omega⟩

/-- A slice of n integers that reads as l, in a block of the call's own from lo to hi. -/
def IntIn (w : World) (lo hi : Nat) (a : Option Addr) (n : Nat) (l : List Int) : Prop :=
  l.length = n ∧ (n = 0 ∨ ∃ b, a = some ⟨b, 0, none⟩ ∧ lo ≤ b ∧ b < hi ∧ OwnI w b n l n)

theorem IntIn.out {lo hi lo' hi' : Nat} {w w' : World} {a : Option Addr} {n : Nat} {l : List Int} (h : IntIn w lo hi a n l) (ho : Out lo' hi' w w') (hr : hi ≤ lo' ∨ hi' ≤ lo) : IntIn w' lo hi a n l := by
  obtain ⟨hl, h0 | ⟨b, rfl, h1, h2, h3⟩⟩ := h
  · exact ⟨hl, .inl h0⟩
  · exact ⟨hl, .inr ⟨b, rfl, h1, h2, h3.out ho (by omega)⟩⟩

theorem IntIn.below {lo hi B : Nat} {w w' : World} {a : Option Addr} {n : Nat} {l : List Int} (h : IntIn w lo hi a n l) (ho : Below B w w') (hr : hi ≤ B) : IntIn w' lo hi a n l := by
  obtain ⟨hl, h0 | ⟨b, rfl, h1, h2, h3⟩⟩ := h
  · exact ⟨hl, .inl h0⟩
  · exact ⟨hl, .inr ⟨b, rfl, h1, h2, h3.below ho (by omega)⟩⟩

theorem IntIn.mono {lo hi lo' hi' : Nat} {w : World} {a : Option Addr} {n : Nat} {l : List Int} (h : IntIn w lo hi a n l) (h1 : lo' ≤ lo) (h2 : hi ≤ hi') : IntIn w lo' hi' a n l := by
  obtain ⟨hl, h0 | ⟨b, rfl, h3, h4, h5⟩⟩ := h
  · exact ⟨hl, .inl h0⟩
  · exact ⟨hl, .inr ⟨b, rfl, by omega, by omega, h5⟩⟩

def ic (l : List Int) : List Value := l.map fun x => Value.int .i64 x
theorem ic_length (l : List Int) : (ic l).length = l.length * 1 := by simp [ic]

theorem OwnI.ofOwns {w : World} {base n g cap : Nat} {l : List Int} (h : w.ownsRow base 3 1 (.slice (some ⟨g, 0, none⟩) n cap) n (ic l)) : l.length = n ∧ base ≤ g ∧ OwnI w g n l n := by
  have hl : l.length = n := by have := h.1; rw [ic_length] at this; omega
  obtain ⟨hb, hlt⟩ := h.lt g rfl
  refine ⟨hl, hb, hlt, fun j hj => ⟨?_, h.frozenAt j⟩, fun i hi => ?_⟩
  · rw [h.cellAt j (by omega)]
    exact ⟨(ic l)[j]'(by rw [ic_length]; omega), by rw [List.getElem?_eq_getElem]⟩
  · rw [h.cellAt _ (by omega)]
    have hi' : i < l.length := by omega
    simp [ic, hi']

theorem IntIn.ofOwns {w : World} {base n : Nat} {v : Value} {l : List Int} (h : w.ownsRow base 3 1 v n (ic l)) : ∃ a cap, v = .slice a n cap ∧ IntIn w base w.heap.size a n l := by
  rcases h.2 with ⟨rfl, rfl⟩ | ⟨g, cap, cur, rfl, _⟩
  · exact ⟨none, 0, rfl, by have := h.1; rw [ic_length] at this; omega, .inl rfl⟩
  · obtain ⟨hl, hb, ho⟩ := OwnI.ofOwns h
    exact ⟨_, _, rfl, hl, .inr ⟨g, rfl, hb, ho.1, ho⟩⟩

def imarks (k : Int) (n : Nat) : List Int := (List.range n).map fun (i : Nat) => k + 1 * i
theorem imarks_length (k : Int) (n : Nat) : (imarks k n).length = n := by simp [imarks]
theorem imarks_at (k : Int) (n : Nat) {i : Nat} (h : i < n) : (imarks k n).getD i 0 = k + i := by simp [imarks, h]

set_option maxHeartbeats 400000 in
theorem eqIntS_none (a a' : Option Addr) (cap cap' : Nat) (w : World) : Calls Try.prog 55 #[.slice a 0 cap, .slice a' 0 cap'] w fun e w' => e = .returned (.bool true) ∧ Below w.heap.size w w' := by
  go_enter Try.func55, Try.ntmps55
  go_wp2
  go_loopw [5] (fun i wr => i = .int .i64 0 ∧ Below w.heap.size w wr) (fun _ _ => 0)
  case atStart => exact ⟨rfl, Below.refl _ _⟩
  case round =>
    obtain ⟨rfl, hbw⟩ := hrel
    go_wp2
    go_ret
    exact ⟨rfl, hbw⟩

set_option maxHeartbeats 400000 in
theorem eqIntS_some (b b' n cap cap' : Nat) (l : List Int) (w : World) (hn : n ≤ 1048576) (ho : OwnI w b n l n) (ho' : OwnI w b' n l n) :
    Calls Try.prog 55 #[.slice (some ⟨b, 0, none⟩) n cap, .slice (some ⟨b', 0, none⟩) n cap'] w fun e w' => e = .returned (.bool true) ∧ Below w.heap.size w w' := by
  go_enter Try.func55, Try.ntmps55
  go_wp2
  go_loopw [5] (fun i wr => ∃ k : Nat, k ≤ n ∧ i = .int .i64 k ∧ Below w.heap.size w wr) (fun i _ => n - (intOf i).toNat)
  case atStart => exact ⟨0, Nat.zero_le _, rfl, Below.refl _ _⟩
  case round =>
    obtain ⟨k, hk, rfl, hbw⟩ := hrel
    by_cases hlt : k < n
    · have hx := (ho.below hbw ho.1).2.2 k hlt
      have hy := (ho'.below hbw ho'.1).2.2 k hlt
      generalize l.getD k 0 = x at *
      have hkn : (k : Int) < (n : Int) := by omega
      go_wp2
      go_region_with (fail)
      all_goals
        have hb2 := hbw.drew
        go_wp2
        go_roundw
        case rel => exact ⟨k + 1, by omega, by go_num, hb2⟩
        case measure => simp [intOf]; omega
    · go_wp2
      go_ret
      exact ⟨rfl, hbw⟩

theorem eqIntS_rows (lo hi lo' hi' : Nat) (a a' : Option Addr) (n cap cap' : Nat) (l : List Int) (w : World) (hn : n ≤ 1048576) (hr : IntIn w lo hi a n l) (hr' : IntIn w lo' hi' a' n l) :
    Calls Try.prog 55 #[.slice a n cap, .slice a' n cap'] w fun e w' => e = .returned (.bool true) ∧ Below w.heap.size w w' := by
  obtain ⟨hl, rfl | ⟨b, rfl, _, _, ho⟩⟩ := hr
  · exact eqIntS_none _ _ _ _ w
  · obtain ⟨_, rfl | ⟨b', rfl, _, _, ho'⟩⟩ := hr'
    · exact eqIntS_none _ _ _ _ w
    · exact eqIntS_some b b' n cap cap' l w hn ho ho'

set_option maxHeartbeats 400000 in
theorem markIntS_some (b n cap : Nat) (k : Int) (l : List Int) (w : World) (hn : n ≤ 8388608) (h0 : 0 ≤ k) (h1 : k ≤ 67108864) (ho : OwnI w b n l 0) :
    Calls Try.prog 56 #[.slice (some ⟨b, 0, none⟩) n cap, .int .i64 k] w fun e w' => e = .returned (.int .i64 (k + 1 * n)) ∧ OwnI w' b n (imarks k n) n ∧ Kept b w w' := by
  go_enter Try.func56, Try.ntmps56
  go_wp2
  go_loopw [1, 5] (fun q i wr => ∃ j : Nat, j ≤ n ∧ i = .int .i64 j ∧ q = .int .i64 (k + j) ∧ OwnI wr b n (imarks k n) j ∧ Kept b w wr) (fun _ i _ => n - (intOf i).toNat)
  case atStart => exact ⟨0, Nat.zero_le _, rfl, by simp, ho.zero, Kept.refl _ _⟩
  case round =>
    obtain ⟨j, hj, rfl, rfl, hw, hkp⟩ := hrel
    by_cases hlt : j < n
    · obtain ⟨v0, hv0⟩ := (hw.2.1 j hlt).1
      have hf0 := (hw.2.1 j hlt).2
      have hst := hw.step hlt
      rw [imarks_at k n hlt] at hst
      have hk2 := hkp.set j (.int .i64 (k + j))
      clear hw hkp
      go_wp2
      go_roundw
      case rel => exact ⟨j + 1, by omega, by go_num, by go_num, hst, hk2⟩
      case measure => simp [intOf]; omega
    · obtain rfl : j = n := by omega
      go_wp2
      go_ret
      exact ⟨ret_int (by omega), hw, hkp⟩

set_option maxHeartbeats 400000 in
theorem markIntS_none (a : Option Addr) (cap : Nat) (k : Int) (w : World) : Calls Try.prog 56 #[.slice a 0 cap, .int .i64 k] w fun e w' => e = .returned (.int .i64 k) ∧ w' = w := by
  go_enter Try.func56, Try.ntmps56
  go_wp2
  go_loop [1, 5] (fun q i => i = .int .i64 0 ∧ q = .int .i64 k) (fun _ _ => 0)
  case atStart => exact ⟨rfl, rfl⟩
  case round =>
    obtain ⟨rfl, rfl⟩ := hrel
    go_wp2
    go_ret
    exact ⟨rfl, rfl⟩

theorem markIntS_any (lo hi : Nat) (a : Option Addr) (n cap : Nat) (k : Int) (l : List Int) (w : World) (hn : n ≤ 8388608) (h0 : 0 ≤ k) (h1 : k ≤ 67108864) (hr : IntIn w lo hi a n l) :
    Calls Try.prog 56 #[.slice a n cap, .int .i64 k] w fun e w' => e = .returned (.int .i64 (k + 1 * n)) ∧ IntIn w' lo hi a n (imarks k n) ∧ Out lo hi w w' := by
  obtain ⟨hl, rfl | ⟨b, rfl, h2, h3, ho⟩⟩ := hr
  · exact (markIntS_none a cap k w).mono fun e w' ⟨he, hw⟩ => ⟨by rw [he]; simp, hw ▸ ⟨by simp [imarks], .inl rfl⟩, hw ▸ Out.refl _ _ _⟩
  · exact (markIntS_some b n cap k l w hn h0 h1 ho.zero).mono fun e w' ⟨he, h4, h5⟩ => ⟨he, ⟨imarks_length k n, .inr ⟨b, rfl, h2, h3, h4⟩⟩, h5.out h2 h3⟩

set_option maxHeartbeats 400000 in
theorem heldIntS_some (b n cap : Nat) (k : Int) (w : World) (hn : n ≤ 8388608) (h0 : 0 ≤ k) (h1 : k ≤ 67108864) (ho : OwnI w b n (imarks k n) n) :
    Calls Try.prog 57 #[.slice (some ⟨b, 0, none⟩) n cap, .int .i64 k] w fun e w' => e = .returned (.int .i64 (k + 1 * n)) ∧ w' = w := by
  go_enter Try.func57, Try.ntmps57
  go_wp2
  go_loop [1, 5] (fun q i => ∃ j : Nat, j ≤ n ∧ i = .int .i64 j ∧ q = .int .i64 (k + j)) (fun _ i => n - (intOf i).toNat)
  case atStart => exact ⟨0, Nat.zero_le _, rfl, by simp⟩
  case round =>
    obtain ⟨j, hj, rfl, rfl⟩ := hrel
    by_cases hlt : j < n
    · have hx := ho.2.2 j hlt
      rw [imarks_at k n hlt] at hx
      go_wp2
      go_round
      case rel => exact ⟨j + 1, by omega, by go_num, by go_num⟩
      case measure => simp [intOf]; omega
    · obtain rfl : j = n := by omega
      go_wp2
      go_ret
      exact ⟨ret_int (by omega), rfl⟩

set_option maxHeartbeats 400000 in
theorem heldIntS_none (a : Option Addr) (cap : Nat) (k : Int) (w : World) : Calls Try.prog 57 #[.slice a 0 cap, .int .i64 k] w fun e w' => e = .returned (.int .i64 k) ∧ w' = w := by
  go_enter Try.func57, Try.ntmps57
  go_wp2
  go_loop [1, 5] (fun q i => i = .int .i64 0 ∧ q = .int .i64 k) (fun _ _ => 0)
  case atStart => exact ⟨rfl, rfl⟩
  case round =>
    obtain ⟨rfl, rfl⟩ := hrel
    go_wp2
    go_ret
    exact ⟨rfl, rfl⟩

theorem heldIntS_any (lo hi : Nat) (a : Option Addr) (n cap : Nat) (k : Int) (w : World) (hn : n ≤ 8388608) (h0 : 0 ≤ k) (h1 : k ≤ 67108864) (hr : IntIn w lo hi a n (imarks k n)) :
    Calls Try.prog 57 #[.slice a n cap, .int .i64 k] w fun e w' => e = .returned (.int .i64 (k + 1 * n)) ∧ w' = w := by
  obtain ⟨hl, rfl | ⟨b, rfl, h2, h3, ho⟩⟩ := hr
  · exact (heldIntS_none a cap k w).mono fun e w' ⟨he, hw⟩ => ⟨by rw [he]; simp, hw⟩
  · exact heldIntS_some b n cap k w hn h0 h1 ho

end Go.Proofs.Ytldhbooginlcpaa
