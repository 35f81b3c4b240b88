/-
  The contracts of laws.eqByteS, laws.markByteS and laws.heldByteS over rows of bytes of the call's own.
-/
import Derived.Test.YtccldjodijdciaaDoorChecked
import Derived.Test.YtccldjodijdciaaDoorDBase
import Derived.Deep.RegionWith
import Derived.Outline
namespace Go.Proofs.YtccldjodijdciaaDoor
open Go.RowKit

set_option maxHeartbeats 400000 in
theorem eqByteS_none (a a' : Option Addr) (cap cap' : Nat) (w : World) : Calls Tryd.prog 8 #[.slice a 0 cap, .slice a' 0 cap'] w fun e w' => e = .returned (.bool true) ∧ Below w.heap.size w w' := by
  go_enter Tryd.func8, Tryd.ntmps8
  go_wp2
  go_loopw [5] (fun i wr => i = .int .i64 0 ∧ Below w.heap.size w wr) (fun _ _ => 0)
  case atStart => exact ⟨rfl, Below.refl _ _⟩
  case round =>
    obtain ⟨rfl, hbw⟩ := hrel
    go_wp2
    go_ret
    exact ⟨rfl, hbw⟩

set_option maxHeartbeats 400000 in
theorem eqByteS_some (b b' n cap cap' : Nat) (l : List Int) (w : World) (hn : n ≤ 1048576) (ho : OwnY w b n l n) (ho' : OwnY w b' n l n) :
    Calls Tryd.prog 8 #[.slice (some ⟨b, 0, none⟩) n cap, .slice (some ⟨b', 0, none⟩) n cap'] w fun e w' => e = .returned (.bool true) ∧ Below w.heap.size w w' := by
  go_enter Tryd.func8, Tryd.ntmps8
  go_wp2
  go_loopw [5] (fun i wr => ∃ k : Nat, k ≤ n ∧ i = .int .i64 k ∧ Below w.heap.size w wr) (fun i _ => n - (intOf i).toNat)
  case atStart => exact ⟨0, Nat.zero_le _, rfl, Below.refl _ _⟩
  case round =>
    obtain ⟨k, hk, rfl, hbw⟩ := hrel
    by_cases hlt : k < n
    · have hx := (ho.below hbw ho.1).2.2 k hlt
      have hy := (ho'.below hbw ho'.1).2.2 k hlt
      generalize l.getD k 0 = x at *
      have hkn : (k : Int) < (n : Int) := by omega
      go_wp2
      go_region_with (fail)
      all_goals
        have hb2 := hbw.drew
        go_wp2
        go_roundw
        case rel => exact ⟨k + 1, by omega, by go_num, hb2⟩
        case measure => simp [intOf]; omega
    · go_wp2
      go_ret
      exact ⟨rfl, hbw⟩

theorem eqByteS_rows (lo hi lo' hi' : Nat) (a a' : Option Addr) (n cap cap' : Nat) (l : List Int) (w : World) (hn : n ≤ 1048576) (hr : ByteIn w lo hi a n l) (hr' : ByteIn w lo' hi' a' n l) :
    Calls Tryd.prog 8 #[.slice a n cap, .slice a' n cap'] w fun e w' => e = .returned (.bool true) ∧ Below w.heap.size w w' := by
  obtain ⟨hl, rfl | ⟨b, rfl, _, _, ho⟩⟩ := hr
  · exact eqByteS_none _ _ _ _ w
  · obtain ⟨_, rfl | ⟨b', rfl, _, _, ho'⟩⟩ := hr'
    · exact eqByteS_none _ _ _ _ w
    · exact eqByteS_some b b' n cap cap' l w hn ho ho'

set_option maxHeartbeats 400000 in
theorem markByteS_some (b n cap : Nat) (k : Int) (l : List Int) (w : World) (h0 : 0 ≤ k) (h1 : k + n ≤ 256) (ho : OwnY w b n l 0) :
    Calls Tryd.prog 9 #[.slice (some ⟨b, 0, none⟩) n cap, .int .i64 k] w fun e w' => e = .returned (.int .i64 (k + 1 * n)) ∧ OwnY w' b n (imarks k n) n ∧ Kept b w w' := by
  go_enter Tryd.func9, Tryd.ntmps9
  go_wp2
  go_loopw [1, 5] (fun q i wr => ∃ j : Nat, j ≤ n ∧ i = .int .i64 j ∧ q = .int .i64 (k + j) ∧ OwnY wr b n (imarks k n) j ∧ Kept b w wr) (fun _ i _ => n - (intOf i).toNat)
  case atStart => exact ⟨0, Nat.zero_le _, rfl, by simp, ho.zero, Kept.refl _ _⟩
  case round =>
    obtain ⟨j, hj, rfl, rfl, hw, hkp⟩ := hrel
    by_cases hlt : j < n
    · obtain ⟨v0, hv0⟩ := (hw.2.1 j hlt).1
      have hf0 := (hw.2.1 j hlt).2
      have hst := hw.step hlt
      rw [imarks_at k n hlt] at hst
      have hk2 := hkp.set j (.int .u8 (k + j))
      clear hw hkp
      go_wp2
      go_roundw
      case rel => exact ⟨j + 1, by omega, by go_num, by go_num, hst, hk2⟩
      case measure => simp [intOf]; omega
    · obtain rfl : j = n := by omega
      go_wp2
      go_ret
      exact ⟨ret_int (by omega), hw, hkp⟩

set_option maxHeartbeats 400000 in
theorem markByteS_none (a : Option Addr) (cap : Nat) (k : Int) (w : World) : Calls Tryd.prog 9 #[.slice a 0 cap, .int .i64 k] w fun e w' => e = .returned (.int .i64 k) ∧ w' = w := by
  go_enter Tryd.func9, Tryd.ntmps9
  go_wp2
  go_loop [1, 5] (fun q i => i = .int .i64 0 ∧ q = .int .i64 k) (fun _ _ => 0)
  case atStart => exact ⟨rfl, rfl⟩
  case round =>
    obtain ⟨rfl, rfl⟩ := hrel
    go_wp2
    go_ret
    exact ⟨rfl, rfl⟩

theorem markByteS_any (lo hi : Nat) (a : Option Addr) (n cap : Nat) (k : Int) (l : List Int) (w : World) (h0 : 0 ≤ k) (h1 : k + n ≤ 256) (hr : ByteIn w lo hi a n l) :
    Calls Tryd.prog 9 #[.slice a n cap, .int .i64 k] w fun e w' => e = .returned (.int .i64 (k + 1 * n)) ∧ ByteIn w' lo hi a n (imarks k n) ∧ Out lo hi w w' := by
  obtain ⟨hl, rfl | ⟨b, rfl, h2, h3, ho⟩⟩ := hr
  · exact (markByteS_none a cap k w).mono fun e w' ⟨he, hw⟩ => ⟨by rw [he]; simp, hw ▸ ⟨by simp [imarks], .inl rfl⟩, hw ▸ Out.refl _ _ _⟩
  · exact (markByteS_some b n cap k l w h0 h1 ho.zero).mono fun e w' ⟨he, h4, h5⟩ => ⟨he, ⟨imarks_length k n, .inr ⟨b, rfl, h2, h3, h4⟩⟩, h5.out h2 h3⟩

set_option maxHeartbeats 400000 in
theorem heldByteS_some (b n cap : Nat) (k : Int) (w : World) (h0 : 0 ≤ k) (h1 : k + n ≤ 256) (ho : OwnY w b n (imarks k n) n) :
    Calls Tryd.prog 10 #[.slice (some ⟨b, 0, none⟩) n cap, .int .i64 k] w fun e w' => e = .returned (.int .i64 (k + 1 * n)) ∧ w' = w := by
  go_enter Tryd.func10, Tryd.ntmps10
  go_wp2
  go_loop [1, 5] (fun q i => ∃ j : Nat, j ≤ n ∧ i = .int .i64 j ∧ q = .int .i64 (k + j)) (fun _ i => n - (intOf i).toNat)
  case atStart => exact ⟨0, Nat.zero_le _, rfl, by simp⟩
  case round =>
    obtain ⟨j, hj, rfl, rfl⟩ := hrel
    by_cases hlt : j < n
    · have hx := ho.2.2 j hlt
      rw [imarks_at k n hlt] at hx
      go_wp2
      go_round
      case rel => exact ⟨j + 1, by omega, by go_num, by go_num⟩
      case measure => simp [intOf]; omega
    · obtain rfl : j = n := by omega
      go_wp2
      go_ret
      exact ⟨ret_int (by omega), rfl⟩

set_option maxHeartbeats 400000 in
theorem heldByteS_none (a : Option Addr) (cap : Nat) (k : Int) (w : World) : Calls Tryd.prog 10 #[.slice a 0 cap, .int .i64 k] w fun e w' => e = .returned (.int .i64 k) ∧ w' = w := by
  go_enter Tryd.func10, Tryd.ntmps10
  go_wp2
  go_loop [1, 5] (fun q i => i = .int .i64 0 ∧ q = .int .i64 k) (fun _ _ => 0)
  case atStart => exact ⟨rfl, rfl⟩
  case round =>
    obtain ⟨rfl, rfl⟩ := hrel
    go_wp2
    go_ret
    exact ⟨rfl, rfl⟩

theorem heldByteS_any (lo hi : Nat) (a : Option Addr) (n cap : Nat) (k : Int) (w : World) (h0 : 0 ≤ k) (h1 : k + n ≤ 256) (hr : ByteIn w lo hi a n (imarks k n)) :
    Calls Tryd.prog 10 #[.slice a n cap, .int .i64 k] w fun e w' => e = .returned (.int .i64 (k + 1 * n)) ∧ w' = w := by
  obtain ⟨hl, rfl | ⟨b, rfl, h2, h3, ho⟩⟩ := hr
  · exact (heldByteS_none a cap k w).mono fun e w' ⟨he, hw⟩ => ⟨by rw [he]; simp, hw⟩
  · exact heldByteS_some b n cap k w h0 h1 ho

end Go.Proofs.YtccldjodijdciaaDoor
