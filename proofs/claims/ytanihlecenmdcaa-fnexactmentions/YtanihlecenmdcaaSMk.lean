/-
  The contracts of laws.eqIntS, markIntS, heldIntS, eqState, markState and heldState.
-/
import Derived.Test.YtanihlecenmdcaaSLaw
namespace Go.Proofs.Ytanihlecenmdcaa.S
open Go.RowKit

set_option maxHeartbeats 400000 in
theorem eqIntS_none (a a' : Option Addr) (cap cap' : Nat) (w : World) : Calls Try.prog 25 #[.slice a 0 cap, .slice a' 0 cap'] w fun e w' => e = .returned (.bool true) ∧ Below w.heap.size w w' := by
  go_enter Try.func25, Try.ntmps25
  go_wp2
  go_loopw [5] (fun i wr => i = .int .i64 0 ∧ Below w.heap.size w wr) (fun _ _ => 0)
  case atStart => exact ⟨rfl, Below.refl _ _⟩
  case round =>
    obtain ⟨rfl, hbw⟩ := hrel
    go_wp2
    go_ret
    exact ⟨rfl, hbw⟩

set_option maxHeartbeats 400000 in
theorem eqIntS_some (b b' n cap cap' : Nat) (l : List Int) (w : World) (hn : n ≤ 1048576) (ho : OwnI w b n l n) (ho' : OwnI w b' n l n) :
    Calls Try.prog 25 #[.slice (some ⟨b, 0, none⟩) n cap, .slice (some ⟨b', 0, none⟩) n cap'] w fun e w' => e = .returned (.bool true) ∧ Below w.heap.size w w' := by
  go_enter Try.func25, Try.ntmps25
  go_wp2
  go_loopw [5] (fun i wr => ∃ k : Nat, k ≤ n ∧ i = .int .i64 k ∧ Below w.heap.size w wr) (fun i _ => n - (intOf i).toNat)
  case atStart => exact ⟨0, Nat.zero_le _, rfl, Below.refl _ _⟩
  case round =>
    obtain ⟨k, hk, rfl, hbw⟩ := hrel
    by_cases hlt : k < n
    · have hx := (ho.below hbw ho.1).2.2 k hlt
      have hy := (ho'.below hbw ho'.1).2.2 k hlt
      generalize l.getD k 0 = x at *
      have hkn : (k : Int) < (n : Int) := by omega
      go_wp2
      go_region_with (fail)
      all_goals
        have hb2 := hbw.drew
        go_wp2
        go_roundw
        case rel => exact ⟨k + 1, by omega, by go_num, hb2⟩
        case measure => simp [intOf]; omega
    · go_wp2
      go_ret
      exact ⟨rfl, hbw⟩

theorem eqIntS_rows (lo hi lo' hi' : Nat) (a a' : Option Addr) (n cap cap' : Nat) (l : List Int) (w : World) (hn : n ≤ 1048576) (hr : IntIn w lo hi a n l) (hr' : IntIn w lo' hi' a' n l) :
    Calls Try.prog 25 #[.slice a n cap, .slice a' n cap'] w fun e w' => e = .returned (.bool true) ∧ Below w.heap.size w w' := by
  obtain ⟨hl, rfl | ⟨b, rfl, _, _, ho⟩⟩ := hr
  · exact eqIntS_none _ _ _ _ w
  · obtain ⟨_, rfl | ⟨b', rfl, _, _, ho'⟩⟩ := hr'
    · exact eqIntS_none _ _ _ _ w
    · exact eqIntS_some b b' n cap cap' l w hn ho ho'

set_option maxHeartbeats 400000 in
theorem markIntS_some (b n cap : Nat) (k : Int) (l : List Int) (w : World) (hn : n ≤ 8388608) (h0 : 0 ≤ k) (h1 : k ≤ 67108864) (ho : OwnI w b n l 0) :
    Calls Try.prog 28 #[.slice (some ⟨b, 0, none⟩) n cap, .int .i64 k] w fun e w' => e = .returned (.int .i64 (k + 1 * n)) ∧ OwnI w' b n (imarks k n) n ∧ Out b (b + 1) w w' := by
  go_enter Try.func28, Try.ntmps28
  go_wp2
  go_loopw [1, 5] (fun q i wr => ∃ j : Nat, j ≤ n ∧ i = .int .i64 j ∧ q = .int .i64 (k + j) ∧ OwnI wr b n (imarks k n) j ∧ Out b (b + 1) w wr) (fun _ i _ => n - (intOf i).toNat)
  case atStart => exact ⟨0, Nat.zero_le _, rfl, by simp, ho.zero, Out.refl _ _ _⟩
  case round =>
    obtain ⟨j, hj, rfl, rfl, hw, hkp⟩ := hrel
    by_cases hlt : j < n
    · obtain ⟨v0, hv0⟩ := (hw.2.1 j hlt).1
      have hf0 := (hw.2.1 j hlt).2
      have hst := hw.step hlt
      rw [imarks_at k n hlt] at hst
      have hk2 := hkp.trans (Out.set b j _ (.int .i64 (k + j)))
      clear hw hkp
      go_wp2
      go_roundw
      case rel => exact ⟨j + 1, by omega, by go_num, by go_num, hst, hk2⟩
      case measure => simp [intOf]; omega
    · obtain rfl : j = n := by omega
      go_wp2
      go_ret
      exact ⟨ret_int (by omega), hw, hkp⟩

set_option maxHeartbeats 400000 in
theorem markIntS_none (a : Option Addr) (cap : Nat) (k : Int) (w : World) : Calls Try.prog 28 #[.slice a 0 cap, .int .i64 k] w fun e w' => e = .returned (.int .i64 k) ∧ w' = w := by
  go_enter Try.func28, Try.ntmps28
  go_wp2
  go_loop [1, 5] (fun q i => i = .int .i64 0 ∧ q = .int .i64 k) (fun _ _ => 0)
  case atStart => exact ⟨rfl, rfl⟩
  case round =>
    obtain ⟨rfl, rfl⟩ := hrel
    go_wp2
    go_ret
    exact ⟨rfl, rfl⟩

theorem markIntS_any (lo hi : Nat) (a : Option Addr) (n cap : Nat) (k : Int) (l : List Int) (w : World) (hn : n ≤ 8388608) (h0 : 0 ≤ k) (h1 : k ≤ 67108864) (hr : IntIn w lo hi a n l) :
    Calls Try.prog 28 #[.slice a n cap, .int .i64 k] w fun e w' => e = .returned (.int .i64 (k + 1 * n)) ∧ IntIn w' lo hi a n (imarks k n) ∧ Out lo hi w w' := by
  obtain ⟨hl, rfl | ⟨b, rfl, h2, h3, ho⟩⟩ := hr
  · exact (markIntS_none a cap k w).mono fun e w' ⟨he, hw⟩ => ⟨by rw [he]; simp, hw ▸ ⟨by simp [imarks], .inl rfl⟩, hw ▸ Out.refl _ _ _⟩
  · exact (markIntS_some b n cap k l w hn h0 h1 ho.zero).mono fun e w' ⟨he, h4, h5⟩ => ⟨he, ⟨imarks_length k n, .inr ⟨b, rfl, h2, h3, h4⟩⟩, h5.mono h2 h3⟩

set_option maxHeartbeats 400000 in
theorem heldIntS_some (b n cap : Nat) (k : Int) (w : World) (hn : n ≤ 8388608) (h0 : 0 ≤ k) (h1 : k ≤ 67108864) (ho : OwnI w b n (imarks k n) n) :
    Calls Try.prog 29 #[.slice (some ⟨b, 0, none⟩) n cap, .int .i64 k] w fun e w' => e = .returned (.int .i64 (k + 1 * n)) ∧ w' = w := by
  go_enter Try.func29, Try.ntmps29
  go_wp2
  go_loop [1, 5] (fun q i => ∃ j : Nat, j ≤ n ∧ i = .int .i64 j ∧ q = .int .i64 (k + j)) (fun _ i => n - (intOf i).toNat)
  case atStart => exact ⟨0, Nat.zero_le _, rfl, by simp⟩
  case round =>
    obtain ⟨j, hj, rfl, rfl⟩ := hrel
    by_cases hlt : j < n
    · have hx := ho.2.2 j hlt
      rw [imarks_at k n hlt] at hx
      go_wp2
      go_round
      case rel => exact ⟨j + 1, by omega, by go_num, by go_num⟩
      case measure => simp [intOf]; omega
    · obtain rfl : j = n := by omega
      go_wp2
      go_ret
      exact ⟨ret_int (by omega), rfl⟩

set_option maxHeartbeats 400000 in
theorem heldIntS_none (a : Option Addr) (cap : Nat) (k : Int) (w : World) : Calls Try.prog 29 #[.slice a 0 cap, .int .i64 k] w fun e w' => e = .returned (.int .i64 k) ∧ w' = w := by
  go_enter Try.func29, Try.ntmps29
  go_wp2
  go_loop [1, 5] (fun q i => i = .int .i64 0 ∧ q = .int .i64 k) (fun _ _ => 0)
  case atStart => exact ⟨rfl, rfl⟩
  case round =>
    obtain ⟨rfl, rfl⟩ := hrel
    go_wp2
    go_ret
    exact ⟨rfl, rfl⟩

theorem heldIntS_any (lo hi : Nat) (a : Option Addr) (n cap : Nat) (k : Int) (w : World) (hn : n ≤ 8388608) (h0 : 0 ≤ k) (h1 : k ≤ 67108864) (hr : IntIn w lo hi a n (imarks k n)) :
    Calls Try.prog 29 #[.slice a n cap, .int .i64 k] w fun e w' => e = .returned (.int .i64 (k + 1 * n)) ∧ w' = w := by
  obtain ⟨hl, rfl | ⟨b, rfl, h2, h3, ho⟩⟩ := hr
  · exact (heldIntS_none a cap k w).mono fun e w' ⟨he, hw⟩ => ⟨by rw [he]; simp, hw⟩
  · exact heldIntS_some b n cap k w hn h0 h1 ho



set_option maxHeartbeats 1000000 in
theorem eqState_rows (p0 q0 p1 q1 r0 s0 r1 s1 : Nat) (a0 a1 d0 d1 : Option Addr) (n0 n1 c0 c1 e0 e1 : Nat) (l0 l1 : List Int) (w : World) (m0 : n0 ≤ 1048576) (m1 : n1 ≤ 1048576)
    (h0 : IntIn w p0 q0 a0 n0 l0) (h1 : IntIn w p1 q1 a1 n1 l1) (k0 : IntIn w r0 s0 d0 n0 l0) (k1 : IntIn w r1 s1 d1 n1 l1)
    (hq0 : q0 ≤ w.heap.size) (hq1 : q1 ≤ w.heap.size) (hs0 : s0 ≤ w.heap.size) (hs1 : s1 ≤ w.heap.size) :
    Calls Try.prog 38 #[.agg #[.slice a0 n0 c0, .slice a1 n1 c1], .agg #[.slice d0 n0 e0, .slice d1 n1 e1]] w fun e w' => e = .returned (.bool true) ∧ Below w.heap.size w w' := by
  have B0 := (Box.new w (.slice a0 n0 c0) (.slice a1 n1 c1) 43).alloc (.cells #[.slice d0 n0 e0, .slice d1 n1 e1] 43)
  have D0 := Box.new (w.alloc (.cells #[.slice a0 n0 c0, .slice a1 n1 c1] 43)) (.slice d0 n0 e0) (.slice d1 n1 e1) 43
  have L0 : Below w.heap.size w ((w.alloc (.cells #[.slice a0 n0 c0, .slice a1 n1 c1] 43)).alloc (.cells #[.slice d0 n0 e0, .slice d1 n1 e1] 43)) :=
    ((Below.refl _ _).alloc (Nat.le_refl _) _).alloc (by simp) _
  rw [World.size_alloc] at D0
  go_enter Try.func38, Try.ntmps38
  go_wp2_with fail
  refine (eqIntS_rows _ _ _ _ _ _ _ _ _ _ _ m0 (by exact h0.below L0 hq0) (by exact k0.below L0 hs0)).mono ?_
  rintro e w1 ⟨rfl, hb⟩
  have B1 := B0.below hb B0.lt; have D1 := D0.below hb D0.lt; have L1 := L0.trans (hb.mono L0.size)
  clear B0 D0 L0 hb
  have x := B1.c1; have y := D1.c1
  go_wp2_with fail
  clear x y
  refine (eqIntS_rows _ _ _ _ _ _ _ _ _ _ _ m1 (by exact h1.below L1 hq1) (by exact k1.below L1 hs1)).mono ?_
  rintro e w2 ⟨rfl, hb⟩
  have L2 := L1.trans (hb.mono L1.size)
  clear B1 D1 L1 hb
  go_wp2
  go_ret
  exact ⟨rfl, L2⟩

set_option maxHeartbeats 1000000 in
theorem markState_any (lo mi hi : Nat) (a0 a1 : Option Addr) (n0 n1 c0 c1 : Nat) (l0 l1 : List Int) (k : Int) (w : World) (m0 : n0 ≤ 2097152) (m1 : n1 ≤ 2097152) (hk0 : 0 ≤ k) (hk1 : k ≤ 4194304)
    (q0 : lo ≤ mi) (q1 : mi ≤ hi) (hs : hi ≤ w.heap.size) (r0 : IntIn w lo mi a0 n0 l0) (r1 : IntIn w mi hi a1 n1 l1) :
    Calls Try.prog 41 #[.agg #[.slice a0 n0 c0, .slice a1 n1 c1], .int .i64 k] w fun e w' => e = .returned (.int .i64 (k + n0 + n1)) ∧
      IntIn w' lo mi a0 n0 (imarks k n0) ∧ IntIn w' mi hi a1 n1 (imarks (k + n0) n1) ∧ Out lo hi w w' := by
  have B0 := Box.new w (.slice a0 n0 c0) (.slice a1 n1 c1) 43
  have L : Below w.heap.size w (w.alloc (.cells #[.slice a0 n0 c0, .slice a1 n1 c1] 43)) := (Below.refl _ _).alloc (Nat.le_refl _) _
  have O0 : Out lo hi w (w.alloc (.cells #[.slice a0 n0 c0, .slice a1 n1 c1] 43)) := Out.ofBelow L
  replace r0 := r0.below L (by omega); replace r1 := r1.below L (by omega)
  clear L
  go_enter Try.func41, Try.ntmps41
  go_wp2_with fail
  refine (markIntS_any lo mi _ _ _ _ _ _ (by omega) (by omega) (by omega) (by exact r0)).mono ?_
  rintro e w1 ⟨rfl, t0, ho⟩
  have B1 := B0.out ho (by omega)
  have O1 := O0.trans (ho.mono (by omega) (by omega))
  replace r1 := r1.out ho (by omega)
  clear ho B0 O0 r0
  have x := B1.c1
  go_wp2_with fail
  clear x
  refine (markIntS_any mi hi _ _ _ _ _ _ (by omega) (by omega) (by omega) (by exact r1)).mono ?_
  rintro e w2 ⟨rfl, t1, ho⟩
  have O2 := O1.trans (ho.mono (by omega) (by omega))
  replace t0 := t0.out ho (by omega)
  clear ho B1 O1 r1
  go_wp2
  go_ret
  exact ⟨rfl, t0, t1, O2⟩

set_option maxHeartbeats 1000000 in
theorem heldState_any (lo mi hi : Nat) (a0 a1 : Option Addr) (n0 n1 c0 c1 : Nat) (k : Int) (w : World) (m0 : n0 ≤ 2097152) (m1 : n1 ≤ 2097152) (hk0 : 0 ≤ k) (hk1 : k ≤ 4194304)
    (_q0 : lo ≤ mi) (q1 : mi ≤ hi) (hs : hi ≤ w.heap.size) (r0 : IntIn w lo mi a0 n0 (imarks k n0)) (r1 : IntIn w mi hi a1 n1 (imarks (k + n0) n1)) :
    Calls Try.prog 62 #[.agg #[.slice a0 n0 c0, .slice a1 n1 c1], .int .i64 k] w fun e w' => e = .returned (.int .i64 (k + n0 + n1)) ∧ Below w.heap.size w w' := by
  have L : Below w.heap.size w (w.alloc (.cells #[.slice a0 n0 c0, .slice a1 n1 c1] 43)) := (Below.refl _ _).alloc (Nat.le_refl _) _
  replace r0 := r0.below L (by omega); replace r1 := r1.below L (by omega)
  go_enter Try.func62, Try.ntmps62
  go_wp2_with fail
  refine (heldIntS_any lo mi _ _ _ _ _ (by omega) (by omega) (by omega) (by exact r0)).mono ?_
  rintro e w1 ⟨rfl, rfl⟩
  have x : ¬ (k + (n0 : Int) < 0) := by omega
  go_wp2_with fail
  refine (heldIntS_any mi hi _ _ _ _ _ (by omega) (by omega) (by omega) (by exact r1)).mono ?_
  rintro e w1 ⟨rfl, rfl⟩
  have x : ¬ (k + (n0 : Int) + (n1 : Int) < 0) := by omega
  go_wp2
  go_ret
  exact ⟨rfl, L⟩

end Go.Proofs.Ytanihlecenmdcaa.S
