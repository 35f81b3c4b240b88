/-
  The contracts of laws.eqPair, laws.eqPairS and laws.eqAsn where both arguments read alike: they return true and write nothing that was there.
-/
import Derived.Test.YtfplloabkceaoaaChecked
import Derived.Test.YtfplloabkceaoaaBase
import Derived.Outline
import Derived.Deep.RegionWith
namespace Go.Proofs.Ytfplloabkceaoaa
open Go.RowKit

set_option maxHeartbeats 400000 in
theorem eqPair_same (x y : Int) (w : World) :
    Calls Try.prog 145 #[.agg #[.int .i64 x, .int .i64 y], .agg #[.int .i64 x, .int .i64 y]] w fun e w' => e = .returned (.bool true) ∧ Below w.heap.size w w' := by
  go_enter Try.func145, Try.ntmps145
  go_wp2
  go_ret
  exact ⟨rfl, ((Below.refl _ _).alloc (Nat.le_refl _) _).alloc (by simp) _⟩

set_option maxHeartbeats 400000 in
theorem eqPairS_some (b off cap b' off' cap' : Nat) (l : List (Int × Int)) (w : World) (hn : l.length ≤ 1048576) (hb : b < w.heap.size) (hb' : b' < w.heap.size)
    (hc : ∀ i, i < l.length → w.cell? ⟨b, off + i * 2, none⟩ = some (.int .i64 (l.getD i (0, 0)).1) ∧ w.cell? ⟨b, off + i * 2 + 1, none⟩ = some (.int .i64 (l.getD i (0, 0)).2))
    (hc' : ∀ i, i < l.length → w.cell? ⟨b', off' + i * 2, none⟩ = some (.int .i64 (l.getD i (0, 0)).1) ∧ w.cell? ⟨b', off' + i * 2 + 1, none⟩ = some (.int .i64 (l.getD i (0, 0)).2)) :
    Calls Try.prog 52 #[.slice (some ⟨b, off, none⟩) l.length cap, .slice (some ⟨b', off', none⟩) l.length cap'] w fun e w' => e = .returned (.bool true) ∧ Below w.heap.size w w' := by
  generalize hN : l.length = n at *
  clear hN
  go_enter Try.func52, Try.ntmps52
  go_wp2
  go_loopw [5] (fun i wr => ∃ k : Nat, k ≤ n ∧ i = .int .i64 k ∧ Below w.heap.size w wr) (fun i _ => n - (intOf i).toNat)
  case atStart => exact ⟨0, Nat.zero_le _, rfl, Below.refl _ _⟩
  case round =>
    obtain ⟨k, hk, rfl, hbw⟩ := hrel
    by_cases hlt : k < n
    · have hck := hc k hlt
      have hck' := hc' k hlt
      clear hc hc'
      have hx := hbw.cell (p := ⟨b, off + k * 2, none⟩) hb
      have hy := hbw.cell (p := ⟨b, off + k * 2 + 1, none⟩) hb
      have hx' := hbw.cell (p := ⟨b', off' + k * 2, none⟩) hb'
      have hy' := hbw.cell (p := ⟨b', off' + k * 2 + 1, none⟩) hb'
      rw [hck.1] at hx
      rw [hck.2] at hy
      rw [hck'.1] at hx'
      rw [hck'.2] at hy'
      clear hck hck'
      have hkn : (k : Int) < (n : Int) := by omega
      go_wp2
      go_region_with (go_at_call 145; refine (eqPair_same _ _ _).mono ?_; rintro e w1 ⟨rfl, hb1⟩)
      all_goals
        have hb2 : Below w.heap.size w w1 := hbw.drew.trans (hb1.mono (by simpa using hbw.size))
        clear hx hy hx' hy' hb1
        go_wp2
        go_roundw
        case rel => exact ⟨k + 1, by omega, by go_num, hb2⟩
        case measure => simp [intOf]; omega
    · go_wp2
      go_ret
      exact ⟨rfl, hbw⟩

set_option maxHeartbeats 400000 in
theorem eqPairS_none (a a' : Option Addr) (cap cap' : Nat) (w : World) :
    Calls Try.prog 52 #[.slice a 0 cap, .slice a' 0 cap'] w fun e w' => e = .returned (.bool true) ∧ Below w.heap.size w w' := by
  go_enter Try.func52, Try.ntmps52
  go_wp2
  go_loopw [5] (fun i wr => i = .int .i64 0 ∧ Below w.heap.size w wr) (fun _ _ => 0)
  case atStart => exact ⟨rfl, Below.refl _ _⟩
  case round =>
    obtain ⟨rfl, hbw⟩ := hrel
    go_wp2
    go_ret
    exact ⟨rfl, hbw⟩

theorem eqPairS_same (a a' : Option Addr) (cap cap' : Nat) (l : List (Int × Int)) (w : World) (hn : l.length ≤ 1048576) (hr : PRow w a l) (hr' : PRow w a' l) :
    Calls Try.prog 52 #[.slice a l.length cap, .slice a' l.length cap'] w fun e w' => e = .returned (.bool true) ∧ Below w.heap.size w w' := by
  rcases hr with rfl | ⟨b, off, rfl, hb, hc⟩
  · exact eqPairS_none _ _ _ _ w
  · rcases hr' with rfl | ⟨b', off', rfl, hb', hc'⟩
    · exact eqPairS_none _ _ _ _ w
    · exact eqPairS_some b off cap b' off' cap' l w hn hb hb' hc hc'

set_option maxHeartbeats 1000000 in
theorem eqAsn_same (a0 a1 a2 a3 d0 d1 d2 d3 : Option Addr) (c0 c1 c2 c3 e0 e1 e2 e3 : Nat) (l0 l1 l2 l3 : List (Int × Int)) (w : World)
    (n0 : l0.length ≤ 1048576) (n1 : l1.length ≤ 1048576) (n2 : l2.length ≤ 1048576) (n3 : l3.length ≤ 1048576)
    (r0 : PRow w a0 l0) (r1 : PRow w a1 l1) (r2 : PRow w a2 l2) (r3 : PRow w a3 l3) (s0 : PRow w d0 l0) (s1 : PRow w d1 l1) (s2 : PRow w d2 l2) (s3 : PRow w d3 l3) :
    Calls Try.prog 43 #[.agg #[.slice a0 l0.length c0, .slice a1 l1.length c1, .slice a2 l2.length c2, .slice a3 l3.length c3], .agg #[.slice d0 l0.length e0, .slice d1 l1.length e1, .slice d2 l2.length e2, .slice d3 l3.length e3]] w fun e w' =>
      e = .returned (.bool true) ∧ Below w.heap.size w w' := by
  have B0 := (Box.new w (.slice a0 l0.length c0) (.slice a1 l1.length c1) (.slice a2 l2.length c2) (.slice a3 l3.length c3) 28).alloc (.cells #[.slice d0 l0.length e0, .slice d1 l1.length e1, .slice d2 l2.length e2, .slice d3 l3.length e3] 28)
  have D0 := Box.new (w.alloc (.cells #[.slice a0 l0.length c0, .slice a1 l1.length c1, .slice a2 l2.length c2, .slice a3 l3.length c3] 28)) (.slice d0 l0.length e0) (.slice d1 l1.length e1) (.slice d2 l2.length e2) (.slice d3 l3.length e3) 28
  have L0 : Below w.heap.size w ((w.alloc (.cells #[.slice a0 l0.length c0, .slice a1 l1.length c1, .slice a2 l2.length c2, .slice a3 l3.length c3] 28)).alloc (.cells #[.slice d0 l0.length e0, .slice d1 l1.length e1, .slice d2 l2.length e2, .slice d3 l3.length e3] 28)) :=
    ((Below.refl _ _).alloc (Nat.le_refl _) _).alloc (by simp) _
  rw [World.size_alloc] at D0
  go_enter Try.func43, Try.ntmps43
  go_wp2_with fail
  refine (eqPairS_same _ _ _ _ _ _ n0 (by exact r0.below L0 (Nat.le_refl _)) (by exact s0.below L0 (Nat.le_refl _))).mono ?_
  rintro e w1 ⟨rfl, hb⟩
  have B1 := B0.below hb B0.lt; have D1 := D0.below hb D0.lt; have L1 := L0.trans (hb.mono L0.size)
  clear B0 D0 L0 hb
  have x := B1.c1; have y := D1.c1
  go_wp2_with fail
  clear x y
  refine (eqPairS_same _ _ _ _ _ _ n1 (by exact r1.below L1 (Nat.le_refl _)) (by exact s1.below L1 (Nat.le_refl _))).mono ?_
  rintro e w2 ⟨rfl, hb⟩
  have B2 := B1.below hb B1.lt; have D2 := D1.below hb D1.lt; have L2 := L1.trans (hb.mono L1.size)
  clear B1 D1 L1 hb
  have x := B2.c2; have y := D2.c2
  go_wp2_with fail
  clear x y
  refine (eqPairS_same _ _ _ _ _ _ n2 (by exact r2.below L2 (Nat.le_refl _)) (by exact s2.below L2 (Nat.le_refl _))).mono ?_
  rintro e w3 ⟨rfl, hb⟩
  have B3 := B2.below hb B2.lt; have D3 := D2.below hb D2.lt; have L3 := L2.trans (hb.mono L2.size)
  clear B2 D2 L2 hb
  have x := B3.c3; have y := D3.c3
  go_wp2_with fail
  clear x y
  refine (eqPairS_same _ _ _ _ _ _ n3 (by exact r3.below L3 (Nat.le_refl _)) (by exact s3.below L3 (Nat.le_refl _))).mono ?_
  rintro e w4 ⟨rfl, hb⟩
  have L4 := L3.trans (hb.mono L3.size)
  clear B3 D3 L3 hb
  go_wp2
  go_ret
  exact ⟨rfl, L4⟩

end Go.Proofs.Ytfplloabkceaoaa
