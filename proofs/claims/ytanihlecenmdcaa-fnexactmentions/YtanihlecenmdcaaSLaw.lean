/-
  The contracts of the helpers of package laws on integers and states: szIntS, szState, toIntS, toState, eqIntS, eqState, markIntS, heldIntS, markState, heldState.
-/
import Derived.Test.YtanihlecenmdcaaChecked
import Derived.Test.YtanihlecenmdcaaSBase
import Derived.Outline
import Derived.Deep.RegionWith
namespace Go.Proofs.Ytanihlecenmdcaa.S
open Go.RowKit

def szI (n left : Int) : Int := if left - n < 0 then -1 else left - n

set_option maxHeartbeats 400000 in
theorem szIntS_any (a : Option Addr) (n cap : Nat) (left : Int) (w : World) (hn : n ≤ maxLen) (h0 : 0 ≤ left) (h1 : left ≤ 1048576) :
    Calls Try.prog 87 #[.slice a n cap, .int .i64 left] w fun e w' => e = .returned (.int .i64 (szI n left)) ∧ w' = w := by
  unfold maxLen at hn
  by_cases h : left - n < 0
  · go_enter Try.func87, Try.ntmps87
    go_wp2
    go_ret
    exact ⟨ret_int (by unfold szI; rw [if_pos h]), rfl⟩
  · go_enter Try.func87, Try.ntmps87
    go_wp2
    go_ret
    exact ⟨ret_int (by unfold szI; rw [if_neg (by omega)]), rfl⟩

set_option maxHeartbeats 400000 in
theorem szState_any (a0 a1 : Option Addr) (n0 n1 c0 c1 : Nat) (left : Int) (w : World) (m0 : n0 ≤ maxLen) (m1 : n1 ≤ maxLen) (h0 : 0 ≤ left) (h1 : left ≤ 1048576) :
    Calls Try.prog 34 #[.agg #[.slice a0 n0 c0, .slice a1 n1 c1], .int .i64 left] w fun e w' => e = .returned (.int .i64 (szI (n0 + n1) left)) ∧ Below w.heap.size w w' := by
  unfold maxLen at m0 m1
  by_cases k0 : left - n0 < 0
  · go_enter Try.func34, Try.ntmps34
    go_wp2
    go_ret
    exact ⟨ret_int (by unfold szI; rw [if_pos (by omega)]), (Below.refl _ _).alloc (Nat.le_refl _) _⟩
  · by_cases k1 : left - n0 - n1 < 0
    · go_enter Try.func34, Try.ntmps34
      go_wp2
      go_ret
      exact ⟨ret_int (by unfold szI; rw [if_pos (by omega)]), (Below.refl _ _).alloc (Nat.le_refl _) _⟩
    · go_enter Try.func34, Try.ntmps34
      go_wp2
      go_ret
      exact ⟨ret_int (by unfold szI; rw [if_neg (by omega)]; omega), (Below.refl _ _).alloc (Nat.le_refl _) _⟩

theorem Try.info3 : (Try.prog.info? 3).map (fun i => (i.zero, i.size, i.bytes)) = some (some (.int .i64 0), 1, 8) := by kernel_rfl

theorem Try.i3 : ∃ i, Try.prog.info? 3 = some i ∧ i.zero = some (.int .i64 0) ∧ i.size = 1 ∧ i.bytes = 8 := by
  have h := Try.info3
  cases hi : Try.prog.info? 3 with
  | none => rw [hi] at h; simp at h
  | some i =>
    rw [hi] at h
    simp only [Option.map_some, Option.some.injEq, Prod.mk.injEq] at h
    exact ⟨i, rfl, h.1, h.2.1, h.2.2⟩

theorem run_make3 (n : Nat) (hn : n ≤ 1048576) (w : World) : (Instr.makeSlice 26 (.int .i64 n) (.int .i64 n)).run Try.prog w = .ok (.slice (some ⟨w.heap.size, 0, none⟩) n n) (w.alloc (.cells (irow n) 3)) := by
  obtain ⟨i, hi, h1, h2, h3⟩ := Try.i3
  have r := run_make (P := Try.prog) w 26 3 i _ Try.underlying26 hi h1 .i64 .i64 n n (by omega) (by omega) (by rw [h3]; omega) (by omega)
  rw [h2] at r
  simpa [irow, Value.cells] using r

set_option maxHeartbeats 400000 in
theorem toIntS_some (b off cap : Nat) (l : List Int) (w : World) (hn : l.length ≤ 1048576) (hb : b < w.heap.size) (hc : ∀ i, i < l.length → w.cell? ⟨b, off + i, none⟩ = some (.int .i64 (l.getD i 0))) :
    Calls Try.prog 64 #[.slice (some ⟨b, off, none⟩) l.length cap] w fun e w' => e = .returned (.slice (some ⟨w.heap.size, 0, none⟩) l.length l.length) ∧ OwnI w' w.heap.size l.length l l.length ∧ Below w.heap.size w w' := by
  have hmk := run_make3 l.length hn
  have hs := OwnI.start w l.length l
  have hbl : Below w.heap.size w (w.alloc (.cells (irow l.length) 3)) := (Below.refl _ _).alloc (Nat.le_refl _) _
  generalize hN : l.length = n at *
  clear hN
  go_enter Try.func64, Try.ntmps64
  go_wp2
  go_loopw [4] (fun i wr => ∃ k : Nat, k ≤ n ∧ i = .int .i64 k ∧ OwnI wr w.heap.size n l k ∧ Below w.heap.size w wr) (fun i _ => n - (intOf i).toNat)
  case atStart => exact ⟨0, Nat.zero_le _, rfl, hs, hbl⟩
  case round =>
    clear hs hbl
    obtain ⟨k, hk, rfl, ho, hbw⟩ := hrel
    by_cases hlt : k < n
    · have hck := hc k hlt
      clear hc
      have hx := hbw.cell (p := ⟨b, off + k, none⟩) hb
      rw [hck] at hx
      clear hck
      obtain ⟨v0, hv0⟩ := (ho.2.1 k hlt).1
      have hf0 := (ho.2.1 k hlt).2
      go_wp2
      go_roundw
      case rel => exact ⟨k + 1, by omega, by go_num, ho.step hlt, hbw.setCell (by simp) _⟩
      case measure => simp [intOf]; omega
    · go_wp2
      go_ret
      obtain rfl : k = n := by omega
      exact ⟨rfl, ho, hbw⟩

set_option maxHeartbeats 400000 in
theorem toIntS_nil (a : Option Addr) (cap : Nat) (w : World) :
    Calls Try.prog 64 #[.slice a 0 cap] w fun e w' => e = .returned (.slice (some ⟨w.heap.size, 0, none⟩) 0 0) ∧ OwnI w' w.heap.size 0 [] 0 ∧ Below w.heap.size w w' := by
  have hmk : ∀ w : World, (Instr.makeSlice 26 (.int .i64 0) (.int .i64 0)).run Try.prog w = .ok (.slice (some ⟨w.heap.size, 0, none⟩) 0 0) (w.alloc (.cells (irow 0) 3)) := fun w => run_make3 0 (by omega) w
  have hs := OwnI.start w 0 []
  have hbl : Below w.heap.size w (w.alloc (.cells (irow 0) 3)) := (Below.refl _ _).alloc (Nat.le_refl _) _
  go_enter Try.func64, Try.ntmps64
  go_wp2
  go_loopw [4] (fun i wr => i = .int .i64 0 ∧ OwnI wr w.heap.size 0 [] 0 ∧ Below w.heap.size w wr) (fun _ _ => 0)
  case atStart => exact ⟨rfl, hs, hbl⟩
  case round =>
    clear hs hbl
    obtain ⟨rfl, ho, hbw⟩ := hrel
    go_wp2
    go_ret
    exact ⟨rfl, ho, hbw⟩

theorem toIntS_any (a : Option Addr) (cap : Nat) (l : List Int) (w : World) (hn : l.length ≤ 1048576) (hr : IRow w a l) :
    Calls Try.prog 64 #[.slice a l.length cap] w fun e w' => ∃ b, e = .returned (.slice (some ⟨b, 0, none⟩) l.length l.length) ∧ w.heap.size ≤ b ∧ OwnI w' b l.length l l.length ∧ Below w.heap.size w w' := by
  rcases hr with rfl | ⟨b, off, rfl, hb, hc⟩
  · exact (toIntS_nil a cap w).mono fun e w' ⟨h1, h2, h3⟩ => ⟨_, h1, Nat.le_refl _, h2, h3⟩
  · exact (toIntS_some b off cap l w hn hb hc).mono fun e w' ⟨h1, h2, h3⟩ => ⟨_, h1, Nat.le_refl _, h2, h3⟩

set_option maxHeartbeats 1000000 in
theorem toState_any (a0 a1 : Option Addr) (c0 c1 : Nat) (l0 l1 : List Int) (w : World) (n0 : l0.length ≤ 1048576) (n1 : l1.length ≤ 1048576) (r0 : IRow w a0 l0) (r1 : IRow w a1 l1) :
    Calls Try.prog 36 #[.agg #[.slice a0 l0.length c0, .slice a1 l1.length c1]] w fun e w' => ∃ b0 b1,
      e = .returned (.agg #[.slice (some ⟨b0, 0, none⟩) l0.length l0.length, .slice (some ⟨b1, 0, none⟩) l1.length l1.length]) ∧
      w.heap.size ≤ b0 ∧ b0 < b1 ∧ OwnI w' b0 l0.length l0 l0.length ∧ OwnI w' b1 l1.length l1 l1.length ∧ Below w.heap.size w w' := by
  have B0 := Box.new w (.slice a0 l0.length c0) (.slice a1 l1.length c1) 40
  go_enter Try.func36, Try.ntmps36
  go_wp2_with fail
  refine (toIntS_any _ _ _ _ n0 (by exact r0.below ((((Below.refl _ _).alloc (Nat.le_refl _) _).alloc (by simp) _).alloc (by simp; omega) _) (Nat.le_refl _))).mono ?_
  rintro e w1 ⟨b0, rfl, g0, o0, hb⟩
  have A1 := ((B0.alloc _).alloc _).below hb (by simp; omega)
  have R1 := ((Box.new _ _ _ 43).alloc _).below hb (by simp)
  have O1 := (Box.new _ _ _ 43).below hb (by simp)
  have L1 : Below w.heap.size w w1 := ((((Below.refl _ _).alloc (Nat.le_refl _) _).alloc (by simp) _).alloc (by simp; omega) _).trans (hb.mono (by simp; omega))
  simp only [World.size_alloc] at g0 A1 R1 O1
  clear hb B0
  have ca := A1.c1; have co := O1.c0; have fo := O1.f0
  go_wp2_with fail
  clear ca co fo
  refine (toIntS_any _ _ _ _ n1 (by exact r1.below (Below.set L1 _ _ (by omega) _) (Nat.le_refl _))).mono ?_
  rintro e w2 ⟨b1, rfl, g1, o1, hb⟩
  rw [World.size_setCell] at hb g1
  have R2 := (R1.other (w.heap.size + 1 + 1) 0 (by omega) _).below hb R1.lt
  have O2 := (O1.set0 _).below hb O1.lt
  have L2 : Below w.heap.size w w2 := (Below.set L1 (w.heap.size + 1 + 1) 0 (by omega) _).trans (hb.mono L1.size)
  have h0 := o0.1
  replace o0 := (o0.other (w.heap.size + 1 + 1) 0 (by omega) _).below hb o0.1
  have q1 : b0 < b1 := by omega
  clear h0
  clear hb A1 R1 O1 L1
  have co := O2.c1; have fo := O2.f1
  have d0 := O2.c0
  have e0 := R2.c0; have e1 := R2.c1
  have f0 := R2.f0; have f1 := R2.f1
  have z1 := R2.lt; have z2 := O2.lt
  go_wp2
  refine bodyPost_ret (v := .agg #[.slice (some ⟨b0, 0, none⟩) _ _, .slice (some ⟨b1, 0, none⟩) _ _]) ?_ rfl ⟨b0, b1, rfl, by omega, q1, ?_, ?_, ?_⟩
  · have R5 := ((R2.other (w.heap.size + 1 + 1) 1 (by omega) (.slice (some ⟨b1, 0, none⟩) l1.length l1.length)).set0 (.slice (some ⟨b0, 0, none⟩) l0.length l0.length)).set1 (.slice (some ⟨b1, 0, none⟩) l1.length l1.length)
    have x0 := R5.c0; have x1 := R5.c1
    simp [results, Try.results36, go_sem, x0, x1]
  · exact ((o0.other _ _ (by omega) _).other _ _ (by omega) _).other _ _ (by omega) _
  · exact ((o1.other _ _ (by omega) _).other _ _ (by omega) _).other _ _ (by omega) _
  · exact Below.set (Below.set (Below.set L2 _ _ (by omega) _) _ _ (by omega) _) _ _ (by omega) _

end Go.Proofs.Ytanihlecenmdcaa.S
