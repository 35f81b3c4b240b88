/-
  The contracts of laws.toPair, laws.toPairS and laws.toAsn.
-/
import Derived.Test.YtfplloabkceaoaaChecked
import Derived.Test.YtfplloabkceaoaaBase
import Derived.Outline
namespace Go.Proofs.Ytfplloabkceaoaa
open Go.RowKit

set_option maxHeartbeats 400000 in
theorem toPair_any (x y : Int) (w : World) :
    Calls Try.prog 110 #[.agg #[.int .i64 x, .int .i64 y]] w fun e w' => e = .returned (.agg #[.int .i64 x, .int .i64 y]) ∧ Below w.heap.size w w' := by
  go_enter Try.func110, Try.ntmps110
  go_wp2
  exact bodyPost_ret (v := .agg #[.int .i64 x, .int .i64 y]) (by simp [results, Try.results110, go_sem]) rfl ⟨rfl, (((Below.refl _ _).alloc (Nat.le_refl _) _).alloc (by simp) _).alloc (by simp; omega) _⟩

theorem Try.info69 : (Try.prog.info? 69).map (fun i => (i.zero, i.size, i.bytes)) = some (some (.agg #[.int .i64 0, .int .i64 0]), 2, 16) := by kernel_rfl

theorem run_make57 (n : Nat) (hn : n ≤ 1048576) (w : World) : (Instr.makeSlice 26 (.int .i64 n) (.int .i64 n)).run Try.prog w = .ok (.slice (some ⟨w.heap.size, 0, none⟩) n n) (w.alloc (.cells (zrow n) 69)) := by
  have h := Try.info69
  cases hi : Try.prog.info? 69 with
  | none => rw [hi] at h; simp at h
  | some i =>
    rw [hi] at h
    simp only [Option.map_some, Option.some.injEq, Prod.mk.injEq] at h
    have r := run_make (P := Try.prog) w 26 69 i _ Try.underlying26 hi h.1 .i64 .i64 n n (by omega) (by omega) (by rw [h.2.2]; omega) (by omega)
    rw [h.2.1] at r
    simpa [zrow, Value.cells] using r

set_option maxHeartbeats 400000 in
theorem toPairS_some (b off cap : Nat) (l : List (Int × Int)) (w : World) (hn : l.length ≤ 1048576) (hb : b < w.heap.size)
    (hc : ∀ i, i < l.length → w.cell? ⟨b, off + i * 2, none⟩ = some (.int .i64 (l.getD i (0, 0)).1) ∧ w.cell? ⟨b, off + i * 2 + 1, none⟩ = some (.int .i64 (l.getD i (0, 0)).2)) :
    Calls Try.prog 132 #[.slice (some ⟨b, off, none⟩) l.length cap] w fun e w' => e = .returned (.slice (some ⟨w.heap.size, 0, none⟩) l.length l.length) ∧ Own w' w.heap.size l.length l l.length ∧ Below w.heap.size w w' := by
  have hmk := run_make57 l.length hn
  have hs := Own.start w l.length l
  have hbl : Below w.heap.size w (w.alloc (.cells (zrow l.length) 69)) := (Below.refl _ _).alloc (Nat.le_refl _) _
  generalize hN : l.length = n at *
  clear hN
  go_enter Try.func132, Try.ntmps132
  go_wp2
  go_loopw [4] (fun i wr => ∃ k : Nat, k ≤ n ∧ i = .int .i64 k ∧ Own wr w.heap.size n l k ∧ Below w.heap.size w wr) (fun i _ => n - (intOf i).toNat)
  case atStart => exact ⟨0, Nat.zero_le _, rfl, hs, hbl⟩
  case round =>
    clear hs hbl
    obtain ⟨k, hk, rfl, ho, hbw⟩ := hrel
    by_cases hlt : k < n
    · have hck := hc k hlt
      clear hc
      have hx := hbw.cell (p := ⟨b, off + k * 2, none⟩) hb
      have hy := hbw.cell (p := ⟨b, off + k * 2 + 1, none⟩) hb
      rw [hck.1] at hx
      rw [hck.2] at hy
      clear hck
      have hsz : w.heap.size < wr.heap.size := ho.1
      go_wp2_with fail
      refine (toPair_any _ _ _).mono ?_
      rintro e w1 ⟨rfl, hb1⟩
      have ho1 := ho.below hb1 hsz
      have hbw1 : Below w.heap.size w w1 := hbw.trans (hb1.mono (by omega))
      clear hx hy hb1 ho hbw hsz
      obtain ⟨v0, hv0⟩ := (ho1.2.1 (k * 2) (by omega)).1
      obtain ⟨v1, hv1⟩ := (ho1.2.1 (k * 2 + 1) (by omega)).1
      have hf0 := (ho1.2.1 (k * 2) (by omega)).2
      have hf1 := (ho1.2.1 (k * 2 + 1) (by omega)).2
      go_wp2
      go_roundw
      case rel => exact ⟨k + 1, by omega, by go_num, ho1.step hlt, (hbw1.setCell (by simp) _).setCell (by simp) _⟩
      case measure => simp [intOf]; omega
    · go_wp2
      go_ret
      obtain rfl : k = n := by omega
      exact ⟨rfl, ho, hbw⟩

set_option maxHeartbeats 400000 in
theorem toPairS_nil (a : Option Addr) (cap : Nat) (w : World) :
    Calls Try.prog 132 #[.slice a 0 cap] w fun e w' => e = .returned (.slice (some ⟨w.heap.size, 0, none⟩) 0 0) ∧ Own w' w.heap.size 0 [] 0 ∧ Below w.heap.size w w' := by
  have hmk : ∀ w : World, (Instr.makeSlice 26 (.int .i64 0) (.int .i64 0)).run Try.prog w = .ok (.slice (some ⟨w.heap.size, 0, none⟩) 0 0) (w.alloc (.cells (zrow 0) 69)) := fun w => run_make57 0 (by omega) w
  have hs := Own.start w 0 []
  have hbl : Below w.heap.size w (w.alloc (.cells (zrow 0) 69)) := (Below.refl _ _).alloc (Nat.le_refl _) _
  go_enter Try.func132, Try.ntmps132
  go_wp2
  go_loopw [4] (fun i wr => i = .int .i64 0 ∧ Own wr w.heap.size 0 [] 0 ∧ Below w.heap.size w wr) (fun _ _ => 0)
  case atStart => exact ⟨rfl, hs, hbl⟩
  case round =>
    clear hs hbl
    obtain ⟨rfl, ho, hbw⟩ := hrel
    go_wp2
    go_ret
    exact ⟨rfl, ho, hbw⟩

theorem toPairS_any (a : Option Addr) (cap : Nat) (l : List (Int × Int)) (w : World) (hn : l.length ≤ 1048576) (hr : PRow w a l) :
    Calls Try.prog 132 #[.slice a l.length cap] w fun e w' => ∃ b, e = .returned (.slice (some ⟨b, 0, none⟩) l.length l.length) ∧ w.heap.size ≤ b ∧ Own w' b l.length l l.length ∧ Below w.heap.size w w' := by
  rcases hr with rfl | ⟨b, off, rfl, hb, hc⟩
  · exact (toPairS_nil a cap w).mono fun e w' ⟨h1, h2, h3⟩ => ⟨_, h1, Nat.le_refl _, h2, h3⟩
  · exact (toPairS_some b off cap l w hn hb hc).mono fun e w' ⟨h1, h2, h3⟩ => ⟨_, h1, Nat.le_refl _, h2, h3⟩

set_option maxHeartbeats 1000000 in
theorem toAsn_any (a0 a1 a2 a3 : Option Addr) (c0 c1 c2 c3 : Nat) (l0 l1 l2 l3 : List (Int × Int)) (w : World)
    (n0 : l0.length ≤ 1048576) (n1 : l1.length ≤ 1048576) (n2 : l2.length ≤ 1048576) (n3 : l3.length ≤ 1048576)
    (r0 : PRow w a0 l0) (r1 : PRow w a1 l1) (r2 : PRow w a2 l2) (r3 : PRow w a3 l3) :
    Calls Try.prog 41 #[.agg #[.slice a0 l0.length c0, .slice a1 l1.length c1, .slice a2 l2.length c2, .slice a3 l3.length c3]] w fun e w' => ∃ b0 b1 b2 b3,
      e = .returned (.agg #[.slice (some ⟨b0, 0, none⟩) l0.length l0.length, .slice (some ⟨b1, 0, none⟩) l1.length l1.length, .slice (some ⟨b2, 0, none⟩) l2.length l2.length, .slice (some ⟨b3, 0, none⟩) l3.length l3.length]) ∧
      w.heap.size ≤ b0 ∧ b0 < b1 ∧ b1 < b2 ∧ b2 < b3 ∧ Own w' b0 l0.length l0 l0.length ∧ Own w' b1 l1.length l1 l1.length ∧ Own w' b2 l2.length l2 l2.length ∧ Own w' b3 l3.length l3 l3.length ∧ Below w.heap.size w w' := by
  have B0 := Box.new w (.slice a0 l0.length c0) (.slice a1 l1.length c1) (.slice a2 l2.length c2) (.slice a3 l3.length c3) 24
  go_enter Try.func41, Try.ntmps41
  go_wp2_with fail
  refine (toPairS_any _ _ _ _ n0 (by exact r0.below ((((Below.refl _ _).alloc (Nat.le_refl _) _).alloc (by simp) _).alloc (by simp; omega) _) (Nat.le_refl _))).mono ?_
  rintro e w1 ⟨b0, rfl, g0, o0, hb⟩
  have A1 := ((B0.alloc _).alloc _).below hb (by simp; omega)
  have R1 := ((Box.new _ _ _ _ _ 28).alloc _).below hb (by simp)
  have O1 := (Box.new _ _ _ _ _ 28).below hb (by simp)
  have L1 : Below w.heap.size w w1 := ((((Below.refl _ _).alloc (Nat.le_refl _) _).alloc (by simp) _).alloc (by simp; omega) _).trans (hb.mono (by simp; omega))
  simp only [World.size_alloc] at g0 A1 R1 O1
  clear hb B0
  have ca := A1.c1; have co := O1.c0; have fo := O1.f0
  go_wp2_with fail
  clear ca co fo
  refine (toPairS_any _ _ _ _ n1 (by exact r1.below (Below.set L1 _ _ (by omega) _) (Nat.le_refl _))).mono ?_
  rintro e w2 ⟨b1, rfl, g1, o1, hb⟩
  rw [World.size_setCell] at hb g1
  have A2 := (A1.other (w.heap.size + 1 + 1) 0 (by omega) _).below hb A1.lt
  have R2 := (R1.other (w.heap.size + 1 + 1) 0 (by omega) _).below hb R1.lt
  have O2 := (O1.set0 _).below hb O1.lt
  have L2 : Below w.heap.size w w2 := (Below.set L1 (w.heap.size + 1 + 1) 0 (by omega) _).trans (hb.mono L1.size)
  have h0 := o0.1
  replace o0 := (o0.other (w.heap.size + 1 + 1) 0 (by omega) _).below hb o0.1
  have q1 : b0 < b1 := by omega
  clear h0
  clear hb A1 R1 O1 L1
  have ca := A2.c2; have co := O2.c1; have fo := O2.f1
  go_wp2_with fail
  clear ca co fo
  refine (toPairS_any _ _ _ _ n2 (by exact r2.below (Below.set L2 _ _ (by omega) _) (Nat.le_refl _))).mono ?_
  rintro e w3 ⟨b2, rfl, g2, o2, hb⟩
  rw [World.size_setCell] at hb g2
  have A3 := (A2.other (w.heap.size + 1 + 1) 1 (by omega) _).below hb A2.lt
  have R3 := (R2.other (w.heap.size + 1 + 1) 1 (by omega) _).below hb R2.lt
  have O3 := (O2.set1 _).below hb O2.lt
  have L3 : Below w.heap.size w w3 := (Below.set L2 (w.heap.size + 1 + 1) 1 (by omega) _).trans (hb.mono L2.size)
  have h0 := o0.1
  have h1 := o1.1
  replace o0 := (o0.other (w.heap.size + 1 + 1) 1 (by omega) _).below hb o0.1
  replace o1 := (o1.other (w.heap.size + 1 + 1) 1 (by omega) _).below hb o1.1
  have q2 : b1 < b2 := by omega
  clear h0
  clear h1
  clear hb A2 R2 O2 L2
  have ca := A3.c3; have co := O3.c2; have fo := O3.f2
  go_wp2_with fail
  clear ca co fo
  refine (toPairS_any _ _ _ _ n3 (by exact r3.below (Below.set L3 _ _ (by omega) _) (Nat.le_refl _))).mono ?_
  rintro e w4 ⟨b3, rfl, g3, o3, hb⟩
  rw [World.size_setCell] at hb g3
  have A4 := (A3.other (w.heap.size + 1 + 1) 2 (by omega) _).below hb A3.lt
  have R4 := (R3.other (w.heap.size + 1 + 1) 2 (by omega) _).below hb R3.lt
  have O4 := (O3.set2 _).below hb O3.lt
  have L4 : Below w.heap.size w w4 := (Below.set L3 (w.heap.size + 1 + 1) 2 (by omega) _).trans (hb.mono L3.size)
  have h0 := o0.1
  have h1 := o1.1
  have h2 := o2.1
  replace o0 := (o0.other (w.heap.size + 1 + 1) 2 (by omega) _).below hb o0.1
  replace o1 := (o1.other (w.heap.size + 1 + 1) 2 (by omega) _).below hb o1.1
  replace o2 := (o2.other (w.heap.size + 1 + 1) 2 (by omega) _).below hb o2.1
  have q3 : b2 < b3 := by omega
  clear h0
  clear h1
  clear h2
  clear hb A3 R3 O3 L3
  have co := O4.c3; have fo := O4.f3
  have d0 := O4.c0; have d1 := O4.c1; have d2 := O4.c2
  have e0 := R4.c0; have e1 := R4.c1; have e2 := R4.c2; have e3 := R4.c3
  have f0 := R4.f0; have f1 := R4.f1; have f2 := R4.f2; have f3 := R4.f3
  have z1 := R4.lt; have z2 := O4.lt
  go_wp2
  refine bodyPost_ret (v := .agg #[.slice (some ⟨b0, 0, none⟩) _ _, .slice (some ⟨b1, 0, none⟩) _ _, .slice (some ⟨b2, 0, none⟩) _ _, .slice (some ⟨b3, 0, none⟩) _ _]) ?_ rfl ⟨b0, b1, b2, b3, rfl, by omega, q1, q2, q3, ?_, ?_, ?_, ?_, ?_⟩
  · have R5 := ((((R4.other (w.heap.size + 1 + 1) 3 (by omega) (.slice (some ⟨b3, 0, none⟩) l3.length l3.length)).set0 (.slice (some ⟨b0, 0, none⟩) l0.length l0.length)).set1 (.slice (some ⟨b1, 0, none⟩) l1.length l1.length)).set2 (.slice (some ⟨b2, 0, none⟩) l2.length l2.length)).set3 (.slice (some ⟨b3, 0, none⟩) l3.length l3.length)
    have x0 := R5.c0; have x1 := R5.c1; have x2 := R5.c2; have x3 := R5.c3
    simp [results, Try.results41, go_sem, x0, x1, x2, x3]
  · exact ((((o0.other _ _ (by omega) _).other _ _ (by omega) _).other _ _ (by omega) _).other _ _ (by omega) _).other _ _ (by omega) _
  · exact ((((o1.other _ _ (by omega) _).other _ _ (by omega) _).other _ _ (by omega) _).other _ _ (by omega) _).other _ _ (by omega) _
  · exact ((((o2.other _ _ (by omega) _).other _ _ (by omega) _).other _ _ (by omega) _).other _ _ (by omega) _).other _ _ (by omega) _
  · exact ((((o3.other _ _ (by omega) _).other _ _ (by omega) _).other _ _ (by omega) _).other _ _ (by omega) _).other _ _ (by omega) _
  · exact Below.set (Below.set (Below.set (Below.set (Below.set L4 _ _ (by omega) _) _ _ (by omega) _) _ _ (by omega) _) _ _ (by omega) _) _ _ (by omega) _

end Go.Proofs.Ytfplloabkceaoaa
