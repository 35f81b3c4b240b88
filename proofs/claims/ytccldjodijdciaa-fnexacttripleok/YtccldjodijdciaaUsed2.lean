/-
  The contract of spec.l1used: which of the sixteen terms are in an assertion.
-/
import Derived.Test.YtccldjodijdciaaUsed
namespace Go.Proofs.Ytccldjodijdciaa
open Go.RowKit

theorem run_make62 (w : World) : (Instr.makeSlice 93 (.int .i64 16) (.int .i64 16)).run Try.prog w = .ok (.slice (some ⟨w.heap.size, 0, none⟩) 16 16) (w.alloc (.cells #[.bool false, .bool false, .bool false, .bool false, .bool false, .bool false, .bool false, .bool false, .bool false, .bool false, .bool false, .bool false, .bool false, .bool false, .bool false, .bool false] 4)) := by kernel_rfl

theorem BRow.new (w : World) (t : TypeId) : BRow (w.alloc (.cells #[.bool false, .bool false, .bool false, .bool false, .bool false, .bool false, .bool false, .bool false, .bool false, .bool false, .bool false, .bool false, .bool false, .bool false, .bool false, .bool false] t)) w.heap.size (fun _ => false) := by
  refine ⟨by simp, fun j hj => ⟨?_, by simp⟩⟩
  rw [World.cell?_alloc_new]
  match j, hj with
  | 0, _ => rfl
  | 1, _ => rfl
  | 2, _ => rfl
  | 3, _ => rfl
  | 4, _ => rfl
  | 5, _ => rfl
  | 6, _ => rfl
  | 7, _ => rfl
  | 8, _ => rfl
  | 9, _ => rfl
  | 10, _ => rfl
  | 11, _ => rfl
  | 12, _ => rfl
  | 13, _ => rfl
  | 14, _ => rfl
  | 15, _ => rfl
  | j + 16, h => exact absurd h (by omega)

theorem asnB_toks {l0 l1 l2 l3 : List (Int × Int)} (h : asnB l0 l1 l2 l3 = true) : toks l0 = true ∧ toks l1 = true ∧ toks l2 = true ∧ toks l3 = true := by
  simp [asnB] at h
  exact ⟨h.1.1.1.1.1.1, h.1.1.1.1.1.2, h.1.1.1.1.2, h.1.1.1.2⟩

set_option maxHeartbeats 1000000 in
theorem l1used_any (a0 a1 a2 a3 : Option Addr) (c0 c1 c2 c3 : Nat) (l0 l1 l2 l3 : List (Int × Int)) (w : World)
    (n0 : l0.length ≤ 1048576) (n1 : l1.length ≤ 1048576) (n2 : l2.length ≤ 1048576) (n3 : l3.length ≤ 1048576)
    (r0 : PRow w a0 l0) (r1 : PRow w a1 l1) (r2 : PRow w a2 l2) (r3 : PRow w a3 l3) (ht : asnB l0 l1 l2 l3 = true) :
    Calls Try.prog 87 #[.agg #[.slice a0 l0.length c0, .slice a1 l1.length c1, .slice a2 l2.length c2, .slice a3 l3.length c3]] w fun e w' => ∃ bI, e = .returned (.slice (some ⟨bI, 0, none⟩) 16 16) ∧ w.heap.size ≤ bI ∧ BRow w' bI (usedV l0 l1 l2 l3) ∧ Below w.heap.size w w' := by
  obtain ⟨t0, t1, t2, t3⟩ := asnB_toks ht
  have T0 : Hid (toks l0 = true) := t0
  have T1 : Hid (toks l1 = true) := t1
  have T2 : Hid (toks l2 = true) := t2
  have T3 : Hid (toks l3 = true) := t3
  clear ht t0 t1 t2 t3
  have hmk := run_make62
  have B0 := (Box.new w (.slice a0 l0.length c0) (.slice a1 l1.length c1) (.slice a2 l2.length c2) (.slice a3 l3.length c3) 30).alloc (.cells #[.bool false, .bool false, .bool false, .bool false, .bool false, .bool false, .bool false, .bool false, .bool false, .bool false, .bool false, .bool false, .bool false, .bool false, .bool false, .bool false] 4)
  have I0 := BRow.new (w.alloc (.cells #[.slice a0 l0.length c0, .slice a1 l1.length c1, .slice a2 l2.length c2, .slice a3 l3.length c3] 30)) 4
  have L0 : Below w.heap.size w ((w.alloc (.cells #[.slice a0 l0.length c0, .slice a1 l1.length c1, .slice a2 l2.length c2, .slice a3 l3.length c3] 30)).alloc (.cells #[.bool false, .bool false, .bool false, .bool false, .bool false, .bool false, .bool false, .bool false, .bool false, .bool false, .bool false, .bool false, .bool false, .bool false, .bool false, .bool false] 4)) := ((Below.refl _ _).alloc (Nat.le_refl _) _).alloc (by simp) _
  rw [World.size_alloc] at I0
  have z : w.heap.size + 1 < ((w.alloc (.cells #[.slice a0 l0.length c0, .slice a1 l1.length c1, .slice a2 l2.length c2, .slice a3 l3.length c3] 30)).alloc (.cells #[.bool false, .bool false, .bool false, .bool false, .bool false, .bool false, .bool false, .bool false, .bool false, .bool false, .bool false, .bool false, .bool false, .bool false, .bool false, .bool false] 4)).heap.size := by simp
  go_enter Try.func87, Try.ntmps87
  go_wp2_with fail
  refine (l1mark_any _ _ _ _ _ _ n0 T0.out I0 (by exact r0.below L0 (Nat.le_refl _)) (by exact r0.off (by omega))).mono ?_
  rintro e w1 ⟨rfl, I1, hk⟩
  have L1 := L0.trans (hk.below (by omega) L0.size)
  have B1 := B0.kept hk (by omega)
  clear I0 L0 B0 hk hmk z
  have x := B1.c1
  go_wp2_with fail
  clear x
  refine (l1mark_any _ _ _ _ _ _ n1 T1.out I1 (by exact r1.below L1 (Nat.le_refl _)) (by exact r1.off (by omega))).mono ?_
  rintro e w2 ⟨rfl, I2, hk⟩
  have L2 := L1.trans (hk.below (by omega) L1.size)
  have B2 := B1.kept hk (by omega)
  clear I1 L1 B1 hk
  have x := B2.c2
  go_wp2_with fail
  clear x
  refine (l1mark_any _ _ _ _ _ _ n2 T2.out I2 (by exact r2.below L2 (Nat.le_refl _)) (by exact r2.off (by omega))).mono ?_
  rintro e w3 ⟨rfl, I3, hk⟩
  have L3 := L2.trans (hk.below (by omega) L2.size)
  have B3 := B2.kept hk (by omega)
  clear I2 L2 B2 hk
  have x := B3.c3
  go_wp2_with fail
  clear x
  refine (l1mark_any _ _ _ _ _ _ n3 T3.out I3 (by exact r3.below L3 (Nat.le_refl _)) (by exact r3.off (by omega))).mono ?_
  rintro e w4 ⟨rfl, I4, hk⟩
  have L4 := L3.trans (hk.below (by omega) L3.size)
  have B4 := B3.kept hk (by omega)
  clear I3 L3 B3 hk
  go_wp2
  go_ret
  exact ⟨w.heap.size + 1, rfl, by omega, I4.congr (fun j _ => by simp [usedV]), L4⟩

end Go.Proofs.Ytccldjodijdciaa
