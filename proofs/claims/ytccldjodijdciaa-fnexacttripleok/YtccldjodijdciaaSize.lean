/-
  The contracts of SizeOf, in package spec and in package impl.
-/
import Derived.Test.YtccldjodijdciaaOkI
namespace Go.Proofs.Ytccldjodijdciaa
open Go.RowKit

def sizeV (l0 l1 l2 l3 : List (Int × Int)) : Int := if asnB l0 l1 l2 l3 = true then (l0.length : Int) + l1.length + l2.length + l3.length else -1

set_option maxHeartbeats 1000000 in
theorem sSizeOf_any (a0 a1 a2 a3 : Option Addr) (c0 c1 c2 c3 : Nat) (l0 l1 l2 l3 : List (Int × Int)) (w : World)
    (n0 : l0.length ≤ 1048576) (n1 : l1.length ≤ 1048576) (n2 : l2.length ≤ 1048576) (n3 : l3.length ≤ 1048576)
    (r0 : PRow w a0 l0) (r1 : PRow w a1 l1) (r2 : PRow w a2 l2) (r3 : PRow w a3 l3) :
    Calls Try.prog 33 #[.agg #[.slice a0 l0.length c0, .slice a1 l1.length c1, .slice a2 l2.length c2, .slice a3 l3.length c3]] w fun e w' => e = .returned (.int .i64 (sizeV l0 l1 l2 l3)) ∧ Below w.heap.size w w' := by
  have B0 := Box.new w (.slice a0 l0.length c0) (.slice a1 l1.length c1) (.slice a2 l2.length c2) (.slice a3 l3.length c3) 30
  have L : Below w.heap.size w (w.alloc (.cells #[.slice a0 l0.length c0, .slice a1 l1.length c1, .slice a2 l2.length c2, .slice a3 l3.length c3] 30)) := (Below.refl _ _).alloc (Nat.le_refl _) _
  go_enter Try.func33, Try.ntmps33
  go_wp2_with fail
  refine (sAsnOk_any _ _ _ _ _ _ _ _ _ _ _ _ _ n0 n1 n2 n3 (by exact r0.below L (Nat.le_refl _)) (by exact r1.below L (Nat.le_refl _)) (by exact r2.below L (Nat.le_refl _)) (by exact r3.below L (Nat.le_refl _))).mono ?_
  rintro e w1 ⟨rfl, hb⟩
  have B1 := B0.below hb B0.lt; have L1 := L.trans (hb.mono L.size)
  clear hb B0 L
  have x0 := B1.c0; have x1 := B1.c1; have x2 := B1.c2; have x3 := B1.c3
  cases h : asnB l0 l1 l2 l3
  · go_wp2
    go_ret
    exact ⟨ret_int (by simp [sizeV, h]), L1⟩
  · go_wp2
    go_ret
    exact ⟨ret_int (by simp [sizeV, h]), L1⟩

set_option maxHeartbeats 1000000 in
theorem iSizeOf_any (a0 a1 a2 a3 : Option Addr) (c0 c1 c2 c3 : Nat) (l0 l1 l2 l3 : List (Int × Int)) (w : World)
    (n0 : l0.length ≤ 1048576) (n1 : l1.length ≤ 1048576) (n2 : l2.length ≤ 1048576) (n3 : l3.length ≤ 1048576)
    (r0 : PRow w a0 l0) (r1 : PRow w a1 l1) (r2 : PRow w a2 l2) (r3 : PRow w a3 l3) :
    Calls Try.prog 34 #[.agg #[.slice a0 l0.length c0, .slice a1 l1.length c1, .slice a2 l2.length c2, .slice a3 l3.length c3]] w fun e w' => e = .returned (.int .i64 (sizeV l0 l1 l2 l3)) ∧ Below w.heap.size w w' := by
  have B0 := Box.new w (.slice a0 l0.length c0) (.slice a1 l1.length c1) (.slice a2 l2.length c2) (.slice a3 l3.length c3) 30
  have L : Below w.heap.size w (w.alloc (.cells #[.slice a0 l0.length c0, .slice a1 l1.length c1, .slice a2 l2.length c2, .slice a3 l3.length c3] 30)) := (Below.refl _ _).alloc (Nat.le_refl _) _
  go_enter Try.func34, Try.ntmps34
  go_wp2_with fail
  refine (iAsnOk_any _ _ _ _ _ _ _ _ _ _ _ _ _ n0 n1 n2 n3 (by exact r0.below L (Nat.le_refl _)) (by exact r1.below L (Nat.le_refl _)) (by exact r2.below L (Nat.le_refl _)) (by exact r3.below L (Nat.le_refl _))).mono ?_
  rintro e w1 ⟨rfl, hb⟩
  have B1 := B0.below hb B0.lt; have L1 := L.trans (hb.mono L.size)
  clear hb B0 L
  have x0 := B1.c0; have x1 := B1.c1; have x2 := B1.c2; have x3 := B1.c3
  cases h : asnB l0 l1 l2 l3
  · go_wp2
    go_ret
    exact ⟨ret_int (by simp [sizeV, h]), L1⟩
  · go_wp2
    go_ret
    exact ⟨ret_int (by simp [sizeV, h]), L1⟩

end Go.Proofs.Ytccldjodijdciaa
