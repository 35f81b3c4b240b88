/-
  The contracts of Has, in package spec and in package impl.
-/
import Derived.Test.YtehpiaadbcohbaaFresh
namespace Go.Proofs.Ytehpiaadbcohbaa
open Go.RowKit

def hasV (l0 l1 l2 l3 : List (Int × Int)) (t : Int) : Bool := asnB l0 l1 l2 l3 && tok t && usedV l0 l1 l2 l3 t.toNat

set_option maxHeartbeats 1000000 in
theorem sHas_any (a0 a1 a2 a3 : Option Addr) (c0 c1 c2 c3 : Nat) (l0 l1 l2 l3 : List (Int × Int)) (t : Int) (w : World)
    (n0 : l0.length ≤ 1048576) (n1 : l1.length ≤ 1048576) (n2 : l2.length ≤ 1048576) (n3 : l3.length ≤ 1048576)
    (r0 : PRow w a0 l0) (r1 : PRow w a1 l1) (r2 : PRow w a2 l2) (r3 : PRow w a3 l3) :
    Calls Try.prog 36 #[.agg #[.slice a0 l0.length c0, .slice a1 l1.length c1, .slice a2 l2.length c2, .slice a3 l3.length c3], .int .i64 t] w fun e w' => e = .returned (.bool (hasV l0 l1 l2 l3 t)) ∧ Below w.heap.size w w' := by
  have B0 := Box.new w (.slice a0 l0.length c0) (.slice a1 l1.length c1) (.slice a2 l2.length c2) (.slice a3 l3.length c3) 30
  have L : Below w.heap.size w (w.alloc (.cells #[.slice a0 l0.length c0, .slice a1 l1.length c1, .slice a2 l2.length c2, .slice a3 l3.length c3] 30)) := (Below.refl _ _).alloc (Nat.le_refl _) _
  go_enter Try.func36, Try.ntmps36
  go_wp2_with fail
  refine (sAsnOk_any _ _ _ _ _ _ _ _ _ _ _ _ _ n0 n1 n2 n3 (by exact r0.below L (Nat.le_refl _)) (by exact r1.below L (Nat.le_refl _)) (by exact r2.below L (Nat.le_refl _)) (by exact r3.below L (Nat.le_refl _))).mono ?_
  rintro e w1 ⟨rfl, hb⟩
  have B1 := B0.below hb B0.lt; have L1 := L.trans (hb.mono L.size)
  clear hb B0 L
  have x0 := B1.c0; have x1 := B1.c1; have x2 := B1.c2; have x3 := B1.c3
  cases h : asnB l0 l1 l2 l3
  · go_wp2
    go_ret
    exact ⟨ret_bool (by simp [hasV, h]), L1⟩
  · have HT : Hid (asnB l0 l1 l2 l3 = true) := h
    clear h
    go_wp2_with fail
    refine (sTermOk_any _ _).mono ?_
    rintro e w2 ⟨rfl, rfl⟩
    cases h : tok t
    · go_wp2
      go_ret
      exact ⟨ret_bool (by simp [hasV, h]), L1⟩
    · have HK : Hid (tok t = true) := h
      have hr : 0 ≤ t ∧ t < 16 := by simpa [tok] using h
      clear h
      obtain ⟨t, rfl⟩ := Int.eq_ofNat_of_zero_le hr.1
      have ht : t < 16 := by omega
      clear hr
      go_wp2_with fail
      refine (l1used_any _ _ _ _ _ _ _ _ _ _ _ _ _ n0 n1 n2 n3 (by exact r0.below L1 (Nat.le_refl _)) (by exact r1.below L1 (Nat.le_refl _)) (by exact r2.below L1 (Nat.le_refl _)) (by exact r3.below L1 (Nat.le_refl _)) HT.out).mono ?_
      rintro e w2 ⟨bI, rfl, hI, I, hb⟩
      have L2 := L1.trans (hb.mono L1.size)
      have hx := (I.2 t ht).1
      go_wp2
      go_ret
      exact ⟨ret_bool (by unfold hasV; rw [HT.out, HK.out]; rfl), L2⟩

set_option maxHeartbeats 1000000 in
theorem iHas_any (a0 a1 a2 a3 : Option Addr) (c0 c1 c2 c3 : Nat) (l0 l1 l2 l3 : List (Int × Int)) (t : Int) (w : World)
    (n0 : l0.length ≤ 1048576) (n1 : l1.length ≤ 1048576) (n2 : l2.length ≤ 1048576) (n3 : l3.length ≤ 1048576)
    (r0 : PRow w a0 l0) (r1 : PRow w a1 l1) (r2 : PRow w a2 l2) (r3 : PRow w a3 l3) :
    Calls Try.prog 37 #[.agg #[.slice a0 l0.length c0, .slice a1 l1.length c1, .slice a2 l2.length c2, .slice a3 l3.length c3], .int .i64 t] w fun e w' => e = .returned (.bool (hasV l0 l1 l2 l3 t)) ∧ Below w.heap.size w w' := by
  have B0 := Box.new w (.slice a0 l0.length c0) (.slice a1 l1.length c1) (.slice a2 l2.length c2) (.slice a3 l3.length c3) 30
  have L : Below w.heap.size w (w.alloc (.cells #[.slice a0 l0.length c0, .slice a1 l1.length c1, .slice a2 l2.length c2, .slice a3 l3.length c3] 30)) := (Below.refl _ _).alloc (Nat.le_refl _) _
  go_enter Try.func37, Try.ntmps37
  go_wp2_with fail
  refine (iAsnOk_any _ _ _ _ _ _ _ _ _ _ _ _ _ n0 n1 n2 n3 (by exact r0.below L (Nat.le_refl _)) (by exact r1.below L (Nat.le_refl _)) (by exact r2.below L (Nat.le_refl _)) (by exact r3.below L (Nat.le_refl _))).mono ?_
  rintro e w1 ⟨rfl, hb⟩
  have B1 := B0.below hb B0.lt; have L1 := L.trans (hb.mono L.size)
  clear hb B0 L
  have x0 := B1.c0; have x1 := B1.c1; have x2 := B1.c2; have x3 := B1.c3
  cases h : asnB l0 l1 l2 l3
  · go_wp2
    go_ret
    exact ⟨ret_bool (by simp [hasV, h]), L1⟩
  · have HT : Hid (asnB l0 l1 l2 l3 = true) := h
    clear h
    go_wp2_with fail
    refine (iTermOk_any _ _).mono ?_
    rintro e w2 ⟨rfl, rfl⟩
    cases h : tok t
    · go_wp2
      go_ret
      exact ⟨ret_bool (by simp [hasV, h]), L1⟩
    · have HK : Hid (tok t = true) := h
      have hr : 0 ≤ t ∧ t < 16 := by simpa [tok] using h
      clear h
      obtain ⟨t, rfl⟩ := Int.eq_ofNat_of_zero_le hr.1
      have ht : t < 16 := by omega
      clear hr
      go_wp2_with fail
      refine (termsIn_any _ _ _ _ _ _ _ _ _ _ _ _ _ n0 n1 n2 n3 (by exact r0.below L1 (Nat.le_refl _)) (by exact r1.below L1 (Nat.le_refl _)) (by exact r2.below L1 (Nat.le_refl _)) (by exact r3.below L1 (Nat.le_refl _)) HT.out).mono ?_
      rintro e w2 ⟨rfl, hb⟩
      have L2 := L1.trans (hb.mono L1.size)
      have hx := idxB (usedV l0 l1 l2 l3) t ht
      go_wp2
      go_ret
      exact ⟨ret_bool (by unfold hasV; rw [HT.out, HK.out]; rfl), L2⟩

end Go.Proofs.Ytehpiaadbcohbaa
