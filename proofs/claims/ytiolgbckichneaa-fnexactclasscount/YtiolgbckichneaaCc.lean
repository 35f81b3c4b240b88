/-
  The contracts of ClassCount.
-/
import Derived.Test.YtiolgbckichneaaLk
import Derived.Test.YtiolgbckichneaaAl
import Derived.Test.YtiolgbckichneaaHs
namespace Go.Proofs.Ytiolgbckichneaa
open Go.RowKit
def ccA (l0 l1 l2 l3 : List (Int × Int)) : Int := if asnB l0 l1 l2 l3 = true then 16 - ((linksV (clsV l0)).length : Int) else 0

set_option maxRecDepth 3000 in
set_option maxHeartbeats 1000000 in
theorem sClassCount_any (a0 a1 a2 a3 : Option Addr) (c0 c1 c2 c3 : Nat) (l0 l1 l2 l3 : List (Int × Int)) (w : World)
    (n0 : l0.length ≤ 1048576) (n1 : l1.length ≤ 1048576) (n2 : l2.length ≤ 1048576) (n3 : l3.length ≤ 1048576)
    (r0 : PRow w a0 l0) (r1 : PRow w a1 l1) (r2 : PRow w a2 l2) (r3 : PRow w a3 l3) :
    Calls Try.prog 48 #[.agg #[.slice a0 l0.length c0, .slice a1 l1.length c1, .slice a2 l2.length c2, .slice a3 l3.length c3]] w fun e w' => e = .returned (.int .i64 (ccA l0 l1 l2 l3)) ∧ Below w.heap.size w w' := by
  have B0 := Box.new w (.slice a0 l0.length c0) (.slice a1 l1.length c1) (.slice a2 l2.length c2) (.slice a3 l3.length c3) 28
  have L0 : Below w.heap.size w (w.alloc (.cells #[.slice a0 l0.length c0, .slice a1 l1.length c1, .slice a2 l2.length c2, .slice a3 l3.length c3] 28)) := (Below.refl _ _).alloc (Nat.le_refl _) _
  go_enter Try.func48, Try.ntmps48
  go_wp2_with fail
  refine (sAsnOk_any _ _ _ _ _ _ _ _ _ _ _ _ _ n0 n1 n2 n3 (by exact r0.below L0 (Nat.le_refl _)) (by exact r1.below L0 (Nat.le_refl _)) (by exact r2.below L0 (Nat.le_refl _)) (by exact r3.below L0 (Nat.le_refl _))).mono ?_
  rintro e w1 ⟨rfl, hb⟩
  have B1 := B0.below hb B0.lt; have L1 := L0.trans (hb.mono L0.size)
  clear hb B0 L0
  cases ha : asnB l0 l1 l2 l3
  · have HE : Hid (ccA l0 l1 l2 l3 = 0) := by unfold Hid ccA; rw [ha]; rfl
    go_wp2
    go_ret
    exact ⟨by rw [HE.out]; rfl, L1⟩
  have HE : Hid (ccA l0 l1 l2 l3 = 16 - ((linksV (clsV l0)).length : Int)) := by unfold Hid ccA; rw [ha]; rfl
  have ht := asnB_toks ha
  have HC := (Cls.all ht.1).1
  replace HC : Hid ((clsV l0).length = 16) := HC
  clear ha
  have x0 := B1.c0; have x1 := B1.c1; have x2 := B1.c2; have x3 := B1.c3
  go_wp2_with fail
  refine (l3classes_any _ _ _ _ _ _ _ _ _ _ _ _ _ n0 ht.1 (by exact r0.below L1 (Nat.le_refl _))).mono ?_
  rintro e w2 ⟨b, cp, rfl, hbb, O, hb⟩
  have L2 := L1.trans (hb.mono L1.size)
  clear hb B1 L1 x0 x1 x2 x3
  generalize clsV l0 = c at *
  go_wp2_with fail
  go_loopw [3, 5] (fun v i wr => ∃ k : Nat, k ≤ 16 ∧ i = .int .i64 k ∧ v = .int .i64 ((k : Int) - ((linksK c k).length : Int)) ∧ Below w2.heap.size w2 wr) (fun _ i _ => 16 - (intOf i).toNat)
  case atStart => exact ⟨0, by omega, rfl, rfl, Below.refl _ _⟩
  case round =>
    obtain ⟨k, hk, rfl, rfl, hbw⟩ := hrel
    by_cases hlt : k < 16
    · have ev : wr.cell? ⟨b, k, none⟩ = some (.int .i64 (c.getD k 0)) := by rw [hbw.cell (p := ⟨b, k, none⟩) O.1]; exact O.2.2 k hlt
      have hkn : (k : Int) < 16 := by omega
      have hk0 : (0 : Int) ≤ (k : Int) := by omega
      have hle := linksK_le c k
      have HF := linksK_succ c k
      generalize c.getD k 0 = z at *
      by_cases hf : z = (k : Int)
      · have HF2 : Hid (linksK c (k + 1) = linksK c k) := by unfold Hid; rw [HF, if_pos hf, List.append_nil]
        clear HF
        generalize linksK c k = ls at *
        go_wp2
        go_roundw
        case rel => exact ⟨k + 1, by omega, by go_num, by rw [HF2.out]; go_num, hbw⟩
        case measure => simp [intOf]; omega
      · have HF2 : Hid ((linksK c (k + 1)).length = (linksK c k).length + 1) := by unfold Hid; rw [HF, if_neg hf, List.length_append]; rfl
        clear HF
        generalize linksK c k = ls at *
        go_wp2
        go_roundw
        case rel => exact ⟨k + 1, by omega, by go_num, by rw [HF2.out]; go_num, hbw⟩
        case measure => simp [intOf]; omega
    · have HG : Hid ((k : Int) - ((linksK c k).length : Int) = 16 - ((linksV c).length : Int)) := by unfold Hid linksV; rw [show k = 16 by omega]; rfl
      have hge : ¬ ((k : Int) < 16) := by omega
      generalize (k : Int) - ((linksK c k).length : Int) = q at *
      have L3 := L2.trans (hbw.mono L2.size)
      go_wp2
      go_ret
      exact ⟨by rw [HE.out, ← HG.out]; rfl, L3⟩

set_option maxRecDepth 3000 in
set_option maxHeartbeats 1000000 in
theorem iClassCount_any (a0 a1 a2 a3 : Option Addr) (c0 c1 c2 c3 : Nat) (l0 l1 l2 l3 : List (Int × Int)) (w : World)
    (n0 : l0.length ≤ 1048576) (n1 : l1.length ≤ 1048576) (n2 : l2.length ≤ 1048576) (n3 : l3.length ≤ 1048576)
    (r0 : PRow w a0 l0) (r1 : PRow w a1 l1) (r2 : PRow w a2 l2) (r3 : PRow w a3 l3) :
    Calls Try.prog 49 #[.agg #[.slice a0 l0.length c0, .slice a1 l1.length c1, .slice a2 l2.length c2, .slice a3 l3.length c3]] w fun e w' => e = .returned (.int .i64 (ccA l0 l1 l2 l3)) ∧ Below w.heap.size w w' := by
  have B0 := Box.new w (.slice a0 l0.length c0) (.slice a1 l1.length c1) (.slice a2 l2.length c2) (.slice a3 l3.length c3) 28
  have L0 : Below w.heap.size w (w.alloc (.cells #[.slice a0 l0.length c0, .slice a1 l1.length c1, .slice a2 l2.length c2, .slice a3 l3.length c3] 28)) := (Below.refl _ _).alloc (Nat.le_refl _) _
  go_enter Try.func49, Try.ntmps49
  go_wp2_with fail
  refine (iAsnOk_any _ _ _ _ _ _ _ _ _ _ _ _ _ n0 n1 n2 n3 (by exact r0.below L0 (Nat.le_refl _)) (by exact r1.below L0 (Nat.le_refl _)) (by exact r2.below L0 (Nat.le_refl _)) (by exact r3.below L0 (Nat.le_refl _))).mono ?_
  rintro e w1 ⟨rfl, hb⟩
  have B1 := B0.below hb B0.lt; have L1 := L0.trans (hb.mono L0.size)
  clear hb B0 L0
  cases ha : asnB l0 l1 l2 l3
  · have HE : Hid (ccA l0 l1 l2 l3 = 0) := by unfold Hid ccA; rw [ha]; rfl
    go_wp2
    go_ret
    exact ⟨by rw [HE.out]; rfl, L1⟩
  have HE : Hid (ccA l0 l1 l2 l3 = 16 - ((linksV (clsV l0)).length : Int)) := by unfold Hid ccA; rw [ha]; rfl
  have ht := asnB_toks ha
  have HC := (Cls.all ht.1).1
  replace HC : Hid ((clsV l0).length = 16) := HC
  clear ha
  have x0 := B1.c0; have x1 := B1.c1; have x2 := B1.c2; have x3 := B1.c3
  go_wp2_with fail
  refine (classesOf_any _ _ _ _ _ _ _ _ _ _ _ _ _ n0 ht.1 (by exact r0.below L1 (Nat.le_refl _))).mono ?_
  rintro e w2 ⟨rfl, hb⟩
  have L2 := L1.trans (hb.mono L1.size)
  clear hb B1 L1 x0 x1 x2 x3
  have hle := linksK_le (clsV l0) 16
  replace hle : (linksV (clsV l0)).length ≤ 16 := hle
  go_wp2_with fail
  refine (links_any (clsV l0) HC.out _).mono ?_
  rintro e w3 ⟨ag, cg, rfl, G, hb⟩
  have L3 := L2.trans (hb.mono L2.size)
  clear hb L2
  generalize (linksV (clsV l0)).length = q at *
  go_wp2
  go_ret
  exact ⟨by rw [HE.out]; go_num, L3⟩
end Go.Proofs.Ytiolgbckichneaa
