/-
  The walk of the law FnExactTermText.
-/
import Derived.Test.YtdngolfhfljenaaDoorTxt
import Derived.Test.YtdngolfhfljenaaDoorByt
namespace Go.Proofs.YtdngolfhfljenaaDoor.termText
open Go.RowKit

set_option maxHeartbeats 1000000 in
theorem walk (t : Int) (w : World) :
    Calls Tryd.prog 5 #[.int .i64 t] w fun e w' => e = .returned (.bool true) ∧ Below w.heap.size w w' := by
  have V := tt_le t
  obtain ⟨l, hl⟩ : ∃ l, textV t = l := ⟨_, rfl⟩
  have HV : Hid (textV t = l) := hl
  rw [hl] at V
  clear hl
  obtain ⟨n, hn⟩ : ∃ n, l.length = n := ⟨_, rfl⟩
  have HN : Hid (l.length = n) := hn
  rw [hn] at V
  clear hn
  go_enter Tryd.func5, Tryd.ntmps5
  go_wp2_with fail
  refine (sTermText_any _ _).mono ?_
  rintro e w1 ⟨aw, cw, rfl, W1, L1⟩
  rw [HV.out, HN.out] at W1
  rw [HV.out, HN.out]
  go_wp2_with fail
  refine (iTermText_any _ _).mono ?_
  rintro e w2 ⟨ag, cg, rfl, G2, hb⟩
  rw [HV.out, HN.out] at G2
  rw [HV.out, HN.out]
  have W2 := W1.below hb (Nat.le_refl _)
  have L2 := L1.trans (hb.mono L1.size)
  have S1 := L1.size
  have Q2 := hb.size
  clear hb W1 L1
  generalize w1.heap.size = Y1 at *
  go_wp2_with fail
  refine (eqByteS_rows _ _ _ _ _ _ _ _ _ _ _ (by omega) (by exact G2) (by exact W2)).mono ?_
  rintro e w3 ⟨rfl, hb⟩
  have Y12 : Y1 ≤ w2.heap.size := Q2
  have W3 := W2.below hb Y12; have G3 := G2.below hb (Nat.le_refl _); have L3 := L2.trans (hb.mono L2.size)
  have S3 := hb.size
  generalize w2.heap.size = Y2 at *
  clear hb W2 G2 L2
  go_wp2_with fail
  refine (markByteS_any _ _ _ _ _ _ _ _ (by omega) (by omega) (by exact G3)).mono ?_
  rintro e w4 ⟨rfl, G4, ho⟩
  have W4 := W3.out ho (by omega)
  have L4 := L3.trans (ho.below (by omega) L3.size)
  have S4 : Y2 ≤ w4.heap.size := Nat.le_trans S3 ho.size
  clear ho W3 G3 L3 S3
  have M0 : ¬ ((1 : Int) + 1 * (n : Int) < 0) := by omega
  go_wp2_with fail
  refine (heldByteS_any _ _ _ _ _ _ _ (by omega) (by omega) (by exact G4)).mono ?_
  rintro e wx ⟨rfl, rfl⟩
  go_wp2_with fail
  refine (iTermText_any _ _).mono ?_
  rintro e w5 ⟨ah, ch, rfl, H5, hb⟩
  rw [HV.out, HN.out] at H5
  rw [HV.out, HN.out]
  have W5 := W4.below hb (by omega); have G5 := G4.below hb S4; have L5 := L4.trans (hb.mono L4.size)
  have S5 : Y2 ≤ w5.heap.size := Nat.le_trans S4 hb.size
  clear hb W4 G4 L4
  go_wp2_with fail
  refine (eqByteS_rows _ _ _ _ _ _ _ _ _ _ _ (by omega) (by exact H5) (by exact W5)).mono ?_
  rintro e w6 ⟨rfl, hb⟩
  have G6 := G5.below hb S5; have L6 := L5.trans (hb.mono L5.size)
  clear hb W5 G5 L5 H5
  go_wp2_with fail
  refine (heldByteS_any _ _ _ _ _ _ _ (by omega) (by omega) (by exact G6)).mono ?_
  rintro e wx ⟨rfl, rfl⟩
  go_wp2
  go_ret
  exact ⟨rfl, L6⟩

end Go.Proofs.YtdngolfhfljenaaDoor.termText
