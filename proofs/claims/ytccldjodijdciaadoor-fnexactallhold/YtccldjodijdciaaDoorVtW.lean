/-
  The walk of the law FnExactVerdictText.
-/
import Derived.Test.YtccldjodijdciaaDoorVt
import Derived.Test.YtccldjodijdciaaDoorByt
namespace Go.Proofs.YtccldjodijdciaaDoor.verdict
open Go.RowKit

/-- The five words lie in the variable. -/
structure Lw (w : World) : Prop where
  c0 : w.cell? ⟨0, 0, none⟩ = some (.string ⟨#[104, 111, 108, 100, 115]⟩)
  c1 : w.cell? ⟨0, 1, none⟩ = some (.string ⟨#[102, 97, 117, 108, 116]⟩)
  c2 : w.cell? ⟨0, 2, none⟩ = some (.string ⟨#[112, 111, 115, 116]⟩)
  c3 : w.cell? ⟨0, 3, none⟩ = some (.string ⟨#[105, 110, 118, 97, 114, 105, 97, 110, 116]⟩)
  c4 : w.cell? ⟨0, 4, none⟩ = some (.string ⟨#[103, 97, 118, 101, 32, 117, 112]⟩)
theorem Lw.below {w w' : World} (h : Lw w) (hb : Below w.heap.size w w') : Lw w' := by
  have h0 : 0 < w.heap.size := World.block_lt_of_cell? _ _ h.c0
  exact ⟨(hb.cell (p := ⟨0, 0, none⟩) h0).trans h.c0, (hb.cell (p := ⟨0, 1, none⟩) h0).trans h.c1, (hb.cell (p := ⟨0, 2, none⟩) h0).trans h.c2, (hb.cell (p := ⟨0, 3, none⟩) h0).trans h.c3, (hb.cell (p := ⟨0, 4, none⟩) h0).trans h.c4⟩

set_option maxHeartbeats 1000000 in
theorem walk (t : Int) (w : World) (hL : Lw w) :
    Calls Tryd.prog 3 #[.int .i64 t] w fun e w' => e = .returned (.bool true) ∧ Below w.heap.size w w' := by
  have V := vw_le t
  obtain ⟨l, hl⟩ : ∃ l, vw t = l := ⟨_, rfl⟩
  have HV : Hid (vw t = l) := hl
  rw [hl] at V
  clear hl
  obtain ⟨n, hn⟩ : ∃ n, l.length = n := ⟨_, rfl⟩
  have HN : Hid (l.length = n) := hn
  rw [hn] at V
  clear hn
  go_enter Tryd.func3, Tryd.ntmps3
  go_wp2_with fail
  refine (sVerdict_any _ _).mono ?_
  rintro e w1 ⟨aw, cw, rfl, W1, L1⟩
  rw [HV.out, HN.out] at W1
  rw [HV.out, HN.out]
  go_wp2_with fail
  refine (iVerdict_any _ _ (hL.below L1).c0 (hL.below L1).c1 (hL.below L1).c2 (hL.below L1).c3 (hL.below L1).c4).mono ?_
  rintro e w2 ⟨ag, cg, rfl, G2, hb⟩
  rw [HV.out, HN.out] at G2
  rw [HV.out, HN.out]
  have W2 := W1.below hb (Nat.le_refl _)
  have L2 := L1.trans (hb.mono L1.size)
  have S1 := L1.size
  have Q2 := hb.size
  clear hb W1 L1
  generalize w1.heap.size = Y1 at *
  go_wp2_with fail
  refine (eqByteS_rows _ _ _ _ _ _ _ _ _ _ _ (by omega) (by exact G2) (by exact W2)).mono ?_
  rintro e w3 ⟨rfl, hb⟩
  have Y12 : Y1 ≤ w2.heap.size := Q2
  have W3 := W2.below hb Y12; have G3 := G2.below hb (Nat.le_refl _); have L3 := L2.trans (hb.mono L2.size)
  have S3 := hb.size
  generalize w2.heap.size = Y2 at *
  clear hb W2 G2 L2
  go_wp2_with fail
  refine (markByteS_any _ _ _ _ _ _ _ _ (by omega) (by omega) (by exact G3)).mono ?_
  rintro e w4 ⟨rfl, G4, ho⟩
  have W4 := W3.out ho (by omega)
  have L4 := L3.trans (ho.below (by omega) L3.size)
  have S4 : Y2 ≤ w4.heap.size := Nat.le_trans S3 ho.size
  clear ho W3 G3 L3 S3
  have M0 : ¬ ((1 : Int) + 1 * (n : Int) < 0) := by omega
  go_wp2_with fail
  refine (heldByteS_any _ _ _ _ _ _ _ (by omega) (by omega) (by exact G4)).mono ?_
  rintro e wx ⟨rfl, rfl⟩
  go_wp2_with fail
  refine (iVerdict_any _ _ (hL.below L4).c0 (hL.below L4).c1 (hL.below L4).c2 (hL.below L4).c3 (hL.below L4).c4).mono ?_
  rintro e w5 ⟨ah, ch, rfl, H5, hb⟩
  rw [HV.out, HN.out] at H5
  rw [HV.out, HN.out]
  have W5 := W4.below hb (by omega); have G5 := G4.below hb S4; have L5 := L4.trans (hb.mono L4.size)
  have S5 : Y2 ≤ w5.heap.size := Nat.le_trans S4 hb.size
  clear hb W4 G4 L4
  go_wp2_with fail
  refine (eqByteS_rows _ _ _ _ _ _ _ _ _ _ _ (by omega) (by exact H5) (by exact W5)).mono ?_
  rintro e w6 ⟨rfl, hb⟩
  have G6 := G5.below hb S5; have L6 := L5.trans (hb.mono L5.size)
  clear hb W5 G5 L5 H5
  go_wp2_with fail
  refine (heldByteS_any _ _ _ _ _ _ _ (by omega) (by omega) (by exact G6)).mono ?_
  rintro e wx ⟨rfl, rfl⟩
  go_wp2
  go_ret
  exact ⟨rfl, L6⟩

end Go.Proofs.YtccldjodijdciaaDoor.verdict
