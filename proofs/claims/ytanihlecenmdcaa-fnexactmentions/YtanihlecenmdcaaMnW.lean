/-
  The walk of the law FnExactMentions.
-/
import Derived.Test.YtanihlecenmdcaaCSz
import Derived.Test.YtanihlecenmdcaaCTs
import Derived.Test.YtanihlecenmdcaaCEq
import Derived.Test.YtanihlecenmdcaaCMn
import Derived.Test.YtanihlecenmdcaaSMk
import Derived.Outline
namespace Go.Proofs.Ytanihlecenmdcaa.mentions
open Go.RowKit

theorem osBelow {w w' : World} {b hi B : Nat} {l : List Cm} (h : OsAt w (b + 1) hi b 0 l) (hb : Below B w w') (hB : hi ≤ B) (hbh : b < hi) : OsAt w' (b + 1) hi b 0 l :=
  h.keep _ _ _ _ _ (Eqf.of_below hb hB) (fun j _ _ => hb.cell (p := ⟨b, j, none⟩) (Nat.lt_of_lt_of_le hbh hB)) (fun j _ _ => hb.frozen (p := ⟨b, j, none⟩) (Nat.lt_of_lt_of_le hbh hB))

set_option maxRecDepth 20000 in
set_option maxHeartbeats 4000000 in
theorem walk (a : Option Addr) (cap : Nat) (l : List Cm) (w : World) (hr : CRow w 0 w.heap.size a l) :
    Calls Try.prog 18 #[.slice a l.length cap] w fun e w' => e = .returned (.bool true) ∧ Below w.heap.size w w' := by
  go_enter Try.func18, Try.ntmps18
  go_wp2_with fail
  refine (szCmdS_any l _ _ _ _ _ _ hr (Nat.le_refl _) (by omega) (by omega)).mono ?_
  rintro e w1 ⟨rfl, L1⟩
  by_cases hT : (1048576 : Int) < cnts l
  · rw [szI_neg hT]
    go_wp2
    go_ret
    exact ⟨rfl, L1⟩
  have hs : cnts l ≤ 1048576 := by omega
  obtain ⟨left, hl, hl0⟩ : ∃ left : Int, szI (cnts l) 1048576 = left ∧ ¬ left < 0 := ⟨_, rfl, by rw [szI_pos (by omega)]; omega⟩
  rw [hl]
  clear hl hT
  have hch := mentionsV_len l
  go_wp2_with fail
  refine (toCmdS_any l _ _ _ _ _ (by exact hr.below L1 (Nat.le_refl _)) (by exact L1.size) hs).mono ?_
  rintro e w2 ⟨b, rfl, g0, g1, O, hb⟩
  have L2 := L1.trans (hb.mono L1.size)
  have R2 := O.row g1 hs
  clear hb L1 O
  go_wp2_with fail
  refine (sMentions_any l _ _ _ _ _ R2 (Nat.le_refl _) hs).mono ?_
  rintro e w3 ⟨e0, k0, rfl, I3, hb⟩
  have L3 := L2.trans (hb.mono L2.size)
  clear hb L2 R2 g0 g1
  go_wp2_with fail
  refine (toCmdS_any l _ _ _ _ _ (by exact hr.below L3 (Nat.le_refl _)) (by exact L3.size) hs).mono ?_
  rintro e w4 ⟨d, rfl, f0, f1, O4, hb⟩
  have L4 := L3.trans (hb.mono L3.size)
  have h3 := L3.size
  have I4 := I3.below hb (Nat.le_refl _)
  clear hb L3 I3
  have R4 := O4.row f1 hs
  go_wp2_with fail
  refine (iMentions_any l _ _ _ _ _ R4 (Nat.le_refl _) hs).mono ?_
  rintro e w5 ⟨e1, k1, rfl, G5, hb⟩
  have L5 := L4.trans (hb.mono L4.size)
  have h34 : w3.heap.size ≤ w4.heap.size := by omega
  have h45 := hb.size
  have I5 := I4.below hb h34
  have O5 := osBelow O4 hb (Nat.le_refl _) f1
  have R5 := R4.below hb (Nat.le_refl _)
  clear hb L4 I4 O4 R4
  obtain ⟨v, hv⟩ : ∃ v, Hid (mentionsV l = v) := ⟨_, rfl⟩
  rw [hv.out] at hch G5 I5 ⊢
  generalize hp3 : w3.heap.size = p3 at *
  generalize hp4 : w4.heap.size = p4 at *
  clear hp3 hp4
  obtain ⟨p5, hp5⟩ : ∃ p5, p5 = w5.heap.size := ⟨_, rfl⟩
  rw [← hp5] at G5 h45
  have h5 : p5 ≤ w5.heap.size := Nat.le_of_eq hp5
  clear hp5
  go_wp2_with fail
  refine (S.eqIntS_rows _ _ _ _ _ _ _ _ _ v _ (by omega) G5 I5).mono ?_
  rintro e w6 ⟨rfl, hb⟩
  have L6 := L5.trans (hb.mono L5.size); have G6 := G5.below hb h5; have I6 := I5.below hb (Nat.le_trans (Nat.le_trans h34 h45) h5); have O6 := osBelow O5 hb (Nat.le_trans h45 h5) f1; have R6 := R5.below hb (Nat.le_trans h45 h5)
  have h6 := Nat.le_trans h5 hb.size
  clear hb L5 G5 I5 O5 R5 h5
  go_wp2_with fail
  refine (toCmdS_any l _ _ _ _ _ (by exact hr.below L6 (Nat.le_refl _)) (by exact L6.size) hs).mono ?_
  rintro e w7 ⟨c, rfl, c0, c1, O, hb⟩
  have L7 := L6.trans (hb.mono L6.size); have G7 := G6.below hb h6; have I7 := I6.below hb (Nat.le_trans (Nat.le_trans h34 h45) h6); have O7 := osBelow O6 hb (Nat.le_trans h45 h6) f1; have R7 := R6.below hb (Nat.le_trans h45 h6)
  have h7 := Nat.le_trans h6 hb.size
  have Rc := O.row c1 hs
  clear hb L6 G6 I6 O6 R6 O
  go_wp2_with fail
  refine (eqCmdS_any l _ _ _ _ _ _ _ _ _ R7 Rc (by exact Nat.le_trans h45 h7) (Nat.le_refl _) hs).mono ?_
  rintro e w8 ⟨rfl, hb⟩
  have L8 := L7.trans (hb.mono L7.size); have G8 := G7.below hb h7; have I8 := I7.below hb (Nat.le_trans (Nat.le_trans h34 h45) h7); have O8 := osBelow O7 hb (Nat.le_trans h45 h7) f1
  have h8 := Nat.le_trans h7 hb.size
  clear hb L7 G7 I7 O7 R7 Rc h7 h6 c0 c1
  go_wp2_with fail
  refine (markCmdS_any l _ _ _ _ 1 O8 (by omega) (by omega) f1 hs (by omega) (by omega)).mono ?_
  rintro e w9 ⟨k', rfl, k1', k2', ho⟩
  have L9 := L8.trans (ho.below (B := w.heap.size) (by omega) L8.size); have G9 := G8.out ho.toS (.inr (Nat.le_refl _)); have I9 := I8.out ho.toS (.inl f0)
  have h9 := Nat.le_trans h8 ho.size
  clear ho L8 G8 I8 O8 h8
  go_wp2_with fail
  refine (S.eqIntS_rows _ _ _ _ _ _ _ _ _ v _ (by omega) G9 I9).mono ?_
  rintro e w10 ⟨rfl, hb⟩
  have L10 := L9.trans (hb.mono L9.size); have G10 := G9.below hb h9; have I10 := I9.below hb (Nat.le_trans (Nat.le_trans h34 h45) h9)
  have h10 := Nat.le_trans h9 hb.size
  clear hb L9 G9 I9 h9
  go_wp2_with fail
  refine (S.markIntS_any _ _ _ _ _ 1 v _ (by omega) (by omega) (by omega) G10).mono ?_
  rintro e w11 ⟨rfl, G11, ho⟩
  have L11 := L10.trans (ho.below (B := w.heap.size) (by omega) L10.size); have I11 := I10.out ho (.inl h34)
  have h11 := Nat.le_trans h10 ho.size
  clear ho L10 G10 I10 h10
  go_wp2_with fail
  refine (S.heldIntS_any _ _ _ _ _ 1 _ (by omega) (by omega) (by omega) G11).mono ?_
  rintro e w12 ⟨rfl, rfl⟩
  go_wp2_with fail
  refine (toCmdS_any l _ _ _ _ _ (by exact hr.below L11 (Nat.le_refl _)) (by exact L11.size) hs).mono ?_
  rintro e w13 ⟨c, rfl, c0, c1, O, hb⟩
  have L13 := L11.trans (hb.mono L11.size); have G13 := G11.below hb h11; have I13 := I11.below hb (Nat.le_trans (Nat.le_trans h34 h45) h11)
  have h13 := Nat.le_trans h11 hb.size
  have Rc := O.row c1 hs
  clear hb L11 G11 I11 O
  go_wp2_with fail
  refine (iMentions_any l _ _ _ _ _ Rc (Nat.le_refl _) hs).mono ?_
  rintro e w14 ⟨e2, k2, rfl, H14, hb⟩
  have L14 := L13.trans (hb.mono L13.size); have G14 := G13.below hb h13; have I14 := I13.below hb (Nat.le_trans (Nat.le_trans h34 h45) h13)
  have h14 := Nat.le_trans h13 hb.size
  clear hb L13 G13 I13 Rc c0 c1
  rw [hv.out] at H14 ⊢
  go_wp2_with fail
  refine (S.eqIntS_rows _ _ _ _ _ _ _ _ _ v _ (by omega) H14 I14).mono ?_
  rintro e w15 ⟨rfl, hb⟩
  have L15 := L14.trans (hb.mono L14.size); have G15 := G14.below hb h14
  clear hb L14 G14 I14 H14
  go_wp2_with fail
  refine (S.heldIntS_any _ _ _ _ _ 1 _ (by omega) (by omega) (by omega) G15).mono ?_
  rintro e w16 ⟨rfl, rfl⟩
  go_wp2
  go_ret
  exact ⟨rfl, L15⟩

end Go.Proofs.Ytanihlecenmdcaa.mentions
