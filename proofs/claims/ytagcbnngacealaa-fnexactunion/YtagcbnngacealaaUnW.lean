/-
  The walk of the law FnExactUnion.
-/
import Derived.Test.YtagcbnngacealaaMk
import Derived.Test.YtagcbnngacealaaUn
namespace Go.Proofs.Ytagcbnngacealaa.union
open Go.RowKit

set_option maxHeartbeats 8000000 in
theorem walk (a0 a1 : Option Addr) (c0 c1 : Nat) (l0 l1 : List Int) (a2 : Option Addr) (c2 : Nat) (l2 : List Int) (w : World) (m0 : l0.length ≤ maxLen) (m1 : l1.length ≤ maxLen) (r0 : IRow w a0 l0) (r1 : IRow w a1 l1) (m2 : l2.length ≤ maxLen) (r2 : IRow w a2 l2) :
    Calls Try.prog 11 #[.agg #[.slice a0 l0.length c0, .slice a1 l1.length c1], .slice a2 l2.length c2] w fun e w' => e = .returned (.bool true) ∧ Below w.heap.size w w' := by
  unfold maxLen at m2
  by_cases h2 : 1048576 < l2.length
  · have h2' : (1048576 : Int) < (l2.length : Int) := by omega
    go_enter Try.func11, Try.ntmps11
    go_wp2
    go_ret
    exact ⟨rfl, (Below.refl _ _).alloc (Nat.le_refl _) _⟩
  have n2 : l2.length ≤ 1048576 := by omega
  have h2' : ¬ (1048576 : Int) < (l2.length : Int) := by omega
  have A0 := Box.new w (.slice a0 l0.length c0) (.slice a1 l1.length c1) 41
  have L0 : Below w.heap.size w (w.alloc (.cells #[.slice a0 l0.length c0, .slice a1 l1.length c1] 41)) := (Below.refl _ _).alloc (Nat.le_refl _) _
  go_enter Try.func11, Try.ntmps11
  go_wp2_with fail
  refine (szState_any _ _ _ _ _ _ _ _ m0 m1 (by omega) (by omega)).mono ?_
  rintro e w1 ⟨rfl, hb⟩
  have A1 := A0.keep hb; have L1 := L0.trans (hb.mono L0.size)
  clear hb A0 L0
  have x0 := A1.c0; have x1 := A1.c1
  by_cases hT : 1048576 < l0.length + l1.length
  · rw [show szI ((l0.length : Int) + l1.length) 1048576 = -1 by unfold szI; rw [if_pos (by omega)]]
    go_wp2
    go_ret
    exact ⟨rfl, L1⟩
  have n0 : l0.length ≤ 1048576 := by omega
  have n1 : l1.length ≤ 1048576 := by omega
  obtain ⟨left, hl, hl0⟩ : ∃ left : Int, szI ((l0.length : Int) + l1.length) 1048576 = left ∧ ¬ left < 0 := ⟨_, rfl, by unfold szI; rw [if_neg (by omega)]; omega⟩
  rw [hl]
  clear hl hT
  clear h2 h2'
  go_wp2_with fail
  refine (toState_any _ _ _ _ _ _ _ n0 n1 (by exact r0.below L1 (Nat.le_refl _)) (by exact r1.below L1 (Nat.le_refl _))).mono ?_
  rintro e w2a ⟨b0, b1, rfl, -, -, o0, o1, hb⟩
  have A2 := A1.keep hb; have L2 := L1.trans (hb.mono L1.size)
  clear hb A1 L1 x0 x1
  go_wp2_with fail
  refine (toIntS_any _ _ _ _ n2 (by exact r2.below L2 (Nat.le_refl _))).mono ?_
  rintro e w2 ⟨b2, rfl, -, o2, hb⟩
  replace A2 := A2.keep hb; replace L2 := L2.trans (hb.mono L2.size); replace o0 := o0.keep hb; replace o1 := o1.keep hb
  clear hb
  go_wp2_with fail
  refine (sUnion_any _ _ _ _ _ _ _ _ _ _ n2 (by exact o2) n0 n1 (by exact o0) (by exact o1)).mono ?_
  rintro e w3 ⟨p0, p1, q0, q1, mi, rfl, hm0, hm1, W0, W1, hb⟩
  have A3 := A2.keep hb; have L3 := L2.trans (hb.mono L2.size)
  have S2 := L2.size
  have S3 := hb.size
  have Q2 := A2.lt
  generalize w2.heap.size = N2 at *
  clear hb A2 L2 o0 o1 o2
  have VT : (tOf l0 (unionO l0 l1 l2)).length ≤ 1048576 := Nat.le_trans (tOf_len _ _) n0
  have VH : ((unionO l0 l1 l2).getD []).length ≤ 1048576 := Nat.le_trans (unionO_len _ _ _) (by omega)
  generalize hG : (unionO l0 l1 l2).isSome = gg at *
  have HG : Hid ((unionO l0 l1 l2).isSome = gg) := hG
  clear hG
  generalize hT : tOf l0 (unionO l0 l1 l2) = lt at *
  have HT : Hid (tOf l0 (unionO l0 l1 l2) = lt) := hT
  clear hT
  generalize hV : (unionO l0 l1 l2).getD [] = lh at *
  have HV : Hid ((unionO l0 l1 l2).getD [] = lh) := hV
  clear hV
  generalize hn : lt.length = nt at *
  have HNT : Hid (lt.length = nt) := hn
  clear hn
  generalize hn : lh.length = nh at *
  have HNH : Hid (lh.length = nh) := hn
  clear hn
  have WB := Box.new w3 (.slice p0 nt q0) (.slice p1 nh q1) 44
  have a3 : Below w3.heap.size w3 (w3.alloc (.cells #[.slice p0 nt q0, .slice p1 nh q1] 44)) := (Below.refl _ _).alloc (Nat.le_refl _) _
  replace A3 := A3.keep a3; replace L3 := L3.trans (a3.mono L3.size); replace W0 := W0.below a3 hm1; replace W1 := W1.below a3 (Nat.le_refl _)
  clear a3
  have x0 := A3.c0; have x1 := A3.c1
  go_wp2_with fail
  refine (toState_any _ _ _ _ _ _ _ n0 n1 (by exact r0.below L3 (Nat.le_refl _)) (by exact r1.below L3 (Nat.le_refl _))).mono ?_
  rintro e w4a ⟨d0, d1, rfl, g0, g1, o0, o1, hb⟩
  rw [World.size_alloc] at g0
  have A4 := A3.keep hb; have L4 := L3.trans (hb.mono L3.size); have WB4 := WB.keep hb
  replace W0 := W0.below hb (by simp; omega); replace W1 := W1.below hb (by simp)
  have Q3 := A3.lt
  rw [World.size_alloc] at Q3
  clear hb A3 L3 WB x0 x1
  generalize w3.heap.size = N3 at *
  have E4 := o1.1
  have X4 := Box.new w4a (.slice (some ⟨d0, 0, none⟩) l0.length l0.length) (.slice (some ⟨d1, 0, none⟩) l1.length l1.length) 44
  have a4 : Below w4a.heap.size w4a (w4a.alloc (.cells #[.slice (some ⟨d0, 0, none⟩) l0.length l0.length, .slice (some ⟨d1, 0, none⟩) l1.length l1.length] 44)) := (Below.refl _ _).alloc (Nat.le_refl _) _
  replace A4 := A4.keep a4; replace L4 := L4.trans (a4.mono L4.size); replace WB4 := WB4.keep a4; replace o0 := o0.keep a4; replace o1 := o1.keep a4
  replace W0 := W0.below a4 (by omega); replace W1 := W1.below a4 (by omega)
  clear a4
  go_wp2_with fail
  refine (toIntS_any _ _ _ _ n2 (by exact r2.below L4 (Nat.le_refl _))).mono ?_
  rintro e w4 ⟨d2, rfl, g2, o2, hb⟩
  rw [World.size_alloc] at g2
  replace A4 := A4.keep hb; replace L4 := L4.trans (hb.mono L4.size); replace WB4 := WB4.keep hb; replace o0 := o0.keep hb; replace o1 := o1.keep hb; replace X4 := X4.keep hb
  replace W0 := W0.below hb (by simp; omega); replace W1 := W1.below hb (by simp; omega)
  have E5 := o2.1
  clear hb
  generalize w4a.heap.size = N4a at *
  have y0 := X4.c0; have y1 := X4.c1
  go_wp2_with fail
  clear y0 y1
  refine (iUnion_any _ _ _ _ _ _ _ _ _ _ n2 (by exact o2) n0 n1 (by exact o0) (by exact o1)).mono ?_
  rintro e w5 ⟨s0, s1, t0, t1, mg, rfl, hg0, hg1, G0, G1, hb⟩
  rw [HT.out, HNT.out] at G0
  rw [HV.out, HNH.out] at G1
  rw [HT.out, HNT.out, HV.out, HNH.out, HG.out]
  have A5 := A4.keep hb; have L5 := L4.trans (hb.mono L4.size); have WB5 := WB4.keep hb; have X5 := X4.keep hb
  replace o0 := o0.keep hb; replace o1 := o1.keep hb; replace o2 := o2.keep hb
  replace W0 := W0.below hb (by omega); replace W1 := W1.below hb (by omega)
  have S5 := hb.size
  clear hb A4 L4 WB4 X4
  generalize w4.heap.size = N4 at *
  have GB := Box.new w5 (.slice s0 nt t0) (.slice s1 nh t1) 44
  have a5 : Below w5.heap.size w5 (w5.alloc (.cells #[.slice s0 nt t0, .slice s1 nh t1] 44)) := (Below.refl _ _).alloc (Nat.le_refl _) _
  replace A5 := A5.keep a5; replace L5 := L5.trans (a5.mono L5.size); replace WB5 := WB5.keep a5; replace X5 := X5.keep a5; replace o0 := o0.keep a5; replace o1 := o1.keep a5; replace o2 := o2.keep a5
  replace W0 := W0.below a5 (by omega); replace W1 := W1.below a5 (by omega); replace G0 := G0.below a5 (by omega); replace G1 := G1.below a5 (Nat.le_refl _)
  have u5 : (w5.alloc (.cells #[.slice s0 nt t0, .slice s1 nh t1] 44)).heap.size = w5.heap.size + 1 := by simp
  clear a5
  have v0 := WB5.c0; have v1 := WB5.c1
  go_wp2_with fail
  clear v0 v1
  refine (eqState_rows N4 mg mg w5.heap.size N2 mi mi N3 _ _ _ _ _ _ _ _ _ _ _ _ _ VT VH (by exact G0) (by exact G1) (by exact W0) (by exact W1) (by omega) (by omega) (by omega) (by omega)).mono ?_
  rintro e w6 ⟨rfl, hb⟩
  have S6 := hb.size
  have X6 := X5.keep hb; have A6 := A5.keep hb; have L6 := L5.trans (hb.mono L5.size); have WB6 := WB5.keep hb; have GB6 := GB.keep hb
  replace o0 := o0.keep hb; replace o1 := o1.keep hb; replace o2 := o2.keep hb
  replace W0 := W0.below hb (by omega); replace W1 := W1.below hb (by omega); replace G0 := G0.below hb (by omega); replace G1 := G1.below hb (by omega)
  rw [u5] at S6
  clear hb X5 A5 L5 WB5 GB u5
  generalize w5.heap.size = N5 at *
  have x0 := A6.c0; have x1 := A6.c1
  have y0 := X6.c0; have y1 := X6.c1
  go_wp2_with fail
  go_region_with (first
    | (go_at_call 31; refine (toState_any _ _ _ _ _ _ _ n0 n1 ?_ ?_).mono ?_; exact r0.below L6.drew (Nat.le_refl _); exact r1.below L6.drew (Nat.le_refl _); rintro e w7 ⟨f0, f1, rfl, -, -, k0, k1, hb7⟩; have X7 := X6.drew.below hb7 X6.lt; have z0 := X7.c0; have z1 := X7.c1; clear X7)
    | (go_at_call 33; refine (eqState_rows 0 w7.heap.size 0 w7.heap.size 0 w7.heap.size 0 w7.heap.size _ _ _ _ _ _ _ _ _ _ l0 l1 _ n0 n1 ?_ ?_ ?_ ?_ (Nat.le_refl _) (Nat.le_refl _) (Nat.le_refl _) (Nat.le_refl _)).mono ?_; exact IntIn.ofOwn (o0.drew.below hb7 o0.1) rfl (Nat.zero_le _) (o0.drew.below hb7 o0.1).1; exact IntIn.ofOwn (o1.drew.below hb7 o1.1) rfl (Nat.zero_le _) (o1.drew.below hb7 o1.1).1; exact IntIn.ofOwn k0 rfl (Nat.zero_le _) k0.1; exact IntIn.ofOwn k1 rfl (Nat.zero_le _) k1.1; rintro e w8 ⟨rfl, hb8⟩))
  all_goals
    have hb : Below w6.heap.size w6 w8 := ((Below.refl _ _).drew.trans hb7).trans (hb8.mono (by have := hb7.size; simpa using this))
    have S8 := hb.size
    have X8 := X6.keep hb; have A8 := A6.keep hb; have L8 := L6.trans (hb.mono L6.size); have WB8 := WB6.keep hb; have GB8 := GB6.keep hb
    replace o0 := o0.keep hb; replace o1 := o1.keep hb; replace o2 := o2.keep hb
    replace W0 := W0.below hb (by omega); replace W1 := W1.below hb (by omega); replace G0 := G0.below hb (by omega); replace G1 := G1.below hb (by omega)
    clear hb hb7 hb8 k0 k1 z0 z1 x0 x1 y0 y1 X6 A6 L6 WB6 GB6
    go_wp2_with fail
    refine (toIntS_any _ _ _ _ n2 (by exact r2.below L8 (Nat.le_refl _))).mono ?_
    rintro e w8a ⟨f2, rfl, -, k2, hb⟩
    have S8a := hb.size
    replace X8 := X8.keep hb; replace A8 := A8.keep hb; replace L8 := L8.trans (hb.mono L8.size); replace WB8 := WB8.keep hb; replace GB8 := GB8.keep hb; replace o0 := o0.keep hb; replace o1 := o1.keep hb; replace o2 := o2.keep hb; replace W0 := W0.below hb (by omega); replace W1 := W1.below hb (by omega); replace G0 := G0.below hb (by omega); replace G1 := G1.below hb (by omega)
    clear hb
    go_wp2_with fail
    refine (eqIntS_rows 0 w8a.heap.size 0 w8a.heap.size _ _ _ _ _ l2 _ n2 (by exact IntIn.ofOwn o2 rfl (Nat.zero_le _) o2.1) (by exact IntIn.ofOwn k2 rfl (Nat.zero_le _) k2.1)).mono ?_
    rintro e w8b ⟨rfl, hb⟩
    have S8b := hb.size
    replace X8 := X8.keep hb; replace A8 := A8.keep hb; replace L8 := L8.trans (hb.mono L8.size); replace WB8 := WB8.keep hb; replace GB8 := GB8.keep hb; replace o0 := o0.keep hb; replace o1 := o1.keep hb; replace o2 := o2.keep hb; replace W0 := W0.below hb (by omega); replace W1 := W1.below hb (by omega); replace G0 := G0.below hb (by omega); replace G1 := G1.below hb (by omega)
    clear hb k2
    have y0 := X8.c0; have y1 := X8.c1
    go_wp2_with fail
    clear y0 y1
    refine (markState_any d0 d1 (d1 + 1) _ _ _ _ _ _ l0 l1 _ _ (by omega) (by omega) (by omega) (by omega) (by omega) (by omega) (by have := o1.1; omega) (by exact IntIn.ofOwn o0 rfl (Nat.le_refl _) g1) (by exact IntIn.ofOwn o1 rfl (Nat.le_refl _) (by omega))).mono ?_
    rintro e w9 ⟨rfl, -, -, ho⟩
    have S9 := ho.size
    have A9 := A8.out ho (by omega); have WB9 := WB8.out ho (by omega); have GB9 := GB8.out ho (by omega)
    have L9 := L8.trans (ho.below (by omega) L8.size)
    replace W0 := W0.out ho (by omega); replace W1 := W1.out ho (by omega); replace G0 := G0.out ho (by omega); replace G1 := G1.out ho (by omega)
    replace o2 := o2.out ho (by omega)
    clear ho X8 A8 L8 WB8 GB8 o0 o1
    obtain ⟨K, hK, hK0, hK1⟩ : ∃ K : Int, (1 + (l0.length : Int) + l1.length) = K ∧ 0 ≤ K ∧ K ≤ 4194304 := ⟨_, rfl, by omega, by omega⟩
    rw [hK]
    clear hK
    go_wp2_with fail
    refine (markIntS_any d2 (d2 + 1) _ _ _ _ l2 _ (by omega) (by omega) (by omega) (by exact IntIn.ofOwn o2 rfl (Nat.le_refl _) (by omega))).mono ?_
    rintro e w9b ⟨rfl, -, ho⟩
    have S9b := ho.size
    replace A9 := A9.out ho (by omega); replace WB9 := WB9.out ho (by omega); replace GB9 := GB9.out ho (by omega)
    replace L9 := L9.trans (ho.below (by omega) L9.size)
    replace W0 := W0.out ho (by omega); replace W1 := W1.out ho (by omega); replace G0 := G0.out ho (by omega); replace G1 := G1.out ho (by omega)
    clear ho o2
    have K9 : ¬ (K + 1 * (l2.length : Int) < 0) := by omega
    have v0 := WB9.c0; have v1 := WB9.c1; have y0 := GB9.c0; have y1 := GB9.c1
    go_wp2_with fail
    clear v0 v1 y0 y1
    refine (eqState_rows N4 mg mg N5 N2 mi mi N3 _ _ _ _ _ _ _ _ _ _ _ _ _ VT VH (by exact G0) (by exact G1) (by exact W0) (by exact W1) (by omega) (by omega) (by omega) (by omega)).mono ?_
    rintro e w10 ⟨rfl, hb⟩
    have S10 := hb.size
    have A10 := A9.keep hb; have L10 := L9.trans (hb.mono L9.size); have WB10 := WB9.keep hb; have GB10 := GB9.keep hb
    replace W0 := W0.below hb (by omega); replace W1 := W1.below hb (by omega); replace G0 := G0.below hb (by omega); replace G1 := G1.below hb (by omega)
    clear hb A9 L9 WB9 GB9
    have y0 := GB10.c0; have y1 := GB10.c1
    go_wp2_with fail
    clear y0 y1
    refine (markState_any N4 mg N5 _ _ _ _ _ _ lt lh _ _ (by omega) (by omega) (by omega) (by omega) (by omega) (by omega) (by omega) (by exact G0) (by exact G1)).mono ?_
    rintro e w11 ⟨rfl, M0, M1, ho⟩
    have S11 := ho.size
    have A11 := A10.out ho (by omega); have WB11 := WB10.out ho (by omega); have GB11 := GB10.out ho (by omega)
    have L11 := L10.trans (ho.below (by omega) L10.size)
    replace W0 := W0.out ho (by omega); replace W1 := W1.out ho (by omega)
    clear ho A10 L10 WB10 GB10 G0 G1
    have M9 : ¬ ((1 : Int) + (nt : Int) + (nh : Int) < 0) := by omega
    have y0 := GB11.c0; have y1 := GB11.c1
    go_wp2_with fail
    clear y0 y1
    refine (heldState_any N4 mg N5 _ _ _ _ _ _ _ _ (by omega) (by omega) (by omega) (by omega) (by omega) (by omega) (by omega) (by exact M0) (by exact M1)).mono ?_
    rintro e w12 ⟨rfl, hb⟩
    have S12 := hb.size
    have A12 := A11.keep hb; have L12 := L11.trans (hb.mono L11.size); have WB12 := WB11.keep hb; have GB12 := GB11.keep hb
    replace W0 := W0.below hb (by omega); replace W1 := W1.below hb (by omega); replace M0 := M0.below hb (by omega); replace M1 := M1.below hb (by omega)
    clear hb A11 L11 WB11 GB11
    have x0 := A12.c0; have x1 := A12.c1
    go_wp2_with fail
    refine (toState_any _ _ _ _ _ _ _ n0 n1 (by exact r0.below L12 (Nat.le_refl _)) (by exact r1.below L12 (Nat.le_refl _))).mono ?_
    rintro e w13a ⟨k0, k1, rfl, -, -, o0, o1, hb⟩
    have S13 := hb.size
    have L13 := L12.trans (hb.mono L12.size); have WB13 := WB12.keep hb; have GB13 := GB12.keep hb
    replace W0 := W0.below hb (by omega); replace W1 := W1.below hb (by omega); replace M0 := M0.below hb (by omega); replace M1 := M1.below hb (by omega)
    clear hb A12 L12 WB12 GB12 x0 x1
    go_wp2_with fail
    refine (toIntS_any _ _ _ _ n2 (by exact r2.below L13 (Nat.le_refl _))).mono ?_
    rintro e w13 ⟨kq, rfl, -, o2, hb⟩
    have S13b := hb.size
    replace L13 := L13.trans (hb.mono L13.size); replace WB13 := WB13.keep hb; replace GB13 := GB13.keep hb; replace o0 := o0.keep hb; replace o1 := o1.keep hb
    replace W0 := W0.below hb (by omega); replace W1 := W1.below hb (by omega); replace M0 := M0.below hb (by omega); replace M1 := M1.below hb (by omega)
    clear hb
    go_wp2_with fail
    refine (iUnion_any _ _ _ _ _ _ _ _ _ _ n2 (by exact o2) n0 n1 (by exact o0) (by exact o1)).mono ?_
    rintro e w14 ⟨e0, e1, c4, c5, mh, rfl, hh0, hh1, H0, H1, hb⟩
    rw [HT.out, HNT.out] at H0
    rw [HV.out, HNH.out] at H1
    rw [HT.out, HNT.out, HV.out, HNH.out, HG.out]
    have S14 := hb.size
    have L14 := L13.trans (hb.mono L13.size); have WB14 := WB13.keep hb; have GB14 := GB13.keep hb
    replace W0 := W0.below hb (by omega); replace W1 := W1.below hb (by omega); replace M0 := M0.below hb (by omega); replace M1 := M1.below hb (by omega)
    clear hb L13 WB13 GB13 o0 o1 o2
    have a14 : Below w14.heap.size w14 (w14.alloc (.cells #[.slice e0 nt c4, .slice e1 nh c5] 44)) := (Below.refl _ _).alloc (Nat.le_refl _) _
    replace L14 := L14.trans (a14.mono L14.size); replace WB14 := WB14.keep a14; replace GB14 := GB14.keep a14
    replace W0 := W0.below a14 (by omega); replace W1 := W1.below a14 (by omega); replace M0 := M0.below a14 (by omega); replace M1 := M1.below a14 (by omega); replace H0 := H0.below a14 (by omega); replace H1 := H1.below a14 (Nat.le_refl _)
    clear a14
    have v0 := WB14.c0; have v1 := WB14.c1
    go_wp2_with fail
    clear v0 v1
    refine (eqState_rows _ mh mh w14.heap.size N2 mi mi N3 _ _ _ _ _ _ _ _ _ _ _ _ _ VT VH (by exact H0) (by exact H1) (by exact W0) (by exact W1) (by simp; omega) (by simp) (by simp; omega) (by simp; omega)).mono ?_
    rintro e w15 ⟨rfl, hb⟩
    have S15 := hb.size
    have L15 := L14.trans (hb.mono L14.size); have GB15 := GB14.keep hb
    replace M0 := M0.below hb (by simp; omega); replace M1 := M1.below hb (by simp; omega)
    rw [World.size_alloc] at S15
    clear hb L14 WB14 GB14 H0 H1 W0 W1
    have y0 := GB15.c0; have y1 := GB15.c1
    go_wp2_with fail
    clear y0 y1
    refine (heldState_any N4 mg N5 _ _ _ _ _ _ _ _ (by omega) (by omega) (by omega) (by omega) (by omega) (by omega) (by omega) (by exact M0) (by exact M1)).mono ?_
    rintro e w16 ⟨rfl, hb⟩
    have L16 := L15.trans (hb.mono L15.size)
    clear hb
    go_wp2
    go_ret
    exact ⟨rfl, L16⟩

end Go.Proofs.Ytagcbnngacealaa.union
