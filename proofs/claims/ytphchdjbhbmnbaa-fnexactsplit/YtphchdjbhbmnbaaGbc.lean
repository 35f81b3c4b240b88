/-
  Plain lemmas and contracts of functions for the other texts of this seat: SplW, Open, Ini.
-/
import Derived.Test.YtphchdjbhbmnbaaGaa
import Derived.Test.YtphchdjbhbmnbaaGab
import Derived.Deep.RegionHeld3
import Derived.Deep.DeepCutAuto
import Derived.Test.YtphchdjbhbmnbaaGbb
import Derived.Test.YtphchdjbhbmnbaaRows
import Derived.WalkKit
import Derived.ProofKit
import Derived.Lib.SmallJoins
import Derived.Deep.SlicePairs
import Derived.Test.YtphchdjbhbmnbaaChecked
import Derived.OpenShut
import Derived.ChangeOld
namespace Go.Proofs.Ytphchdjbhbmnbaa.split
open Go.RowKit

theorem cell_keep {w u : World} {b o : Nat} {v : Value} (h : w.cell? ⟨b, o, none⟩ = some v) (hb : Below w.heap.size w u) : u.cell? ⟨b, o, none⟩ = some v := by
  rw [hb.cell (p := ⟨b, o, none⟩) (World.block_lt_of_cell? _ _ h)]; exact h

set_option maxRecDepth 20000 in
set_option maxHeartbeats 16000000 in
theorem walk (a00 a01 a02 a03 : Option Addr) (c00 c01 c02 c03 : Nat) (l00 l01 l02 l03 : List (Int × Int)) (x1 : Int) (w : World)
    (m00 : l00.length ≤ maxLen) (m01 : l01.length ≤ maxLen) (m02 : l02.length ≤ maxLen) (m03 : l03.length ≤ maxLen) (r00 : PRow w a00 l00) (r01 : PRow w a01 l01) (r02 : PRow w a02 l02) (r03 : PRow w a03 l03) :
    Calls Try.prog 24 #[.agg #[.slice a00 l00.length c00, .slice a01 l01.length c01, .slice a02 l02.length c02, .slice a03 l03.length c03], .int .i64 x1] w fun e w' => e = .returned (.bool true) ∧ Below w.heap.size w w' := by
  have P0 := Box.new w (.slice a00 l00.length c00) (.slice a01 l01.length c01) (.slice a02 l02.length c02) (.slice a03 l03.length c03) 24
  have L : Below w.heap.size w (w.alloc (.cells #[.slice a00 l00.length c00, .slice a01 l01.length c01, .slice a02 l02.length c02, .slice a03 l03.length c03] 24)) := ((Below.refl _ _).alloc (by first | exact Nat.le_refl _ | (simp; done) | (simp; omega)) _)
  go_enter Try.func24, Try.ntmps24
  go_wp2_with fail
  refine (szAsn_any _ _ _ _ _ _ _ _ _ _ _ _ _ _ m00 m01 m02 m03 (by omega) (by omega)).mono ?_
  rintro e ws0 ⟨rfl, hb⟩
  replace P0 := P0.below hb P0.lt; replace L := L.trans (hb.mono L.size)
  clear hb
  by_cases hT : 1048576 < (l00.length : Int) + l01.length + l02.length + l03.length
  · rw [show szI ((l00.length : Int) + l01.length + l02.length + l03.length) 1048576 = -1 by unfold szI; rw [if_pos (by omega)]]
    go_wp2
    go_ret
    exact ⟨rfl, L⟩
  have n00 : l00.length ≤ 1048576 := by omega
  have n01 : l01.length ≤ 1048576 := by omega
  have n02 : l02.length ≤ 1048576 := by omega
  have n03 : l03.length ≤ 1048576 := by omega
  obtain ⟨left0, hl0, hl00, hl01⟩ : ∃ left : Int, szI ((l00.length : Int) + l01.length + l02.length + l03.length) 1048576 = left ∧ ¬ left < 0 ∧ left ≤ 1048576 := ⟨_, rfl, by unfold szI; rw [if_neg (by omega)]; omega, by unfold szI; rw [if_neg (by omega)]; omega⟩
  rw [hl0]
  clear hl0 hT
  clear hl01
  have x0' := P0.c0; have x1' := P0.c1; have x2' := P0.c2; have x3' := P0.c3
  go_wp2_with fail
  clear x0' x1' x2' x3'
  refine (toAsn_any _ _ _ _ _ _ _ _ _ _ _ _ _ n00 n01 n02 n03 (by exact r00.below L (Nat.le_refl _)) (by exact r01.below L (Nat.le_refl _)) (by exact r02.below L (Nat.le_refl _)) (by exact r03.below L (Nat.le_refl _))).mono ?_
  rintro e bw ⟨b00, b01, b02, b03, rfl, -, -, -, -, O00, O01, O02, O03, hb⟩
  replace P0 := P0.below hb P0.lt; replace L := L.trans (hb.mono L.size)
  clear hb
  go_wp2_with fail
  refine (sSpl n00 n01 n02 n03 (by exact O00) (by exact O01) (by exact O02) (by exact O03)).mono ?_
  rintro e w3 ⟨p0, p1, p2, p3, q0, q1, q2, q3, u0, u1, u2, u3, v0, v1, v2, v3, rfl, W, V, hb⟩
  replace P0 := P0.below hb P0.lt; replace L := L.trans (hb.mono L.size)
  clear O00 O01 O02 O03
  clear hb
  have FF := sp_le l00 l01 l02 l03 x1
  generalize hO : splB l00 l01 l02 l03 x1 = ok at *
  have HO : Hid (splB l00 l01 l02 l03 x1 = ok) := hO
  clear hO
  generalize hU : spU l00 l01 l02 l03 x1 = U at *
  have HU : Hid (spU l00 l01 l02 l03 x1 = U) := hU
  clear hU
  generalize hX : spX l00 l01 l02 l03 x1 = X at *
  have HX : Hid (spX l00 l01 l02 l03 x1 = X) := hX
  clear hX
  obtain ⟨⟨V0, V1, V2, V3⟩, Y0, Y1, Y2, Y3⟩ := FF
  have zP0 := P0.lt
  have WA := (Box.new w3 (.slice p0 U.1.length q0) (.slice p1 U.2.1.length q1) (.slice p2 U.2.2.1.length q2) (.slice p3 U.2.2.2.length q3) 28).alloc (.cells #[.slice u0 X.1.length v0, .slice u1 X.2.1.length v1, .slice u2 X.2.2.1.length v2, .slice u3 X.2.2.2.length v3] 28)
  have WB := Box.new (w3.alloc (.cells #[.slice p0 U.1.length q0, .slice p1 U.2.1.length q1, .slice p2 U.2.2.1.length q2, .slice p3 U.2.2.2.length q3] 28)) (.slice u0 X.1.length v0) (.slice u1 X.2.1.length v1) (.slice u2 X.2.2.1.length v2) (.slice u3 X.2.2.2.length v3) 28
  rw [World.size_alloc] at WB
  have al : Below w3.heap.size w3 ((w3.alloc (.cells #[.slice p0 U.1.length q0, .slice p1 U.2.1.length q1, .slice p2 U.2.2.1.length q2, .slice p3 U.2.2.2.length q3] 28)).alloc (.cells #[.slice u0 X.1.length v0, .slice u1 X.2.1.length v1, .slice u2 X.2.2.1.length v2, .slice u3 X.2.2.2.length v3] 28)) := ((Below.refl _ _).alloc (Nat.le_refl _) _).alloc (by simp) _
  have za : ((w3.alloc (.cells #[.slice p0 U.1.length q0, .slice p1 U.2.1.length q1, .slice p2 U.2.2.1.length q2, .slice p3 U.2.2.2.length q3] 28)).alloc (.cells #[.slice u0 X.1.length v0, .slice u1 X.2.1.length v1, .slice u2 X.2.2.1.length v2, .slice u3 X.2.2.2.length v3] 28)).heap.size = w3.heap.size + 2 := by simp
  replace P0 := P0.below al P0.lt; replace L := L.trans (al.mono L.size); replace W := W.below al (by omega); replace V := V.below al (by omega)
  clear al
  have SW : w3.heap.size + 2 ≤ ((w3.alloc (.cells #[.slice p0 U.1.length q0, .slice p1 U.2.1.length q1, .slice p2 U.2.2.1.length q2, .slice p3 U.2.2.2.length q3] 28)).alloc (.cells #[.slice u0 X.1.length v0, .slice u1 X.2.1.length v1, .slice u2 X.2.2.1.length v2, .slice u3 X.2.2.2.length v3] 28)).heap.size := Nat.le_of_eq za.symm
  have P00' := P0.c0; have P01' := P0.c1; have P02' := P0.c2; have P03' := P0.c3
  go_wp2_with fail
  clear P00' P01' P02' P03'
  refine (toAsn_any _ _ _ _ _ _ _ _ _ _ _ _ _ n00 n01 n02 n03 (by exact r00.below L (Nat.le_refl _)) (by exact r01.below L (Nat.le_refl _)) (by exact r02.below L (Nat.le_refl _)) (by exact r03.below L (Nat.le_refl _))).mono ?_
  rintro e wx0 ⟨d00, d01, d02, d03, rfl, g00, g01, g02, g03, o00, o01, o02, o03, hb⟩
  replace P0 := P0.below hb P0.lt; replace L := L.trans (hb.mono L.size); replace W := W.below hb (by omega); replace V := V.below hb (by omega)
  replace WA := WA.below hb WA.lt; replace WB := WB.below hb WB.lt; replace SW := Nat.le_trans SW hb.size
  rw [za] at g00
  clear hb za
  generalize w3.heap.size = Yw3 at *
  have DD0 : d03 < wx0.heap.size := o03.1
  have D0 := o03.1
  replace D0 : d03 + 1 ≤ wx0.heap.size := D0
  have X0 := Box.new wx0 (.slice (some ⟨d00, 0, none⟩) l00.length l00.length) (.slice (some ⟨d01, 0, none⟩) l01.length l01.length) (.slice (some ⟨d02, 0, none⟩) l02.length l02.length) (.slice (some ⟨d03, 0, none⟩) l03.length l03.length) 28
  have al : Below wx0.heap.size wx0 (wx0.alloc (.cells #[.slice (some ⟨d00, 0, none⟩) l00.length l00.length, .slice (some ⟨d01, 0, none⟩) l01.length l01.length, .slice (some ⟨d02, 0, none⟩) l02.length l02.length, .slice (some ⟨d03, 0, none⟩) l03.length l03.length] 28)) := (Below.refl _ _).alloc (Nat.le_refl _) _
  have za : (wx0.alloc (.cells #[.slice (some ⟨d00, 0, none⟩) l00.length l00.length, .slice (some ⟨d01, 0, none⟩) l01.length l01.length, .slice (some ⟨d02, 0, none⟩) l02.length l02.length, .slice (some ⟨d03, 0, none⟩) l03.length l03.length] 28)).heap.size = wx0.heap.size + 1 := by simp
  replace P0 := P0.below al P0.lt; replace L := L.trans (al.mono L.size); replace W := W.below al (by omega); replace V := V.below al (by omega)
  replace WA := WA.below al WA.lt; replace WB := WB.below al WB.lt; replace o00 := o00.below al o00.1; replace o01 := o01.below al o01.1
  replace o02 := o02.below al o02.1; replace o03 := o03.below al o03.1; replace SW := Nat.le_trans SW al.size; replace D0 := Nat.le_trans D0 al.size
  clear al
  have SX : wx0.heap.size + 1 ≤ (wx0.alloc (.cells #[.slice (some ⟨d00, 0, none⟩) l00.length l00.length, .slice (some ⟨d01, 0, none⟩) l01.length l01.length, .slice (some ⟨d02, 0, none⟩) l02.length l02.length, .slice (some ⟨d03, 0, none⟩) l03.length l03.length] 28)).heap.size := Nat.le_of_eq za.symm
  go_wp2_with fail
  refine (iSpl n00 n01 n02 n03 (by exact o00) (by exact o01) (by exact o02) (by exact o03)).mono ?_
  rintro e w5 ⟨s0, s1, s2, s3, t0, t1, t2, t3, y0, y1, y2, y3, z0, z1, z2, z3, m1, m3, rfl, gm, G, H, hb⟩
  rw [HU.out] at G
  rw [HX.out] at H
  rw [HO.out, HU.out, HX.out]
  rw [za] at G gm
  obtain ⟨gm0, gm1, gm2⟩ := gm
  replace P0 := P0.below hb P0.lt; replace L := L.trans (hb.mono L.size); replace W := W.below hb (by omega); replace V := V.below hb (by omega)
  replace WA := WA.below hb WA.lt; replace WB := WB.below hb WB.lt; replace o00 := o00.below hb o00.1; replace o01 := o01.below hb o01.1
  replace o02 := o02.below hb o02.1; replace o03 := o03.below hb o03.1; replace X0 := X0.below hb X0.lt; replace SW := Nat.le_trans SW hb.size
  replace D0 := Nat.le_trans D0 hb.size; replace SX := Nat.le_trans SX hb.size
  clear hb za
  generalize wx0.heap.size = Ywx0 at *
  have GA := (Box.new w5 (.slice s0 U.1.length t0) (.slice s1 U.2.1.length t1) (.slice s2 U.2.2.1.length t2) (.slice s3 U.2.2.2.length t3) 28).alloc (.cells #[.slice y0 X.1.length z0, .slice y1 X.2.1.length z1, .slice y2 X.2.2.1.length z2, .slice y3 X.2.2.2.length z3] 28)
  have GB := Box.new (w5.alloc (.cells #[.slice s0 U.1.length t0, .slice s1 U.2.1.length t1, .slice s2 U.2.2.1.length t2, .slice s3 U.2.2.2.length t3] 28)) (.slice y0 X.1.length z0) (.slice y1 X.2.1.length z1) (.slice y2 X.2.2.1.length z2) (.slice y3 X.2.2.2.length z3) 28
  rw [World.size_alloc] at GB
  have al : Below w5.heap.size w5 ((w5.alloc (.cells #[.slice s0 U.1.length t0, .slice s1 U.2.1.length t1, .slice s2 U.2.2.1.length t2, .slice s3 U.2.2.2.length t3] 28)).alloc (.cells #[.slice y0 X.1.length z0, .slice y1 X.2.1.length z1, .slice y2 X.2.2.1.length z2, .slice y3 X.2.2.2.length z3] 28)) := ((Below.refl _ _).alloc (Nat.le_refl _) _).alloc (by simp) _
  have za : ((w5.alloc (.cells #[.slice s0 U.1.length t0, .slice s1 U.2.1.length t1, .slice s2 U.2.2.1.length t2, .slice s3 U.2.2.2.length t3] 28)).alloc (.cells #[.slice y0 X.1.length z0, .slice y1 X.2.1.length z1, .slice y2 X.2.2.1.length z2, .slice y3 X.2.2.2.length z3] 28)).heap.size = w5.heap.size + 2 := by simp
  replace P0 := P0.below al P0.lt; replace L := L.trans (al.mono L.size); replace W := W.below al (by omega); replace V := V.below al (by omega)
  replace WA := WA.below al WA.lt; replace WB := WB.below al WB.lt; replace o00 := o00.below al o00.1; replace o01 := o01.below al o01.1
  replace o02 := o02.below al o02.1; replace o03 := o03.below al o03.1; replace X0 := X0.below al X0.lt; replace G := G.below al (by omega)
  replace H := H.below al (by omega); replace SW := Nat.le_trans SW al.size; replace D0 := Nat.le_trans D0 al.size; replace SX := Nat.le_trans SX al.size
  clear al
  have SG : w5.heap.size + 2 ≤ ((w5.alloc (.cells #[.slice s0 U.1.length t0, .slice s1 U.2.1.length t1, .slice s2 U.2.2.1.length t2, .slice s3 U.2.2.2.length t3] 28)).alloc (.cells #[.slice y0 X.1.length z0, .slice y1 X.2.1.length z1, .slice y2 X.2.2.1.length z2, .slice y3 X.2.2.2.length z3] 28)).heap.size := Nat.le_of_eq za.symm
  have GA0' := GA.c0; have GA1' := GA.c1; have GA2' := GA.c2; have GA3' := GA.c3; have WA0' := WA.c0; have WA1' := WA.c1; have WA2' := WA.c2; have WA3' := WA.c3
  go_wp2_with fail
  clear GA0' GA1' GA2' GA3' WA0' WA1' WA2' WA3'
  refine (eqAsn_seen _ _ _ _ _ _ _ _ _ _ _ _ _ _ _ _ _ _ _ _ _ _ _ _ _ _ _ _ _ (by omega) (by omega) (by omega) (by omega) (by exact G.four.seen) (by exact W)).mono ?_
  rintro e w6 ⟨rfl, hb⟩
  replace P0 := P0.below hb P0.lt; replace L := L.trans (hb.mono L.size); replace W := W.below hb (by omega); replace V := V.below hb (by omega)
  replace WA := WA.below hb WA.lt; replace WB := WB.below hb WB.lt; replace o00 := o00.below hb o00.1; replace o01 := o01.below hb o01.1
  replace o02 := o02.below hb o02.1; replace o03 := o03.below hb o03.1; replace X0 := X0.below hb X0.lt; replace G := G.below hb (by omega)
  replace H := H.below hb (by omega); replace GA := GA.below hb GA.lt; replace GB := GB.below hb GB.lt; replace SW := Nat.le_trans SW hb.size
  replace D0 := Nat.le_trans D0 hb.size; replace SX := Nat.le_trans SX hb.size; replace SG := Nat.le_trans SG hb.size
  clear hb
  have GB0' := GB.c0; have GB1' := GB.c1; have GB2' := GB.c2; have GB3' := GB.c3; have WB0' := WB.c0; have WB1' := WB.c1; have WB2' := WB.c2; have WB3' := WB.c3
  go_wp2_with fail
  clear GB0' GB1' GB2' GB3' WB0' WB1' WB2' WB3'
  refine (eqAsn_seen _ _ _ _ _ _ _ _ _ _ _ _ _ _ _ _ _ _ _ _ _ _ _ _ _ _ _ _ _ (by omega) (by omega) (by omega) (by omega) (by exact H.seen) (by exact V)).mono ?_
  rintro e w6b ⟨rfl, hb⟩
  replace P0 := P0.below hb P0.lt; replace L := L.trans (hb.mono L.size); replace W := W.below hb (by omega); replace V := V.below hb (by omega)
  replace WA := WA.below hb WA.lt; replace WB := WB.below hb WB.lt; replace o00 := o00.below hb o00.1; replace o01 := o01.below hb o01.1
  replace o02 := o02.below hb o02.1; replace o03 := o03.below hb o03.1; replace X0 := X0.below hb X0.lt; replace G := G.below hb (by omega)
  replace H := H.below hb (by omega); replace GA := GA.below hb GA.lt; replace GB := GB.below hb GB.lt; replace SW := Nat.le_trans SW hb.size
  replace D0 := Nat.le_trans D0 hb.size; replace SX := Nat.le_trans SX hb.size; replace SG := Nat.le_trans SG hb.size
  clear hb
  clear za
  generalize w5.heap.size = Yw5 at *
  have P00' := P0.c0; have P01' := P0.c1; have P02' := P0.c2; have P03' := P0.c3; have X00' := X0.c0; have X01' := X0.c1; have X02' := X0.c2; have X03' := X0.c3
  go_upto_region 10 with fail
  go_cut [60] (fun v6 wz => v6 = .bool false ∧ Below w6b.heap.size w6b wz)
  case first =>
    go_region_with (first
      | (go_at_call 41; refine (toAsn_any _ _ _ _ _ _ _ _ _ _ _ _ _ n00 n01 n02 n03 ?_ ?_ ?_ ?_).mono ?_; exact r00.below L.drew (Nat.le_refl _); exact r01.below L.drew (Nat.le_refl _); exact r02.below L.drew (Nat.le_refl _); exact r03.below L.drew (Nat.le_refl _); rintro e we0 ⟨f0, f1, f2, f3, rfl, -, -, -, -, h0, h1, h2, h3, hb7⟩; have X7 := X0.drew.below hb7 X0.lt; have z0' := X7.c0; have z1' := X7.c1; have z2' := X7.c2; have z3' := X7.c3; clear X7)
      | (go_at_call 43; refine (eqAsn_same _ _ _ _ _ _ _ _ _ _ _ _ _ _ _ _ _ _ _ _ _ n00 n01 n02 n03 ?_ ?_ ?_ ?_ ?_ ?_ ?_ ?_).mono ?_; exact (o00.drew.below hb7 o00.1).row; exact (o01.drew.below hb7 o01.1).row; exact (o02.drew.below hb7 o02.1).row; exact (o03.drew.below hb7 o03.1).row; exact h0.row; exact h1.row; exact h2.row; exact h3.row; rintro e wf0 ⟨rfl, hb8⟩))
    all_goals
      have hb : Below w6b.heap.size w6b wf0 := ((Below.refl _ _).drew.trans hb7).trans (hb8.mono (by have := hb7.size; simpa using this))
      go_wp2_with fail
      go_meet
      exact ⟨rfl, hb⟩
  case rest =>
    obtain ⟨rfl, hb⟩ := hcut
    rename World => wf0
    replace P0 := P0.below hb P0.lt; replace L := L.trans (hb.mono L.size); replace W := W.below hb (by omega); replace V := V.below hb (by omega)
    replace WA := WA.below hb WA.lt; replace WB := WB.below hb WB.lt; replace o00 := o00.below hb o00.1; replace o01 := o01.below hb o01.1
    replace o02 := o02.below hb o02.1; replace o03 := o03.below hb o03.1; replace X0 := X0.below hb X0.lt; replace G := G.below hb (by omega)
    replace H := H.below hb (by omega); replace GA := GA.below hb GA.lt; replace GB := GB.below hb GB.lt; replace SW := Nat.le_trans SW hb.size
    replace D0 := Nat.le_trans D0 hb.size; replace SX := Nat.le_trans SX hb.size; replace SG := Nat.le_trans SG hb.size
    clear hb
    clear P00' P01' P02' P03' X00' X01' X02' X03'
    have X00' := X0.c0; have X01' := X0.c1; have X02' := X0.c2; have X03' := X0.c3
    go_wp2_with fail
    clear X00' X01' X02' X03'
    refine (markAsn_four d00 (d03 + 1) _ _ _ _ _ _ _ _ _ _ _ _ l00 l01 l02 l03 _ _ (by omega) (by omega) (by omega) (by omega) (by omega) (by omega) (by omega) (by exact Four.ofOwn (Nat.le_refl _) g01 g02 g03 (Nat.lt_succ_self _) o00 o01 o02 o03)).mono ?_
    rintro e wm0 ⟨rfl, -, ho⟩
    clear X0 o00 o01 o02 o03
    replace P0 := P0.out ho (by omega); replace L := L.trans (ho.below (by omega) L.size); replace W := W.out ho (by omega); replace V := V.out ho (by omega)
    replace WA := WA.out ho (by omega); replace WB := WB.out ho (by omega); replace G := G.out ho (by omega); replace H := H.out ho (by omega)
    replace GA := GA.out ho (by omega); replace GB := GB.out ho (by omega); replace SW := Nat.le_trans SW ho.size; replace D0 := Nat.le_trans D0 ho.size
    replace SX := Nat.le_trans SX ho.size; replace SG := Nat.le_trans SG ho.size
    clear ho
    obtain ⟨K, hK, hK0⟩ : ∃ K : Int, ((1 : Int) + 2 * (l00.length : Int) + 2 * (l01.length : Int) + 2 * (l02.length : Int) + 2 * (l03.length : Int)) = K ∧ ¬ K < 0 := ⟨_, rfl, by omega⟩
    rw [hK]
    clear hK
    have GA0' := GA.c0; have GA1' := GA.c1; have GA2' := GA.c2; have GA3' := GA.c3; have WA0' := WA.c0; have WA1' := WA.c1; have WA2' := WA.c2; have WA3' := WA.c3
    go_wp2_with fail
    clear GA0' GA1' GA2' GA3' WA0' WA1' WA2' WA3'
    refine (eqAsn_seen _ _ _ _ _ _ _ _ _ _ _ _ _ _ _ _ _ _ _ _ _ _ _ _ _ _ _ _ _ (by omega) (by omega) (by omega) (by omega) (by exact G.four.seen) (by exact W)).mono ?_
    rintro e w10 ⟨rfl, hb⟩
    replace P0 := P0.below hb P0.lt; replace L := L.trans (hb.mono L.size); replace W := W.below hb (by omega); replace V := V.below hb (by omega)
    replace WA := WA.below hb WA.lt; replace WB := WB.below hb WB.lt; replace G := G.below hb (by omega); replace H := H.below hb (by omega)
    replace GA := GA.below hb GA.lt; replace GB := GB.below hb GB.lt; replace SW := Nat.le_trans SW hb.size; replace D0 := Nat.le_trans D0 hb.size
    replace SX := Nat.le_trans SX hb.size; replace SG := Nat.le_trans SG hb.size
    clear hb
    have GB0' := GB.c0; have GB1' := GB.c1; have GB2' := GB.c2; have GB3' := GB.c3; have WB0' := WB.c0; have WB1' := WB.c1; have WB2' := WB.c2; have WB3' := WB.c3
    go_wp2_with fail
    clear GB0' GB1' GB2' GB3' WB0' WB1' WB2' WB3'
    refine (eqAsn_seen _ _ _ _ _ _ _ _ _ _ _ _ _ _ _ _ _ _ _ _ _ _ _ _ _ _ _ _ _ (by omega) (by omega) (by omega) (by omega) (by exact H.seen) (by exact V)).mono ?_
    rintro e w10b ⟨rfl, hb⟩
    replace P0 := P0.below hb P0.lt; replace L := L.trans (hb.mono L.size); replace W := W.below hb (by omega); replace V := V.below hb (by omega)
    replace WA := WA.below hb WA.lt; replace WB := WB.below hb WB.lt; replace G := G.below hb (by omega); replace H := H.below hb (by omega)
    replace GA := GA.below hb GA.lt; replace GB := GB.below hb GB.lt; replace SW := Nat.le_trans SW hb.size; replace D0 := Nat.le_trans D0 hb.size
    replace SX := Nat.le_trans SX hb.size; replace SG := Nat.le_trans SG hb.size
    clear hb
    have GA0' := GA.c0; have GA1' := GA.c1; have GA2' := GA.c2; have GA3' := GA.c3
    go_wp2_with fail
    clear GA0' GA1' GA2' GA3'
    refine (markAsn_gap (lo := Ywx0 + 1) (m1 := m1) (m3 := m3) (hi := Yw5) (by omega) (by omega) (by omega) (by omega) (by omega) (by omega) (by omega) (by exact G) (by exact H)).mono ?_
    rintro e w11 ⟨rfl, M, H2, ho⟩
    clear G H
    replace P0 := P0.out ho (by omega); replace L := L.trans (ho.below (by omega) L.size); replace W := W.out ho (by omega); replace V := V.out ho (by omega)
    replace WA := WA.out ho (by omega); replace WB := WB.out ho (by omega); replace GA := GA.out ho (by omega); replace GB := GB.out ho (by omega)
    replace SW := Nat.le_trans SW ho.size; replace D0 := Nat.le_trans D0 ho.size; replace SX := Nat.le_trans SX ho.size; replace SG := Nat.le_trans SG ho.size
    clear ho
    obtain ⟨Q, hQ⟩ : ∃ Q : Int, Hid (((1 : Int) + 2 * (U.1.length : Int) + 2 * (U.2.1.length : Int) + 2 * (U.2.2.1.length : Int) + 2 * (U.2.2.2.length : Int)) = Q) := ⟨_, rfl⟩
    have hQ0 : 0 ≤ Q ∧ Q ≤ 1000 := by rw [← hQ.out]; omega
    rw [hQ.out]
    have GB0' := GB.c0; have GB1' := GB.c1; have GB2' := GB.c2; have GB3' := GB.c3
    go_wp2_with fail
    clear GB0' GB1' GB2' GB3'
    refine (markAsn_four m1 m3 _ _ _ _ _ _ _ _ _ _ _ _ _ _ _ _ _ _ (by omega) (by omega) (by omega) (by omega) (by omega) (by omega) (by omega) (by exact H2)).mono ?_
    rintro e w11b ⟨rfl, N, ho⟩
    clear H2
    replace M := M.gap ho
    replace P0 := P0.out ho (by omega); replace L := L.trans (ho.below (by omega) L.size); replace W := W.out ho (by omega); replace V := V.out ho (by omega)
    replace WA := WA.out ho (by omega); replace WB := WB.out ho (by omega); replace GA := GA.out ho (by omega); replace GB := GB.out ho (by omega)
    replace SW := Nat.le_trans SW ho.size; replace D0 := Nat.le_trans D0 ho.size; replace SX := Nat.le_trans SX ho.size; replace SG := Nat.le_trans SG ho.size
    clear ho
    have T0 : ¬ (Q < 0) := by omega
    have T1 : ¬ ((Q + 2 * (X.1.length : Int) + 2 * (X.2.1.length : Int) + 2 * (X.2.2.1.length : Int) + 2 * (X.2.2.2.length : Int)) < 0) := by omega
    have GA0' := GA.c0; have GA1' := GA.c1; have GA2' := GA.c2; have GA3' := GA.c3
    go_wp2_with fail
    clear GA0' GA1' GA2' GA3'
    refine (heldAsn_four (Ywx0 + 1) Yw5 _ _ _ _ _ _ _ _ _ _ _ _ _ _ (by omega) (by omega) (by omega) (by omega) (by omega) (by omega) (by omega) (by exact M.four)).mono ?_
    rintro e w12 ⟨rfl, hb⟩
    rw [hQ.out]
    replace P0 := P0.below hb P0.lt; replace L := L.trans (hb.mono L.size); replace W := W.below hb (by omega); replace V := V.below hb (by omega)
    replace WA := WA.below hb WA.lt; replace WB := WB.below hb WB.lt; replace GA := GA.below hb GA.lt; replace GB := GB.below hb GB.lt
    replace M := M.below hb (by omega); replace N := N.below hb (by omega); replace SW := Nat.le_trans SW hb.size; replace D0 := Nat.le_trans D0 hb.size
    replace SX := Nat.le_trans SX hb.size; replace SG := Nat.le_trans SG hb.size
    clear hb
    have GB0' := GB.c0; have GB1' := GB.c1; have GB2' := GB.c2; have GB3' := GB.c3
    go_wp2_with fail
    clear GB0' GB1' GB2' GB3'
    refine (heldAsn_four m1 m3 _ _ _ _ _ _ _ _ _ _ _ _ _ _ (by omega) (by omega) (by omega) (by omega) (by omega) (by omega) (by omega) (by exact N)).mono ?_
    rintro e w12b ⟨rfl, hb⟩
    replace P0 := P0.below hb P0.lt; replace L := L.trans (hb.mono L.size); replace W := W.below hb (by omega); replace V := V.below hb (by omega)
    replace WA := WA.below hb WA.lt; replace WB := WB.below hb WB.lt; replace GA := GA.below hb GA.lt; replace GB := GB.below hb GB.lt
    replace M := M.below hb (by omega); replace N := N.below hb (by omega); replace SW := Nat.le_trans SW hb.size; replace D0 := Nat.le_trans D0 hb.size
    replace SX := Nat.le_trans SX hb.size; replace SG := Nat.le_trans SG hb.size
    clear hb
    have x0' := P0.c0; have x1' := P0.c1; have x2' := P0.c2; have x3' := P0.c3
    go_wp2_with fail
    clear x0' x1' x2' x3'
    refine (toAsn_any _ _ _ _ _ _ _ _ _ _ _ _ _ n00 n01 n02 n03 (by exact r00.below L (Nat.le_refl _)) (by exact r01.below L (Nat.le_refl _)) (by exact r02.below L (Nat.le_refl _)) (by exact r03.below L (Nat.le_refl _))).mono ?_
    rintro e jw ⟨j00, j01, j02, j03, rfl, -, -, -, -, O00, O01, O02, O03, hb⟩
    replace P0 := P0.below hb P0.lt; replace L := L.trans (hb.mono L.size); replace W := W.below hb (by omega); replace V := V.below hb (by omega)
    replace WA := WA.below hb WA.lt; replace WB := WB.below hb WB.lt; replace GA := GA.below hb GA.lt; replace GB := GB.below hb GB.lt
    replace M := M.below hb (by omega); replace N := N.below hb (by omega); replace SW := Nat.le_trans SW hb.size; replace D0 := Nat.le_trans D0 hb.size
    replace SX := Nat.le_trans SX hb.size; replace SG := Nat.le_trans SG hb.size
    clear hb
    go_wp2_with fail
    refine (iSpl n00 n01 n02 n03 (by exact O00) (by exact O01) (by exact O02) (by exact O03)).mono ?_
    rintro e w14 ⟨i0, i1, i2, i3, k0, k1, k2, k3, x00, x01, x02, x03, x90, x91, x92, x93, n1, n3, rfl, gn, ZA, ZB, hb⟩
    replace P0 := P0.below hb P0.lt; replace L := L.trans (hb.mono L.size); replace W := W.below hb (by omega); replace V := V.below hb (by omega)
    replace WA := WA.below hb WA.lt; replace WB := WB.below hb WB.lt; replace GA := GA.below hb GA.lt; replace GB := GB.below hb GB.lt
    replace M := M.below hb (by omega); replace N := N.below hb (by omega); replace SW := Nat.le_trans SW hb.size; replace D0 := Nat.le_trans D0 hb.size
    replace SX := Nat.le_trans SX hb.size; replace SG := Nat.le_trans SG hb.size
    clear O00 O01 O02 O03
    clear hb
    rw [HU.out] at ZA
    rw [HX.out] at ZB
    rw [HO.out, HU.out, HX.out]
    replace ZA := ZA.four.seen; replace ZB := ZB.seen
    obtain ⟨gn0, gn1, gn2⟩ := gn
    have ZL : w14.heap.size ≤ w14.heap.size := Nat.le_refl _
    have IA := (Box.new w14 (.slice i0 U.1.length k0) (.slice i1 U.2.1.length k1) (.slice i2 U.2.2.1.length k2) (.slice i3 U.2.2.2.length k3) 28).alloc (.cells #[.slice x00 X.1.length x90, .slice x01 X.2.1.length x91, .slice x02 X.2.2.1.length x92, .slice x03 X.2.2.2.length x93] 28)
    have IB := Box.new (w14.alloc (.cells #[.slice i0 U.1.length k0, .slice i1 U.2.1.length k1, .slice i2 U.2.2.1.length k2, .slice i3 U.2.2.2.length k3] 28)) (.slice x00 X.1.length x90) (.slice x01 X.2.1.length x91) (.slice x02 X.2.2.1.length x92) (.slice x03 X.2.2.2.length x93) 28
    rw [World.size_alloc] at IB
    have al : Below w14.heap.size w14 ((w14.alloc (.cells #[.slice i0 U.1.length k0, .slice i1 U.2.1.length k1, .slice i2 U.2.2.1.length k2, .slice i3 U.2.2.2.length k3] 28)).alloc (.cells #[.slice x00 X.1.length x90, .slice x01 X.2.1.length x91, .slice x02 X.2.2.1.length x92, .slice x03 X.2.2.2.length x93] 28)) := ((Below.refl _ _).alloc (Nat.le_refl _) _).alloc (by simp) _
    have za : ((w14.alloc (.cells #[.slice i0 U.1.length k0, .slice i1 U.2.1.length k1, .slice i2 U.2.2.1.length k2, .slice i3 U.2.2.2.length k3] 28)).alloc (.cells #[.slice x00 X.1.length x90, .slice x01 X.2.1.length x91, .slice x02 X.2.2.1.length x92, .slice x03 X.2.2.2.length x93] 28)).heap.size = w14.heap.size + 2 := by simp
    replace P0 := P0.below al P0.lt; replace L := L.trans (al.mono L.size); replace W := W.below al (by omega); replace V := V.below al (by omega)
    replace WA := WA.below al WA.lt; replace WB := WB.below al WB.lt; replace GA := GA.below al GA.lt; replace GB := GB.below al GB.lt
    replace M := M.below al (by omega); replace N := N.below al (by omega); replace ZA := ZA.below al (by omega); replace ZB := ZB.below al (by omega)
    replace SW := Nat.le_trans SW al.size; replace D0 := Nat.le_trans D0 al.size; replace SX := Nat.le_trans SX al.size; replace SG := Nat.le_trans SG al.size
    replace ZL := Nat.le_trans ZL al.size
    clear al
    have SI : w14.heap.size + 2 ≤ ((w14.alloc (.cells #[.slice i0 U.1.length k0, .slice i1 U.2.1.length k1, .slice i2 U.2.2.1.length k2, .slice i3 U.2.2.2.length k3] 28)).alloc (.cells #[.slice x00 X.1.length x90, .slice x01 X.2.1.length x91, .slice x02 X.2.2.1.length x92, .slice x03 X.2.2.2.length x93] 28)).heap.size := Nat.le_of_eq za.symm
    have IA0' := IA.c0; have IA1' := IA.c1; have IA2' := IA.c2; have IA3' := IA.c3; have WA0' := WA.c0; have WA1' := WA.c1; have WA2' := WA.c2; have WA3' := WA.c3
    go_wp2_with fail
    clear IA0' IA1' IA2' IA3' WA0' WA1' WA2' WA3'
    refine (eqAsn_seen _ _ _ _ _ _ _ _ _ _ _ _ _ _ _ _ _ _ _ _ _ _ _ _ _ _ _ _ _ (by omega) (by omega) (by omega) (by omega) (by exact ZA) (by exact W)).mono ?_
    rintro e w15 ⟨rfl, hb⟩
    replace P0 := P0.below hb P0.lt; replace L := L.trans (hb.mono L.size); replace W := W.below hb (by omega); replace V := V.below hb (by omega)
    replace WA := WA.below hb WA.lt; replace WB := WB.below hb WB.lt; replace GA := GA.below hb GA.lt; replace GB := GB.below hb GB.lt
    replace M := M.below hb (by omega); replace N := N.below hb (by omega); replace ZA := ZA.below hb (by omega); replace ZB := ZB.below hb (by omega)
    replace IA := IA.below hb IA.lt; replace IB := IB.below hb IB.lt; replace SW := Nat.le_trans SW hb.size; replace D0 := Nat.le_trans D0 hb.size
    replace SX := Nat.le_trans SX hb.size; replace SG := Nat.le_trans SG hb.size; replace ZL := Nat.le_trans ZL hb.size; replace SI := Nat.le_trans SI hb.size
    clear hb
    have IB0' := IB.c0; have IB1' := IB.c1; have IB2' := IB.c2; have IB3' := IB.c3; have WB0' := WB.c0; have WB1' := WB.c1; have WB2' := WB.c2; have WB3' := WB.c3
    go_wp2_with fail
    clear IB0' IB1' IB2' IB3' WB0' WB1' WB2' WB3'
    refine (eqAsn_seen _ _ _ _ _ _ _ _ _ _ _ _ _ _ _ _ _ _ _ _ _ _ _ _ _ _ _ _ _ (by omega) (by omega) (by omega) (by omega) (by exact ZB) (by exact V)).mono ?_
    rintro e w15b ⟨rfl, hb⟩
    replace P0 := P0.below hb P0.lt; replace L := L.trans (hb.mono L.size); replace W := W.below hb (by omega); replace V := V.below hb (by omega)
    replace WA := WA.below hb WA.lt; replace WB := WB.below hb WB.lt; replace GA := GA.below hb GA.lt; replace GB := GB.below hb GB.lt
    replace M := M.below hb (by omega); replace N := N.below hb (by omega); replace ZA := ZA.below hb (by omega); replace ZB := ZB.below hb (by omega)
    replace IA := IA.below hb IA.lt; replace IB := IB.below hb IB.lt; replace SW := Nat.le_trans SW hb.size; replace D0 := Nat.le_trans D0 hb.size
    replace SX := Nat.le_trans SX hb.size; replace SG := Nat.le_trans SG hb.size; replace ZL := Nat.le_trans ZL hb.size; replace SI := Nat.le_trans SI hb.size
    clear hb
    have GA0' := GA.c0; have GA1' := GA.c1; have GA2' := GA.c2; have GA3' := GA.c3
    go_wp2_with fail
    clear GA0' GA1' GA2' GA3'
    refine (heldAsn_four (Ywx0 + 1) Yw5 _ _ _ _ _ _ _ _ _ _ _ _ _ _ (by omega) (by omega) (by omega) (by omega) (by omega) (by omega) (by omega) (by exact M.four)).mono ?_
    rintro e w16 ⟨rfl, hb⟩
    rw [hQ.out]
    replace P0 := P0.below hb P0.lt; replace L := L.trans (hb.mono L.size); replace W := W.below hb (by omega); replace V := V.below hb (by omega)
    replace WA := WA.below hb WA.lt; replace WB := WB.below hb WB.lt; replace GA := GA.below hb GA.lt; replace GB := GB.below hb GB.lt
    replace M := M.below hb (by omega); replace N := N.below hb (by omega); replace ZA := ZA.below hb (by omega); replace ZB := ZB.below hb (by omega)
    replace IA := IA.below hb IA.lt; replace IB := IB.below hb IB.lt; replace SW := Nat.le_trans SW hb.size; replace D0 := Nat.le_trans D0 hb.size
    replace SX := Nat.le_trans SX hb.size; replace SG := Nat.le_trans SG hb.size; replace ZL := Nat.le_trans ZL hb.size; replace SI := Nat.le_trans SI hb.size
    clear hb
    have GB0' := GB.c0; have GB1' := GB.c1; have GB2' := GB.c2; have GB3' := GB.c3
    go_wp2_with fail
    clear GB0' GB1' GB2' GB3'
    refine (heldAsn_four m1 m3 _ _ _ _ _ _ _ _ _ _ _ _ _ _ (by omega) (by omega) (by omega) (by omega) (by omega) (by omega) (by omega) (by exact N)).mono ?_
    rintro e w16b ⟨rfl, hb⟩
    replace P0 := P0.below hb P0.lt; replace L := L.trans (hb.mono L.size); replace W := W.below hb (by omega); replace V := V.below hb (by omega)
    replace WA := WA.below hb WA.lt; replace WB := WB.below hb WB.lt; replace GA := GA.below hb GA.lt; replace GB := GB.below hb GB.lt
    replace M := M.below hb (by omega); replace N := N.below hb (by omega); replace ZA := ZA.below hb (by omega); replace ZB := ZB.below hb (by omega)
    replace IA := IA.below hb IA.lt; replace IB := IB.below hb IB.lt; replace SW := Nat.le_trans SW hb.size; replace D0 := Nat.le_trans D0 hb.size
    replace SX := Nat.le_trans SX hb.size; replace SG := Nat.le_trans SG hb.size; replace ZL := Nat.le_trans ZL hb.size; replace SI := Nat.le_trans SI hb.size
    clear hb
    go_wp2
    go_ret
    exact ⟨rfl, L⟩

end Go.Proofs.Ytphchdjbhbmnbaa.split
namespace Go.Proofs.Ytphchdjbhbmnbaa
open Go.ChangeShapes Go.WideShapes Go.ChangeAt Go.RowKit Go.Joins Go.Deep

theorem Try.cells24 : Try.prog.cellsOf 24 = 4 := by kernel_rfl
theorem Try.cells67 : Try.prog.cellsOf 67 = 2 := by kernel_rfl
theorem Try.cells3 : Try.prog.cellsOf 3 = 1 := by kernel_rfl

theorem open_row {H : Type} {enc : TypeId × Value → H} {W : World} {n : Nat} {v : Value} {y : DataW H × List MemPlace} (h : DataW.trod enc Try.prog W 0 (fun _ => true) true n 22 [v] = some y) :
    ∃ a cap l, v = .slice a (l : List (Int × Int)).length cap ∧ l.length ≤ maxLen ∧ PRow W a l := by
  rcases open_slice_pairs Try.underlying22 Try.underlying67 Try.cells67 rfl rfl Try.cells3 Try.cells3 h with ⟨hcs, _⟩ | ⟨a, len, cap, m, k, V0, V1, D0, D1, P0, P1, hcs, _, hl, hm, hmm, _, hx⟩
  · simp at hcs
    exact ⟨none, 0, [], hcs, Nat.zero_le _, .inl rfl⟩
  · simp at hcs
    have hmc : m = cap := by simpa using hmm
    refine ⟨some a, cap, (List.range len).map fun i => (intOf (V0 i), intOf (V1 i)), by simpa using hcs, by simp; omega, ?_⟩
    by_cases hz : len = 0
    · subst hz; exact .inl rfl
    · obtain ⟨b, off, spot⟩ := a
      have h0 := (hx 0 (by omega)).1
      have hspot : spot = none := by simpa [Addr.add] using World.cell?_spot h0
      subst hspot
      have hblk := World.block_lt_of_cell? _ _ h0
      refine .inr ⟨b, off, rfl, by simpa [Addr.add] using hblk, fun i hi => ?_⟩
      have hi' : i < len := by simpa using hi
      obtain ⟨e0, e1, t0, t1⟩ := hx i (by omega)
      obtain ⟨x, hx0, _, _⟩ := DataW.trod_int Try.underlying3 t0
      obtain ⟨z, hx1, _, _⟩ := DataW.trod_int Try.underlying3 t1
      simp at hx0 hx1
      rw [add_plain, hx0] at e0
      rw [add_plain, hx1] at e1
      simp [hi', hx0, hx1, intOf, Nat.add_assoc]
      exact ⟨e0, e1⟩

set_option maxRecDepth 100000 in
theorem open_asn {H : Type} {enc : TypeId × Value → H} {W : World} {b0 : Nat} {v : Value} {d : DataW H} {p : List MemPlace}
    (hv : Value.okWide Try.prog W .any b0 24 v) (h : DataW.Trod enc Try.prog W 0 (fun _ => true) true 24 v d p) :
    ∃ (a0 a1 a2 a3 : Option Addr) (c0 c1 c2 c3 : Nat) (l0 l1 l2 l3 : List (Int × Int)), v = .agg #[.slice a0 l0.length c0, .slice a1 l1.length c1, .slice a2 l2.length c2, .slice a3 l3.length c3] ∧
      l0.length ≤ maxLen ∧ l1.length ≤ maxLen ∧ l2.length ≤ maxLen ∧ l3.length ≤ maxLen ∧ PRow W a0 l0 ∧ PRow W a1 l1 ∧ PRow W a2 l2 ∧ PRow W a3 l3 := by
  obtain ⟨v0, v1, v2, v3, y0, y1, y2, y3, n, rfl, _, _, h0, h1, h2, h3⟩ := open_agg4 Try.underlying24 (by kernel_rfl) Try.cells24 hv h
  obtain ⟨a0, c0, l0, rfl, m0, r0⟩ := open_row h0
  obtain ⟨a1, c1, l1, rfl, m1, r1⟩ := open_row h1
  obtain ⟨a2, c2, l2, rfl, m2, r2⟩ := open_row h2
  obtain ⟨a3, c3, l3, rfl, m3, r3⟩ := open_row h3
  exact ⟨a0, a1, a2, a3, c0, c1, c2, c3, l0, l1, l2, l3, rfl, m0, m1, m2, m3, r0, r1, r2, r3⟩

end Go.Proofs.Ytphchdjbhbmnbaa
namespace Go.Proofs.Ytphchdjbhbmnbaa.ini
open Go.RowKit

def w1 : List Char := [Char.ofNat 104, Char.ofNat 97, Char.ofNat 114, Char.ofNat 110, Char.ofNat 101, Char.ofNat 115, Char.ofNat 115]
def w2 : List Char := [Char.ofNat 49, Char.ofNat 55, Char.ofNat 51, Char.ofNat 52, Char.ofNat 55, Char.ofNat 100, Char.ofNat 55, Char.ofNat 56, Char.ofNat 51, Char.ofNat 98, Char.ofNat 51, Char.ofNat 53, Char.ofNat 99, Char.ofNat 52, Char.ofNat 102, Char.ofNat 54, Char.ofNat 48, Char.ofNat 52, Char.ofNat 51, Char.ofNat 98, Char.ofNat 55, Char.ofNat 52, Char.ofNat 98, Char.ofNat 51, Char.ofNat 50, Char.ofNat 52, Char.ofNat 99, Char.ofNat 54, Char.ofNat 54, Char.ofNat 57, Char.ofNat 100, Char.ofNat 50, Char.ofNat 99, Char.ofNat 98, Char.ofNat 98, Char.ofNat 50, Char.ofNat 102, Char.ofNat 53, Char.ofNat 101, Char.ofNat 98, Char.ofNat 56, Char.ofNat 51, Char.ofNat 49, Char.ofNat 101, Char.ofNat 48, Char.ofNat 49, Char.ofNat 52, Char.ofNat 53, Char.ofNat 56, Char.ofNat 100, Char.ofNat 48, Char.ofNat 100, Char.ofNat 54, Char.ofNat 52, Char.ofNat 50, Char.ofNat 102, Char.ofNat 102, Char.ofNat 56, Char.ofNat 100, Char.ofNat 55, Char.ofNat 49, Char.ofNat 55, Char.ofNat 98, Char.ofNat 52]
def w3 : List Char := [Char.ofNat 99, Char.ofNat 117, Char.ofNat 116]
def tl : List Char := [Char.ofNat 97, Char.ofNat 116, Char.ofNat 32, Char.ofNat 108, Char.ofNat 111, Char.ofNat 111, Char.ofNat 112, Char.ofNat 46, Char.ofNat 101, Char.ofNat 120, Char.ofNat 97, Char.ofNat 109, Char.ofNat 112, Char.ofNat 108, Char.ofNat 101, Char.ofNat 47, Char.ofNat 103, Char.ofNat 48, Char.ofNat 48, Char.ofNat 54, Char.ofNat 50, Char.ofNat 49, Char.ofNat 47, Char.ofNat 108, Char.ofNat 97, Char.ofNat 119, Char.ofNat 115, Char.ofNat 46, Char.ofNat 70, Char.ofNat 110, Char.ofNat 69, Char.ofNat 120, Char.ofNat 97, Char.ofNat 99, Char.ofNat 116, Char.ofNat 83, Char.ofNat 117, Char.ofNat 98, Char.ofNat 115, Char.ofNat 116, Char.ofNat 32, Char.ofNat 108, Char.ofNat 111, Char.ofNat 111, Char.ofNat 112, Char.ofNat 46, Char.ofNat 101, Char.ofNat 120, Char.ofNat 97, Char.ofNat 109, Char.ofNat 112, Char.ofNat 108, Char.ofNat 101, Char.ofNat 47, Char.ofNat 103, Char.ofNat 48, Char.ofNat 48, Char.ofNat 54, Char.ofNat 50, Char.ofNat 49, Char.ofNat 47, Char.ofNat 108, Char.ofNat 97, Char.ofNat 119, Char.ofNat 115, Char.ofNat 46, Char.ofNat 70, Char.ofNat 110, Char.ofNat 69, Char.ofNat 120, Char.ofNat 97, Char.ofNat 99, Char.ofNat 116, Char.ofNat 83, Char.ofNat 116, Char.ofNat 97, Char.ofNat 114, Char.ofNat 32, Char.ofNat 108, Char.ofNat 111, Char.ofNat 111, Char.ofNat 112, Char.ofNat 46, Char.ofNat 101, Char.ofNat 120, Char.ofNat 97, Char.ofNat 109, Char.ofNat 112, Char.ofNat 108, Char.ofNat 101, Char.ofNat 47, Char.ofNat 103, Char.ofNat 48, Char.ofNat 48, Char.ofNat 54, Char.ofNat 50, Char.ofNat 49, Char.ofNat 47, Char.ofNat 108, Char.ofNat 97, Char.ofNat 119, Char.ofNat 115, Char.ofNat 46, Char.ofNat 70, Char.ofNat 110, Char.ofNat 69, Char.ofNat 120, Char.ofNat 97, Char.ofNat 99, Char.ofNat 116, Char.ofNat 70, Char.ofNat 114, Char.ofNat 101, Char.ofNat 115, Char.ofNat 104, Char.ofNat 32, Char.ofNat 108, Char.ofNat 111, Char.ofNat 111, Char.ofNat 112, Char.ofNat 46, Char.ofNat 101, Char.ofNat 120, Char.ofNat 97, Char.ofNat 109, Char.ofNat 112, Char.ofNat 108, Char.ofNat 101, Char.ofNat 47, Char.ofNat 103, Char.ofNat 48, Char.ofNat 48, Char.ofNat 54, Char.ofNat 50, Char.ofNat 49, Char.ofNat 47, Char.ofNat 108, Char.ofNat 97, Char.ofNat 119, Char.ofNat 115, Char.ofNat 46, Char.ofNat 70, Char.ofNat 110, Char.ofNat 69, Char.ofNat 120, Char.ofNat 97, Char.ofNat 99, Char.ofNat 116, Char.ofNat 80, Char.ofNat 97, Char.ofNat 105, Char.ofNat 114, Char.ofNat 115, Char.ofNat 79, Char.ofNat 102, Char.ofNat 32, Char.ofNat 108, Char.ofNat 111, Char.ofNat 111, Char.ofNat 112, Char.ofNat 46, Char.ofNat 101, Char.ofNat 120, Char.ofNat 97, Char.ofNat 109, Char.ofNat 112, Char.ofNat 108, Char.ofNat 101, Char.ofNat 47, Char.ofNat 103, Char.ofNat 48, Char.ofNat 48, Char.ofNat 54, Char.ofNat 50, Char.ofNat 49, Char.ofNat 47, Char.ofNat 108, Char.ofNat 97, Char.ofNat 119, Char.ofNat 115, Char.ofNat 46, Char.ofNat 70, Char.ofNat 110, Char.ofNat 69, Char.ofNat 120, Char.ofNat 97, Char.ofNat 99, Char.ofNat 116, Char.ofNat 83, Char.ofNat 111, Char.ofNat 114, Char.ofNat 116, Char.ofNat 101, Char.ofNat 100, Char.ofNat 32, Char.ofNat 108, Char.ofNat 111, Char.ofNat 111, Char.ofNat 112, Char.ofNat 46, Char.ofNat 101, Char.ofNat 120, Char.ofNat 97, Char.ofNat 109, Char.ofNat 112, Char.ofNat 108, Char.ofNat 101, Char.ofNat 47, Char.ofNat 103, Char.ofNat 48, Char.ofNat 48, Char.ofNat 54, Char.ofNat 50, Char.ofNat 49, Char.ofNat 47, Char.ofNat 108, Char.ofNat 97, Char.ofNat 119, Char.ofNat 115, Char.ofNat 46, Char.ofNat 70, Char.ofNat 110, Char.ofNat 69, Char.ofNat 120, Char.ofNat 97, Char.ofNat 99, Char.ofNat 116, Char.ofNat 87, Char.ofNat 105, Char.ofNat 116, Char.ofNat 104, Char.ofNat 111, Char.ofNat 117, Char.ofNat 116, Char.ofNat 32, Char.ofNat 108, Char.ofNat 111, Char.ofNat 111, Char.ofNat 112, Char.ofNat 46, Char.ofNat 101, Char.ofNat 120, Char.ofNat 97, Char.ofNat 109, Char.ofNat 112, Char.ofNat 108, Char.ofNat 101, Char.ofNat 47, Char.ofNat 103, Char.ofNat 48, Char.ofNat 48, Char.ofNat 54, Char.ofNat 50, Char.ofNat 49, Char.ofNat 47, Char.ofNat 108, Char.ofNat 97, Char.ofNat 119, Char.ofNat 115, Char.ofNat 46, Char.ofNat 70, Char.ofNat 110, Char.ofNat 69, Char.ofNat 120, Char.ofNat 97, Char.ofNat 99, Char.ofNat 116, Char.ofNat 67, Char.ofNat 108, Char.ofNat 97, Char.ofNat 115, Char.ofNat 115, Char.ofNat 101, Char.ofNat 115, Char.ofNat 32, Char.ofNat 108, Char.ofNat 111, Char.ofNat 111, Char.ofNat 112, Char.ofNat 46, Char.ofNat 101, Char.ofNat 120, Char.ofNat 97, Char.ofNat 109, Char.ofNat 112, Char.ofNat 108, Char.ofNat 101, Char.ofNat 47, Char.ofNat 103, Char.ofNat 48, Char.ofNat 48, Char.ofNat 54, Char.ofNat 50, Char.ofNat 49, Char.ofNat 47, Char.ofNat 108, Char.ofNat 97, Char.ofNat 119, Char.ofNat 115, Char.ofNat 46, Char.ofNat 70, Char.ofNat 110, Char.ofNat 69, Char.ofNat 120, Char.ofNat 97, Char.ofNat 99, Char.ofNat 116, Char.ofNat 65, Char.ofNat 108, Char.ofNat 105, Char.ofNat 107, Char.ofNat 101, Char.ofNat 32, Char.ofNat 108, Char.ofNat 111, Char.ofNat 111, Char.ofNat 112, Char.ofNat 46, Char.ofNat 101, Char.ofNat 120, Char.ofNat 97, Char.ofNat 109, Char.ofNat 112, Char.ofNat 108, Char.ofNat 101, Char.ofNat 47, Char.ofNat 103, Char.ofNat 48, Char.ofNat 48, Char.ofNat 54, Char.ofNat 50, Char.ofNat 49, Char.ofNat 47, Char.ofNat 108, Char.ofNat 97, Char.ofNat 119, Char.ofNat 115, Char.ofNat 46, Char.ofNat 70, Char.ofNat 110, Char.ofNat 69, Char.ofNat 120, Char.ofNat 97, Char.ofNat 99, Char.ofNat 116, Char.ofNat 85, Char.ofNat 110, Char.ofNat 108, Char.ofNat 105, Char.ofNat 107, Char.ofNat 101, Char.ofNat 32, Char.ofNat 108, Char.ofNat 111, Char.ofNat 111, Char.ofNat 112, Char.ofNat 46, Char.ofNat 101, Char.ofNat 120, Char.ofNat 97, Char.ofNat 109, Char.ofNat 112, Char.ofNat 108, Char.ofNat 101, Char.ofNat 47, Char.ofNat 103, Char.ofNat 48, Char.ofNat 48, Char.ofNat 54, Char.ofNat 50, Char.ofNat 49, Char.ofNat 47, Char.ofNat 108, Char.ofNat 97, Char.ofNat 119, Char.ofNat 115, Char.ofNat 46, Char.ofNat 70, Char.ofNat 110, Char.ofNat 69, Char.ofNat 120, Char.ofNat 97, Char.ofNat 99, Char.ofNat 116, Char.ofNat 78, Char.ofNat 111, Char.ofNat 114, Char.ofNat 109, Char.ofNat 97, Char.ofNat 108, Char.ofNat 32, Char.ofNat 108, Char.ofNat 111, Char.ofNat 111, Char.ofNat 112, Char.ofNat 46, Char.ofNat 101, Char.ofNat 120, Char.ofNat 97, Char.ofNat 109, Char.ofNat 112, Char.ofNat 108, Char.ofNat 101, Char.ofNat 47, Char.ofNat 103, Char.ofNat 48, Char.ofNat 48, Char.ofNat 54, Char.ofNat 50, Char.ofNat 49, Char.ofNat 47, Char.ofNat 108, Char.ofNat 97, Char.ofNat 119, Char.ofNat 115, Char.ofNat 46, Char.ofNat 70, Char.ofNat 110, Char.ofNat 69, Char.ofNat 120, Char.ofNat 97, Char.ofNat 99, Char.ofNat 116, Char.ofNat 72, Char.ofNat 101, Char.ofNat 97, Char.ofNat 100, Char.ofNat 115, Char.ofNat 32, Char.ofNat 108, Char.ofNat 111, Char.ofNat 111, Char.ofNat 112, Char.ofNat 46, Char.ofNat 101, Char.ofNat 120, Char.ofNat 97, Char.ofNat 109, Char.ofNat 112, Char.ofNat 108, Char.ofNat 101, Char.ofNat 47, Char.ofNat 103, Char.ofNat 48, Char.ofNat 48, Char.ofNat 54, Char.ofNat 50, Char.ofNat 49, Char.ofNat 47, Char.ofNat 108, Char.ofNat 97, Char.ofNat 119, Char.ofNat 115, Char.ofNat 46, Char.ofNat 70, Char.ofNat 110, Char.ofNat 69, Char.ofNat 120, Char.ofNat 97, Char.ofNat 99, Char.ofNat 116, Char.ofNat 67, Char.ofNat 111, Char.ofNat 110, Char.ofNat 116, Char.ofNat 114, Char.ofNat 97, Char.ofNat 32, Char.ofNat 108, Char.ofNat 111, Char.ofNat 111, Char.ofNat 112, Char.ofNat 46, Char.ofNat 101, Char.ofNat 120, Char.ofNat 97, Char.ofNat 109, Char.ofNat 112, Char.ofNat 108, Char.ofNat 101, Char.ofNat 47, Char.ofNat 103, Char.ofNat 48, Char.ofNat 48, Char.ofNat 54, Char.ofNat 50, Char.ofNat 49, Char.ofNat 47, Char.ofNat 108, Char.ofNat 97, Char.ofNat 119, Char.ofNat 115, Char.ofNat 46, Char.ofNat 70, Char.ofNat 110, Char.ofNat 69, Char.ofNat 120, Char.ofNat 97, Char.ofNat 99, Char.ofNat 116, Char.ofNat 79, Char.ofNat 112, Char.ofNat 101, Char.ofNat 110, Char.ofNat 101, Char.ofNat 100, Char.ofNat 32, Char.ofNat 108, Char.ofNat 111, Char.ofNat 111, Char.ofNat 112, Char.ofNat 46, Char.ofNat 101, Char.ofNat 120, Char.ofNat 97, Char.ofNat 109, Char.ofNat 112, Char.ofNat 108, Char.ofNat 101, Char.ofNat 47, Char.ofNat 103, Char.ofNat 48, Char.ofNat 48, Char.ofNat 54, Char.ofNat 50, Char.ofNat 49, Char.ofNat 47, Char.ofNat 108, Char.ofNat 97, Char.ofNat 119, Char.ofNat 115, Char.ofNat 46, Char.ofNat 70, Char.ofNat 110, Char.ofNat 69, Char.ofNat 120, Char.ofNat 97, Char.ofNat 99, Char.ofNat 116, Char.ofNat 77, Char.ofNat 101, Char.ofNat 109, Char.ofNat 98, Char.ofNat 101, Char.ofNat 114, Char.ofNat 115, Char.ofNat 32, Char.ofNat 108, Char.ofNat 111, Char.ofNat 111, Char.ofNat 112, Char.ofNat 46, Char.ofNat 101, Char.ofNat 120, Char.ofNat 97, Char.ofNat 109, Char.ofNat 112, Char.ofNat 108, Char.ofNat 101, Char.ofNat 47, Char.ofNat 103, Char.ofNat 48, Char.ofNat 48, Char.ofNat 54, Char.ofNat 50, Char.ofNat 49, Char.ofNat 47, Char.ofNat 108, Char.ofNat 97, Char.ofNat 119, Char.ofNat 115, Char.ofNat 46, Char.ofNat 70, Char.ofNat 110, Char.ofNat 69, Char.ofNat 120, Char.ofNat 97, Char.ofNat 99, Char.ofNat 116, Char.ofNat 72, Char.ofNat 101, Char.ofNat 97, Char.ofNat 100, Char.ofNat 65, Char.ofNat 116, Char.ofNat 32, Char.ofNat 108, Char.ofNat 111, Char.ofNat 111, Char.ofNat 112, Char.ofNat 46, Char.ofNat 101, Char.ofNat 120, Char.ofNat 97, Char.ofNat 109, Char.ofNat 112, Char.ofNat 108, Char.ofNat 101, Char.ofNat 47, Char.ofNat 103, Char.ofNat 48, Char.ofNat 48, Char.ofNat 54, Char.ofNat 50, Char.ofNat 49, Char.ofNat 47, Char.ofNat 108, Char.ofNat 97, Char.ofNat 119, Char.ofNat 115, Char.ofNat 46, Char.ofNat 70, Char.ofNat 110, Char.ofNat 69, Char.ofNat 120, Char.ofNat 97, Char.ofNat 99, Char.ofNat 116, Char.ofNat 67, Char.ofNat 108, Char.ofNat 97, Char.ofNat 115, Char.ofNat 115, Char.ofNat 67, Char.ofNat 111, Char.ofNat 117, Char.ofNat 110, Char.ofNat 116, Char.ofNat 32, Char.ofNat 108, Char.ofNat 111, Char.ofNat 111, Char.ofNat 112, Char.ofNat 46, Char.ofNat 101, Char.ofNat 120, Char.ofNat 97, Char.ofNat 109, Char.ofNat 112, Char.ofNat 108, Char.ofNat 101, Char.ofNat 47, Char.ofNat 103, Char.ofNat 48, Char.ofNat 48, Char.ofNat 54, Char.ofNat 50, Char.ofNat 49, Char.ofNat 47, Char.ofNat 108, Char.ofNat 97, Char.ofNat 119, Char.ofNat 115, Char.ofNat 46, Char.ofNat 70, Char.ofNat 110, Char.ofNat 69, Char.ofNat 120, Char.ofNat 97, Char.ofNat 99, Char.ofNat 116, Char.ofNat 67, Char.ofNat 97, Char.ofNat 115, Char.ofNat 101, Char.ofNat 115, Char.ofNat 32, Char.ofNat 108, Char.ofNat 111, Char.ofNat 111, Char.ofNat 112, Char.ofNat 46, Char.ofNat 101, Char.ofNat 120, Char.ofNat 97, Char.ofNat 109, Char.ofNat 112, Char.ofNat 108, Char.ofNat 101, Char.ofNat 47, Char.ofNat 103, Char.ofNat 48, Char.ofNat 48, Char.ofNat 54, Char.ofNat 50, Char.ofNat 49, Char.ofNat 47, Char.ofNat 108, Char.ofNat 97, Char.ofNat 119, Char.ofNat 115, Char.ofNat 46, Char.ofNat 70, Char.ofNat 110, Char.ofNat 69, Char.ofNat 120, Char.ofNat 97, Char.ofNat 99, Char.ofNat 116, Char.ofNat 80, Char.ofNat 111, Char.ofNat 115, Char.ofNat 115, Char.ofNat 105, Char.ofNat 98, Char.ofNat 108, Char.ofNat 101, Char.ofNat 32, Char.ofNat 108, Char.ofNat 111, Char.ofNat 111, Char.ofNat 112, Char.ofNat 46, Char.ofNat 101, Char.ofNat 120, Char.ofNat 97, Char.ofNat 109, Char.ofNat 112, Char.ofNat 108, Char.ofNat 101, Char.ofNat 47, Char.ofNat 103, Char.ofNat 48, Char.ofNat 48, Char.ofNat 54, Char.ofNat 50, Char.ofNat 49, Char.ofNat 47, Char.ofNat 108, Char.ofNat 97, Char.ofNat 119, Char.ofNat 115, Char.ofNat 46, Char.ofNat 70, Char.ofNat 110, Char.ofNat 69, Char.ofNat 120, Char.ofNat 97, Char.ofNat 99, Char.ofNat 116, Char.ofNat 85, Char.ofNat 110, Char.ofNat 102, Char.ofNat 111, Char.ofNat 108, Char.ofNat 100, Char.ofNat 32, Char.ofNat 108, Char.ofNat 111, Char.ofNat 111, Char.ofNat 112, Char.ofNat 46, Char.ofNat 101, Char.ofNat 120, Char.ofNat 97, Char.ofNat 109, Char.ofNat 112, Char.ofNat 108, Char.ofNat 101, Char.ofNat 47, Char.ofNat 103, Char.ofNat 48, Char.ofNat 48, Char.ofNat 54, Char.ofNat 50, Char.ofNat 49, Char.ofNat 47, Char.ofNat 108, Char.ofNat 97, Char.ofNat 119, Char.ofNat 115, Char.ofNat 46, Char.ofNat 70, Char.ofNat 110, Char.ofNat 69, Char.ofNat 120, Char.ofNat 97, Char.ofNat 99, Char.ofNat 116, Char.ofNat 70, Char.ofNat 111, Char.ofNat 108, Char.ofNat 100, Char.ofNat 32, Char.ofNat 108, Char.ofNat 111, Char.ofNat 111, Char.ofNat 112, Char.ofNat 46, Char.ofNat 101, Char.ofNat 120, Char.ofNat 97, Char.ofNat 109, Char.ofNat 112, Char.ofNat 108, Char.ofNat 101, Char.ofNat 47, Char.ofNat 103, Char.ofNat 48, Char.ofNat 48, Char.ofNat 54, Char.ofNat 50, Char.ofNat 49, Char.ofNat 47, Char.ofNat 108, Char.ofNat 97, Char.ofNat 119, Char.ofNat 115, Char.ofNat 46, Char.ofNat 70, Char.ofNat 110, Char.ofNat 69, Char.ofNat 120, Char.ofNat 97, Char.ofNat 99, Char.ofNat 116, Char.ofNat 67, Char.ofNat 111, Char.ofNat 117, Char.ofNat 110, Char.ofNat 116, Char.ofNat 67, Char.ofNat 97, Char.ofNat 115, Char.ofNat 101, Char.ofNat 115, Char.ofNat 32, Char.ofNat 108, Char.ofNat 111, Char.ofNat 111, Char.ofNat 112, Char.ofNat 46, Char.ofNat 101, Char.ofNat 120, Char.ofNat 97, Char.ofNat 109, Char.ofNat 112, Char.ofNat 108, Char.ofNat 101, Char.ofNat 47, Char.ofNat 103, Char.ofNat 48, Char.ofNat 48, Char.ofNat 54, Char.ofNat 50, Char.ofNat 49, Char.ofNat 47, Char.ofNat 108, Char.ofNat 97, Char.ofNat 119, Char.ofNat 115, Char.ofNat 46, Char.ofNat 70, Char.ofNat 110, Char.ofNat 69, Char.ofNat 120, Char.ofNat 97, Char.ofNat 99, Char.ofNat 116, Char.ofNat 83, Char.ofNat 112, Char.ofNat 108, Char.ofNat 105, Char.ofNat 116, Char.ofNat 32, Char.ofNat 108, Char.ofNat 111, Char.ofNat 111, Char.ofNat 112, Char.ofNat 46, Char.ofNat 101, Char.ofNat 120, Char.ofNat 97, Char.ofNat 109, Char.ofNat 112, Char.ofNat 108, Char.ofNat 101, Char.ofNat 47, Char.ofNat 103, Char.ofNat 48, Char.ofNat 48, Char.ofNat 54, Char.ofNat 50, Char.ofNat 49, Char.ofNat 47, Char.ofNat 108, Char.ofNat 97, Char.ofNat 119, Char.ofNat 115, Char.ofNat 46, Char.ofNat 70, Char.ofNat 110, Char.ofNat 69, Char.ofNat 120, Char.ofNat 97, Char.ofNat 99, Char.ofNat 116, Char.ofNat 77, Char.ofNat 97, Char.ofNat 116, Char.ofNat 99, Char.ofNat 104, Char.ofNat 32, Char.ofNat 108, Char.ofNat 111, Char.ofNat 111, Char.ofNat 112, Char.ofNat 46, Char.ofNat 101, Char.ofNat 120, Char.ofNat 97, Char.ofNat 109, Char.ofNat 112, Char.ofNat 108, Char.ofNat 101, Char.ofNat 47, Char.ofNat 103, Char.ofNat 48, Char.ofNat 48, Char.ofNat 54, Char.ofNat 50, Char.ofNat 49, Char.ofNat 47, Char.ofNat 108, Char.ofNat 97, Char.ofNat 119, Char.ofNat 115, Char.ofNat 46, Char.ofNat 70, Char.ofNat 110, Char.ofNat 69, Char.ofNat 120, Char.ofNat 97, Char.ofNat 99, Char.ofNat 116, Char.ofNat 69, Char.ofNat 110, Char.ofNat 116, Char.ofNat 97, Char.ofNat 105, Char.ofNat 108, Char.ofNat 115, Char.ofNat 32, Char.ofNat 108, Char.ofNat 111, Char.ofNat 111, Char.ofNat 112, Char.ofNat 46, Char.ofNat 101, Char.ofNat 120, Char.ofNat 97, Char.ofNat 109, Char.ofNat 112, Char.ofNat 108, Char.ofNat 101, Char.ofNat 47, Char.ofNat 103, Char.ofNat 48, Char.ofNat 48, Char.ofNat 54, Char.ofNat 50, Char.ofNat 49, Char.ofNat 47, Char.ofNat 108, Char.ofNat 97, Char.ofNat 119, Char.ofNat 115, Char.ofNat 46, Char.ofNat 70, Char.ofNat 110, Char.ofNat 69, Char.ofNat 120, Char.ofNat 97, Char.ofNat 99, Char.ofNat 116, Char.ofNat 70, Char.ofNat 114, Char.ofNat 97, Char.ofNat 109, Char.ofNat 101, Char.ofNat 115, Char.ofNat 32, Char.ofNat 108, Char.ofNat 111, Char.ofNat 111, Char.ofNat 112, Char.ofNat 46, Char.ofNat 101, Char.ofNat 120, Char.ofNat 97, Char.ofNat 109, Char.ofNat 112, Char.ofNat 108, Char.ofNat 101, Char.ofNat 47, Char.ofNat 103, Char.ofNat 48, Char.ofNat 48, Char.ofNat 54, Char.ofNat 50, Char.ofNat 49, Char.ofNat 47, Char.ofNat 108, Char.ofNat 97, Char.ofNat 119, Char.ofNat 115, Char.ofNat 46, Char.ofNat 70, Char.ofNat 110, Char.ofNat 69, Char.ofNat 120, Char.ofNat 97, Char.ofNat 99, Char.ofNat 116, Char.ofNat 83, Char.ofNat 97, Char.ofNat 109, Char.ofNat 101, Char.ofNat 32, Char.ofNat 108, Char.ofNat 111, Char.ofNat 111, Char.ofNat 112, Char.ofNat 46, Char.ofNat 101, Char.ofNat 120, Char.ofNat 97, Char.ofNat 109, Char.ofNat 112, Char.ofNat 108, Char.ofNat 101, Char.ofNat 47, Char.ofNat 103, Char.ofNat 48, Char.ofNat 48, Char.ofNat 54, Char.ofNat 50, Char.ofNat 49, Char.ofNat 47, Char.ofNat 108, Char.ofNat 97, Char.ofNat 119, Char.ofNat 115, Char.ofNat 46, Char.ofNat 70, Char.ofNat 110, Char.ofNat 69, Char.ofNat 120, Char.ofNat 97, Char.ofNat 99, Char.ofNat 116, Char.ofNat 80, Char.ofNat 117, Char.ofNat 114, Char.ofNat 101, Char.ofNat 79, Char.ofNat 102, Char.ofNat 32, Char.ofNat 108, Char.ofNat 111, Char.ofNat 111, Char.ofNat 112, Char.ofNat 46, Char.ofNat 101, Char.ofNat 120, Char.ofNat 97, Char.ofNat 109, Char.ofNat 112, Char.ofNat 108, Char.ofNat 101, Char.ofNat 47, Char.ofNat 103, Char.ofNat 48, Char.ofNat 48, Char.ofNat 54, Char.ofNat 50, Char.ofNat 49, Char.ofNat 47, Char.ofNat 108, Char.ofNat 97, Char.ofNat 119, Char.ofNat 115, Char.ofNat 46, Char.ofNat 70, Char.ofNat 110, Char.ofNat 69, Char.ofNat 120, Char.ofNat 97, Char.ofNat 99, Char.ofNat 116, Char.ofNat 80, Char.ofNat 117, Char.ofNat 114, Char.ofNat 101, Char.ofNat 70, Char.ofNat 111, Char.ofNat 108, Char.ofNat 108, Char.ofNat 111, Char.ofNat 119, Char.ofNat 115, Char.ofNat 32, Char.ofNat 108, Char.ofNat 111, Char.ofNat 111, Char.ofNat 112, Char.ofNat 46, Char.ofNat 101, Char.ofNat 120, Char.ofNat 97, Char.ofNat 109, Char.ofNat 112, Char.ofNat 108, Char.ofNat 101, Char.ofNat 47, Char.ofNat 103, Char.ofNat 48, Char.ofNat 48, Char.ofNat 54, Char.ofNat 50, Char.ofNat 49, Char.ofNat 47, Char.ofNat 108, Char.ofNat 97, Char.ofNat 119, Char.ofNat 115, Char.ofNat 46, Char.ofNat 70, Char.ofNat 110, Char.ofNat 69, Char.ofNat 120, Char.ofNat 97, Char.ofNat 99, Char.ofNat 116, Char.ofNat 84, Char.ofNat 97, Char.ofNat 107, Char.ofNat 101, Char.ofNat 67, Char.ofNat 101, Char.ofNat 108, Char.ofNat 108, Char.ofNat 32, Char.ofNat 108, Char.ofNat 111, Char.ofNat 111, Char.ofNat 112, Char.ofNat 46, Char.ofNat 101, Char.ofNat 120, Char.ofNat 97, Char.ofNat 109, Char.ofNat 112, Char.ofNat 108, Char.ofNat 101, Char.ofNat 47, Char.ofNat 103, Char.ofNat 48, Char.ofNat 48, Char.ofNat 54, Char.ofNat 50, Char.ofNat 49, Char.ofNat 47, Char.ofNat 108, Char.ofNat 97, Char.ofNat 119, Char.ofNat 115, Char.ofNat 46, Char.ofNat 70, Char.ofNat 110, Char.ofNat 69, Char.ofNat 120, Char.ofNat 97, Char.ofNat 99, Char.ofNat 116, Char.ofNat 84, Char.ofNat 97, Char.ofNat 107, Char.ofNat 101, Char.ofNat 83, Char.ofNat 101, Char.ofNat 103, Char.ofNat 32, Char.ofNat 108, Char.ofNat 111, Char.ofNat 111, Char.ofNat 112, Char.ofNat 46, Char.ofNat 101, Char.ofNat 120, Char.ofNat 97, Char.ofNat 109, Char.ofNat 112, Char.ofNat 108, Char.ofNat 101, Char.ofNat 47, Char.ofNat 103, Char.ofNat 48, Char.ofNat 48, Char.ofNat 54, Char.ofNat 50, Char.ofNat 49, Char.ofNat 47, Char.ofNat 108, Char.ofNat 97, Char.ofNat 119, Char.ofNat 115, Char.ofNat 46, Char.ofNat 70, Char.ofNat 110, Char.ofNat 69, Char.ofNat 120, Char.ofNat 97, Char.ofNat 99, Char.ofNat 116, Char.ofNat 87, Char.ofNat 101, Char.ofNat 97, Char.ofNat 107, Char.ofNat 101, Char.ofNat 114, Char.ofNat 32, Char.ofNat 108, Char.ofNat 111, Char.ofNat 111, Char.ofNat 112, Char.ofNat 46, Char.ofNat 101, Char.ofNat 120, Char.ofNat 97, Char.ofNat 109, Char.ofNat 112, Char.ofNat 108, Char.ofNat 101, Char.ofNat 47, Char.ofNat 103, Char.ofNat 48, Char.ofNat 48, Char.ofNat 54, Char.ofNat 50, Char.ofNat 49, Char.ofNat 47, Char.ofNat 108, Char.ofNat 97, Char.ofNat 119, Char.ofNat 115, Char.ofNat 46, Char.ofNat 70, Char.ofNat 110, Char.ofNat 69, Char.ofNat 120, Char.ofNat 97, Char.ofNat 99, Char.ofNat 116, Char.ofNat 84, Char.ofNat 105, Char.ofNat 100, Char.ofNat 121, Char.ofNat 32, Char.ofNat 108, Char.ofNat 111, Char.ofNat 111, Char.ofNat 112, Char.ofNat 46, Char.ofNat 101, Char.ofNat 120, Char.ofNat 97, Char.ofNat 109, Char.ofNat 112, Char.ofNat 108, Char.ofNat 101, Char.ofNat 47, Char.ofNat 103, Char.ofNat 48, Char.ofNat 48, Char.ofNat 54, Char.ofNat 50, Char.ofNat 49, Char.ofNat 47, Char.ofNat 108, Char.ofNat 97, Char.ofNat 119, Char.ofNat 115, Char.ofNat 46, Char.ofNat 70, Char.ofNat 110, Char.ofNat 69, Char.ofNat 120, Char.ofNat 97, Char.ofNat 99, Char.ofNat 116, Char.ofNat 69, Char.ofNat 120, Char.ofNat 112, Char.ofNat 111, Char.ofNat 115, Char.ofNat 101, Char.ofNat 32, Char.ofNat 108, Char.ofNat 111, Char.ofNat 111, Char.ofNat 112, Char.ofNat 46, Char.ofNat 101, Char.ofNat 120, Char.ofNat 97, Char.ofNat 109, Char.ofNat 112, Char.ofNat 108, Char.ofNat 101, Char.ofNat 47, Char.ofNat 103, Char.ofNat 48, Char.ofNat 48, Char.ofNat 54, Char.ofNat 50, Char.ofNat 49, Char.ofNat 47, Char.ofNat 108, Char.ofNat 97, Char.ofNat 119, Char.ofNat 115, Char.ofNat 46, Char.ofNat 70, Char.ofNat 110, Char.ofNat 69, Char.ofNat 120, Char.ofNat 97, Char.ofNat 99, Char.ofNat 116, Char.ofNat 65, Char.ofNat 115, Char.ofNat 115, Char.ofNat 117, Char.ofNat 109, Char.ofNat 101, Char.ofNat 32, Char.ofNat 108, Char.ofNat 111, Char.ofNat 111, Char.ofNat 112, Char.ofNat 46, Char.ofNat 101, Char.ofNat 120, Char.ofNat 97, Char.ofNat 109, Char.ofNat 112, Char.ofNat 108, Char.ofNat 101, Char.ofNat 47, Char.ofNat 103, Char.ofNat 48, Char.ofNat 48, Char.ofNat 54, Char.ofNat 50, Char.ofNat 49, Char.ofNat 47, Char.ofNat 108, Char.ofNat 97, Char.ofNat 119, Char.ofNat 115, Char.ofNat 46, Char.ofNat 70, Char.ofNat 110, Char.ofNat 69, Char.ofNat 120, Char.ofNat 97, Char.ofNat 99, Char.ofNat 116, Char.ofNat 80, Char.ofNat 117, Char.ofNat 116, Char.ofNat 32, Char.ofNat 108, Char.ofNat 111, Char.ofNat 111, Char.ofNat 112, Char.ofNat 46, Char.ofNat 101, Char.ofNat 120, Char.ofNat 97, Char.ofNat 109, Char.ofNat 112, Char.ofNat 108, Char.ofNat 101, Char.ofNat 47, Char.ofNat 103, Char.ofNat 48, Char.ofNat 48, Char.ofNat 54, Char.ofNat 50, Char.ofNat 49, Char.ofNat 47, Char.ofNat 108, Char.ofNat 97, Char.ofNat 119, Char.ofNat 115, Char.ofNat 46, Char.ofNat 70, Char.ofNat 110, Char.ofNat 69, Char.ofNat 120, Char.ofNat 97, Char.ofNat 99, Char.ofNat 116, Char.ofNat 65, Char.ofNat 108, Char.ofNat 119, Char.ofNat 97, Char.ofNat 121, Char.ofNat 115]
set_option maxRecDepth 100000 in
theorem order : Try.pinned.checked.prog.initOrder = String.ofList (w1 ++ Char.ofNat 32 :: (w2 ++ Char.ofNat 32 :: (w3 ++ Char.ofNat 32 :: tl))) := by kernel_rfl
theorem list : Try.pinned.checked.prog.initOrder.toList = w1 ++ Char.ofNat 32 :: (w2 ++ Char.ofNat 32 :: (w3 ++ Char.ofNat 32 :: tl)) := by rw [order, String.toList_ofList]
theorem words (a r : List Char) (h : a.all (fun c => c != Char.ofNat 32) = true) : wordsSigns (a ++ Char.ofNat 32 :: r) = a :: wordsSigns r := by
  induction a with
  | nil => rfl
  | cons c a ih =>
    simp only [List.all_cons, Bool.and_eq_true, bne_iff_ne, ne_eq] at h
    have hr := ih (by simpa using h.2)
    rw [List.cons_append, wordsSigns]
    · rw [hr]
    · exact h.1
theorem head : behindMainWord (wordsSigns Try.pinned.checked.prog.initOrder.toList) = w3 :: wordsSigns tl := by
  rw [list, words w1 _ (by decide), words w2 _ (by decide), words w3 _ (by decide)]
  generalize wordsSigns tl = R
  rfl
theorem mayE_of (P : Program) (X : List (List Char)) (h : behindMainWord (wordsSigns P.initOrder.toList) = w3 :: X) (h1 : P.laysLater = false) (h2 : P.bearsReflect = false) (h3 : P.doorFits [] = true) : P.mayEnter = true := by
  unfold Program.mayEnter
  rw [h]
  have e : stripLifts liftWords (w3 :: X) = ([], w3 :: X) := rfl
  simp only [e, h1, h2, h3]
  rfl
theorem liftF_of (P : Program) (X : List (List Char)) (h : behindMainWord (wordsSigns P.initOrder.toList) = w3 :: X) : P.liftsFinal = false := by
  unfold Program.liftsFinal Program.headLifts
  rw [h]
  rfl
theorem makeC_of (P : Program) (X : List (List Char)) (h : behindMainWord (wordsSigns P.initOrder.toList) = w3 :: X) : P.make = some .cut := by
  unfold Program.make
  rw [h]
  rfl
theorem mk_of {P : Program} {m : Make} (h : P.make = some .cut) (hm : m = .cut) : (P.make == some m) = true := by rw [h, hm]; rfl
theorem lf_of {P : Program} {b : Bool} (h : P.liftsFinal = false) (hb : b = false) : (b == P.liftsFinal) = true := by rw [h, hb]; rfl
theorem mayE : Try.pinned.checked.prog.mayEnter = true := mayE_of _ _ head (by kernel_rfl) (by kernel_rfl) (by kernel_rfl)
theorem liftF : Try.pinned.checked.prog.liftsFinal = false := liftF_of _ _ head
theorem makeC : Try.pinned.checked.prog.make = some .cut := makeC_of _ _ head
end Go.Proofs.Ytphchdjbhbmnbaa.ini
