/-
  The walk of the law FnExactSorted.
-/
import Derived.Test.YtfplloabkceaoaaSz
import Derived.Test.YtfplloabkceaoaaTo
import Derived.Test.YtfplloabkceaoaaEqR
import Derived.Test.YtfplloabkceaoaaWd
import Derived.Deep.RegionHeld3
import Derived.Deep.DeepCutAuto
import Derived.Test.YtfplloabkceaoaaSSp
import Derived.Test.YtfplloabkceaoaaSIm
namespace Go.Proofs.Ytfplloabkceaoaa.sorted
open Go.RowKit

theorem cell_keep {w u : World} {b o : Nat} {v : Value} (h : w.cell? ⟨b, o, none⟩ = some v) (hb : Below w.heap.size w u) : u.cell? ⟨b, o, none⟩ = some v := by
  rw [hb.cell (p := ⟨b, o, none⟩) (World.block_lt_of_cell? _ _ h)]; exact h

theorem sLaw (b0 b1 b2 b3 : Nat) (l0 l1 l2 l3 : List (Int × Int)) (w : World) (n0 : l0.length ≤ 1048576) (n1 : l1.length ≤ 1048576) (n2 : l2.length ≤ 1048576) (n3 : l3.length ≤ 1048576) (o0 : Own w b0 l0.length l0 l0.length) (o1 : Own w b1 l1.length l1 l1.length) (o2 : Own w b2 l2.length l2 l2.length) (o3 : Own w b3 l3.length l3 l3.length) :
    Calls Try.prog 55 #[.agg #[.slice (some ⟨b0, 0, none⟩) l0.length l0.length, .slice (some ⟨b1, 0, none⟩) l1.length l1.length, .slice (some ⟨b2, 0, none⟩) l2.length l2.length, .slice (some ⟨b3, 0, none⟩) l3.length l3.length]] w fun e w' => ∃ p0 p1 p2 p3 q0 q1 q2 q3, e = .returned (.tuple #[.agg #[.slice p0 (okL (asnB l0 l1 l2 l3) (sortP l0)).length q0, .slice p1 (okL (asnB l0 l1 l2 l3) (sortP l1)).length q1, .slice p2 (okL (asnB l0 l1 l2 l3) (sortP l2)).length q2, .slice p3 (okL (asnB l0 l1 l2 l3) (sortP l3)).length q3], .bool (asnB l0 l1 l2 l3)]) ∧ Seen w' w.heap.size w'.heap.size p0 p1 p2 p3 (okL (asnB l0 l1 l2 l3) (sortP l0)).length (okL (asnB l0 l1 l2 l3) (sortP l1)).length (okL (asnB l0 l1 l2 l3) (sortP l2)).length (okL (asnB l0 l1 l2 l3) (sortP l3)).length (okL (asnB l0 l1 l2 l3) (sortP l0)) (okL (asnB l0 l1 l2 l3) (sortP l1)) (okL (asnB l0 l1 l2 l3) (sortP l2)) (okL (asnB l0 l1 l2 l3) (sortP l3)) ∧ Below w.heap.size w w' :=
  sSorted_any b0 b1 b2 b3 _ _ _ _ l0 l1 l2 l3 w n0 n1 n2 n3 o0 o1 o2 o3
theorem iLaw (b0 b1 b2 b3 : Nat) (l0 l1 l2 l3 : List (Int × Int)) (w : World) (n0 : l0.length ≤ 1048576) (n1 : l1.length ≤ 1048576) (n2 : l2.length ≤ 1048576) (n3 : l3.length ≤ 1048576) (o0 : Own w b0 l0.length l0 l0.length) (o1 : Own w b1 l1.length l1 l1.length) (o2 : Own w b2 l2.length l2 l2.length) (o3 : Own w b3 l3.length l3 l3.length) :
    Calls Try.prog 56 #[.agg #[.slice (some ⟨b0, 0, none⟩) l0.length l0.length, .slice (some ⟨b1, 0, none⟩) l1.length l1.length, .slice (some ⟨b2, 0, none⟩) l2.length l2.length, .slice (some ⟨b3, 0, none⟩) l3.length l3.length]] w fun e w' => ∃ p0 p1 p2 p3 q0 q1 q2 q3, e = .returned (.tuple #[.agg #[.slice p0 (okL (asnB l0 l1 l2 l3) (sortP l0)).length q0, .slice p1 (okL (asnB l0 l1 l2 l3) (sortP l1)).length q1, .slice p2 (okL (asnB l0 l1 l2 l3) (sortP l2)).length q2, .slice p3 (okL (asnB l0 l1 l2 l3) (sortP l3)).length q3], .bool (asnB l0 l1 l2 l3)]) ∧ Four w' w.heap.size w'.heap.size p0 p1 p2 p3 (okL (asnB l0 l1 l2 l3) (sortP l0)).length (okL (asnB l0 l1 l2 l3) (sortP l1)).length (okL (asnB l0 l1 l2 l3) (sortP l2)).length (okL (asnB l0 l1 l2 l3) (sortP l3)).length (okL (asnB l0 l1 l2 l3) (sortP l0)) (okL (asnB l0 l1 l2 l3) (sortP l1)) (okL (asnB l0 l1 l2 l3) (sortP l2)) (okL (asnB l0 l1 l2 l3) (sortP l3)) ∧ Below w.heap.size w w' :=
  iSorted_any _ _ _ _ _ _ _ _ l0 l1 l2 l3 w n0 n1 n2 n3 o0.row o1.row o2.row o3.row ⟨(fun e => by cases e), Nat.le_refl _⟩ ⟨(fun e => by cases e), Nat.le_refl _⟩ ⟨(fun e => by cases e), Nat.le_refl _⟩ ⟨(fun e => by cases e), Nat.le_refl _⟩
theorem okL_le (ok : Bool) (l : List (Int × Int)) (h : l.length ≤ 1048576) : (okL ok l).length ≤ 1048576 := by
  unfold okL
  split
  · exact h
  · exact Nat.zero_le _

set_option maxRecDepth 20000 in
set_option maxHeartbeats 16000000 in
theorem walk (a00 a01 a02 a03 : Option Addr) (c00 c01 c02 c03 : Nat) (l00 l01 l02 l03 : List (Int × Int)) (w : World)
    (m00 : l00.length ≤ maxLen) (m01 : l01.length ≤ maxLen) (m02 : l02.length ≤ maxLen) (m03 : l03.length ≤ maxLen) (r00 : PRow w a00 l00) (r01 : PRow w a01 l01) (r02 : PRow w a02 l02) (r03 : PRow w a03 l03) :
    Calls Try.prog 7 #[.agg #[.slice a00 l00.length c00, .slice a01 l01.length c01, .slice a02 l02.length c02, .slice a03 l03.length c03]] w fun e w' => e = .returned (.bool true) ∧ Below w.heap.size w w' := by
  have P0 := Box.new w (.slice a00 l00.length c00) (.slice a01 l01.length c01) (.slice a02 l02.length c02) (.slice a03 l03.length c03) 24
  have L : Below w.heap.size w (w.alloc (.cells #[.slice a00 l00.length c00, .slice a01 l01.length c01, .slice a02 l02.length c02, .slice a03 l03.length c03] 24)) := ((Below.refl _ _).alloc (by first | exact Nat.le_refl _ | (simp; done) | (simp; omega)) _)
  go_enter Try.func7, Try.ntmps7
  go_wp2_with fail
  refine (szAsn_any _ _ _ _ _ _ _ _ _ _ _ _ _ _ m00 m01 m02 m03 (by omega) (by omega)).mono ?_
  rintro e ws0 ⟨rfl, hb⟩
  replace P0 := P0.below hb P0.lt; replace L := L.trans (hb.mono L.size)
  clear hb
  by_cases hT : 1048576 < (l00.length : Int) + l01.length + l02.length + l03.length
  · rw [show szI ((l00.length : Int) + l01.length + l02.length + l03.length) 1048576 = -1 by unfold szI; rw [if_pos (by omega)]]
    go_wp2
    go_ret
    exact ⟨rfl, L⟩
  have n00 : l00.length ≤ 1048576 := by omega
  have n01 : l01.length ≤ 1048576 := by omega
  have n02 : l02.length ≤ 1048576 := by omega
  have n03 : l03.length ≤ 1048576 := by omega
  obtain ⟨left0, hl0, hl00, hl01⟩ : ∃ left : Int, szI ((l00.length : Int) + l01.length + l02.length + l03.length) 1048576 = left ∧ ¬ left < 0 ∧ left ≤ 1048576 := ⟨_, rfl, by unfold szI; rw [if_neg (by omega)]; omega, by unfold szI; rw [if_neg (by omega)]; omega⟩
  rw [hl0]
  clear hl0 hT
  clear hl01
  have x0' := P0.c0; have x1' := P0.c1; have x2' := P0.c2; have x3' := P0.c3
  go_wp2_with fail
  clear x0' x1' x2' x3'
  refine (toAsn_any _ _ _ _ _ _ _ _ _ _ _ _ _ n00 n01 n02 n03 (by exact r00.below L (Nat.le_refl _)) (by exact r01.below L (Nat.le_refl _)) (by exact r02.below L (Nat.le_refl _)) (by exact r03.below L (Nat.le_refl _))).mono ?_
  rintro e bw ⟨b00, b01, b02, b03, rfl, -, -, -, -, O00, O01, O02, O03, hb⟩
  replace P0 := P0.below hb P0.lt; replace L := L.trans (hb.mono L.size)
  clear hb
  go_wp2_with fail
  refine (sLaw _ _ _ _ _ _ _ _ _  n00 n01 n02 n03 (by exact O00) (by exact O01) (by exact O02) (by exact O03)).mono ?_
  rintro e w3 ⟨p0, p1, p2, p3, q0, q1, q2, q3, rfl, W, hb⟩
  replace P0 := P0.below hb P0.lt; replace L := L.trans (hb.mono L.size)
  clear O00 O01 O02 O03
  clear hb
  have V0 := okL_le (asnB l00 l01 l02 l03) (sortP l00) (by rw [sortP_length]; exact n00)
  have V1 := okL_le (asnB l00 l01 l02 l03) (sortP l01) (by rw [sortP_length]; exact n01)
  have V2 := okL_le (asnB l00 l01 l02 l03) (sortP l02) (by rw [sortP_length]; exact n02)
  have V3 := okL_le (asnB l00 l01 l02 l03) (sortP l03) (by rw [sortP_length]; exact n03)
  generalize hO : asnB l00 l01 l02 l03 = ok at *
  have HO : Hid (asnB l00 l01 l02 l03 = ok) := hO
  clear hO
  generalize hV0 : okL (ok) (sortP l00) = U0 at *
  have HV0 : Hid (okL (ok) (sortP l00) = U0) := hV0
  clear hV0
  generalize hn0 : U0.length = N0 at *
  have E0 : Hid (U0.length = N0) := hn0
  clear hn0
  generalize hV1 : okL (ok) (sortP l01) = U1 at *
  have HV1 : Hid (okL (ok) (sortP l01) = U1) := hV1
  clear hV1
  generalize hn1 : U1.length = N1 at *
  have E1 : Hid (U1.length = N1) := hn1
  clear hn1
  generalize hV2 : okL (ok) (sortP l02) = U2 at *
  have HV2 : Hid (okL (ok) (sortP l02) = U2) := hV2
  clear hV2
  generalize hn2 : U2.length = N2 at *
  have E2 : Hid (U2.length = N2) := hn2
  clear hn2
  generalize hV3 : okL (ok) (sortP l03) = U3 at *
  have HV3 : Hid (okL (ok) (sortP l03) = U3) := hV3
  clear hV3
  generalize hn3 : U3.length = N3 at *
  have E3 : Hid (U3.length = N3) := hn3
  clear hn3
  have zP0 := P0.lt
  have WB := Box.new w3 (.slice p0 N0 q0) (.slice p1 N1 q1) (.slice p2 N2 q2) (.slice p3 N3 q3) 28
  have al : Below w3.heap.size w3 (w3.alloc (.cells #[.slice p0 N0 q0, .slice p1 N1 q1, .slice p2 N2 q2, .slice p3 N3 q3] 28)) := (Below.refl _ _).alloc (Nat.le_refl _) _
  have za : (w3.alloc (.cells #[.slice p0 N0 q0, .slice p1 N1 q1, .slice p2 N2 q2, .slice p3 N3 q3] 28)).heap.size = w3.heap.size + 1 := by simp
  replace P0 := P0.below al P0.lt; replace L := L.trans (al.mono L.size); replace W := W.below al (by omega)
  clear al
  have SW : w3.heap.size + 1 ≤ (w3.alloc (.cells #[.slice p0 N0 q0, .slice p1 N1 q1, .slice p2 N2 q2, .slice p3 N3 q3] 28)).heap.size := Nat.le_of_eq za.symm
  have x0' := P0.c0; have x1' := P0.c1; have x2' := P0.c2; have x3' := P0.c3
  go_wp2_with fail
  clear x0' x1' x2' x3'
  refine (toAsn_any _ _ _ _ _ _ _ _ _ _ _ _ _ n00 n01 n02 n03 (by exact r00.below L (Nat.le_refl _)) (by exact r01.below L (Nat.le_refl _)) (by exact r02.below L (Nat.le_refl _)) (by exact r03.below L (Nat.le_refl _))).mono ?_
  rintro e wx0 ⟨d00, d01, d02, d03, rfl, g00, g01, g02, g03, o00, o01, o02, o03, hb⟩
  replace P0 := P0.below hb P0.lt; replace L := L.trans (hb.mono L.size); replace W := W.below hb (by omega); replace WB := WB.below hb WB.lt
  replace SW := Nat.le_trans SW hb.size
  rw [za] at g00
  clear hb za
  generalize w3.heap.size = Yw3 at *
  have DD0 : d03 < wx0.heap.size := o03.1
  have D0 := o03.1
  replace D0 : d03 + 1 ≤ wx0.heap.size := D0
  have stX0 := D0
  have X0 := Box.new wx0 (.slice (some ⟨d00, 0, none⟩) l00.length l00.length) (.slice (some ⟨d01, 0, none⟩) l01.length l01.length) (.slice (some ⟨d02, 0, none⟩) l02.length l02.length) (.slice (some ⟨d03, 0, none⟩) l03.length l03.length) 28
  have al : Below wx0.heap.size wx0 (wx0.alloc (.cells #[.slice (some ⟨d00, 0, none⟩) l00.length l00.length, .slice (some ⟨d01, 0, none⟩) l01.length l01.length, .slice (some ⟨d02, 0, none⟩) l02.length l02.length, .slice (some ⟨d03, 0, none⟩) l03.length l03.length] 28)) := (Below.refl _ _).alloc (Nat.le_refl _) _
  have za : (wx0.alloc (.cells #[.slice (some ⟨d00, 0, none⟩) l00.length l00.length, .slice (some ⟨d01, 0, none⟩) l01.length l01.length, .slice (some ⟨d02, 0, none⟩) l02.length l02.length, .slice (some ⟨d03, 0, none⟩) l03.length l03.length] 28)).heap.size = wx0.heap.size + 1 := by simp
  replace P0 := P0.below al P0.lt; replace L := L.trans (al.mono L.size); replace W := W.below al (by omega); replace WB := WB.below al WB.lt
  replace o00 := o00.below al o00.1; replace o01 := o01.below al o01.1; replace o02 := o02.below al o02.1; replace o03 := o03.below al o03.1
  replace SW := Nat.le_trans SW al.size; replace D0 := Nat.le_trans D0 al.size
  clear al
  have SX0 : wx0.heap.size + 1 ≤ (wx0.alloc (.cells #[.slice (some ⟨d00, 0, none⟩) l00.length l00.length, .slice (some ⟨d01, 0, none⟩) l01.length l01.length, .slice (some ⟨d02, 0, none⟩) l02.length l02.length, .slice (some ⟨d03, 0, none⟩) l03.length l03.length] 28)).heap.size := Nat.le_of_eq za.symm
  go_wp2_with fail
  refine (iLaw _ _ _ _ _ _ _ _ _  n00 n01 n02 n03 (by exact o00) (by exact o01) (by exact o02) (by exact o03)).mono ?_
  rintro e w5 ⟨s0, s1, s2, s3, t0, t1, t2, t3, rfl, G, hb⟩
  rw [HO.out, HV0.out, HV1.out, HV2.out, HV3.out, E0.out, E1.out, E2.out, E3.out] at G
  rw [HO.out, HV0.out, HV1.out, HV2.out, HV3.out, E0.out, E1.out, E2.out, E3.out]
  rw [za] at G
  replace P0 := P0.below hb P0.lt; replace L := L.trans (hb.mono L.size); replace W := W.below hb (by omega); replace WB := WB.below hb WB.lt
  replace o00 := o00.below hb o00.1; replace o01 := o01.below hb o01.1; replace o02 := o02.below hb o02.1; replace o03 := o03.below hb o03.1
  replace X0 := X0.below hb X0.lt; replace SW := Nat.le_trans SW hb.size; replace D0 := Nat.le_trans D0 hb.size; replace SX0 := Nat.le_trans SX0 hb.size
  clear hb za
  generalize wx0.heap.size = Ywx0 at *
  have stGB := SX0
  have GB := Box.new w5 (.slice s0 N0 t0) (.slice s1 N1 t1) (.slice s2 N2 t2) (.slice s3 N3 t3) 28
  have al : Below w5.heap.size w5 (w5.alloc (.cells #[.slice s0 N0 t0, .slice s1 N1 t1, .slice s2 N2 t2, .slice s3 N3 t3] 28)) := (Below.refl _ _).alloc (Nat.le_refl _) _
  have za : (w5.alloc (.cells #[.slice s0 N0 t0, .slice s1 N1 t1, .slice s2 N2 t2, .slice s3 N3 t3] 28)).heap.size = w5.heap.size + 1 := by simp
  replace P0 := P0.below al P0.lt; replace L := L.trans (al.mono L.size); replace W := W.below al (by omega); replace WB := WB.below al WB.lt
  replace o00 := o00.below al o00.1; replace o01 := o01.below al o01.1; replace o02 := o02.below al o02.1; replace o03 := o03.below al o03.1
  replace X0 := X0.below al X0.lt; replace G := G.below al (by omega); replace SW := Nat.le_trans SW al.size; replace D0 := Nat.le_trans D0 al.size
  replace SX0 := Nat.le_trans SX0 al.size
  clear al
  have SG : w5.heap.size + 1 ≤ (w5.alloc (.cells #[.slice s0 N0 t0, .slice s1 N1 t1, .slice s2 N2 t2, .slice s3 N3 t3] 28)).heap.size := Nat.le_of_eq za.symm
  have u0' := WB.c0; have u1' := WB.c1; have u2' := WB.c2; have u3' := WB.c3; have y0' := GB.c0; have y1' := GB.c1; have y2' := GB.c2; have y3' := GB.c3
  go_wp2_with fail
  clear u0' y0' u1' y1' u2' y2' u3' y3'
  refine (eqAsn_seen _ _ _ _ _ _ _ _ _ _ _ _ _ _ _ _ _ _ _ _ _ _ _ _ _ _ _ _ _ V0 V1 V2 V3 (by exact G.seen) (by exact W)).mono ?_
  rintro e w6 ⟨rfl, hb⟩
  replace P0 := P0.below hb P0.lt; replace L := L.trans (hb.mono L.size); replace W := W.below hb (by omega); replace WB := WB.below hb WB.lt
  replace o00 := o00.below hb o00.1; replace o01 := o01.below hb o01.1; replace o02 := o02.below hb o02.1; replace o03 := o03.below hb o03.1
  replace X0 := X0.below hb X0.lt; replace G := G.below hb (by omega); replace GB := GB.below hb GB.lt; replace SW := Nat.le_trans SW hb.size
  replace D0 := Nat.le_trans D0 hb.size; replace SX0 := Nat.le_trans SX0 hb.size; replace SG := Nat.le_trans SG hb.size
  clear hb
  clear za
  generalize w5.heap.size = Yw5 at *
  have x0' := P0.c0; have x1' := P0.c1; have x2' := P0.c2; have x3' := P0.c3; have y0' := X0.c0; have y1' := X0.c1; have y2' := X0.c2; have y3' := X0.c3
  go_upto_region 10 with fail
  go_cut [45] (fun v6 wz => v6 = .bool false ∧ Below w6.heap.size w6 wz)
  case first =>
    go_region_with (first
      | (go_at_call 41; refine (toAsn_any _ _ _ _ _ _ _ _ _ _ _ _ _ n00 n01 n02 n03 ?_ ?_ ?_ ?_).mono ?_; exact r00.below L.drew (Nat.le_refl _); exact r01.below L.drew (Nat.le_refl _); exact r02.below L.drew (Nat.le_refl _); exact r03.below L.drew (Nat.le_refl _); rintro e we0 ⟨f0, f1, f2, f3, rfl, -, -, -, -, h0, h1, h2, h3, hb7⟩; have X7 := X0.drew.below hb7 X0.lt; have z0 := X7.c0; have z1 := X7.c1; have z2 := X7.c2; have z3 := X7.c3; clear X7)
      | (go_at_call 43; refine (eqAsn_same _ _ _ _ _ _ _ _ _ _ _ _ _ _ _ _ _ _ _ _ _ n00 n01 n02 n03 ?_ ?_ ?_ ?_ ?_ ?_ ?_ ?_).mono ?_; exact (o00.drew.below hb7 o00.1).row; exact (o01.drew.below hb7 o01.1).row; exact (o02.drew.below hb7 o02.1).row; exact (o03.drew.below hb7 o03.1).row; exact h0.row; exact h1.row; exact h2.row; exact h3.row; rintro e wf0 ⟨rfl, hb8⟩))
    all_goals
      have hb : Below w6.heap.size w6 wf0 := ((Below.refl _ _).drew.trans hb7).trans (hb8.mono (by have := hb7.size; simpa using this))
      go_wp2_with fail
      go_meet
      exact ⟨rfl, hb⟩
  case rest =>
    obtain ⟨rfl, hb⟩ := hcut
    rename World => wf0
    replace P0 := P0.below hb P0.lt; replace L := L.trans (hb.mono L.size); replace W := W.below hb (by omega); replace WB := WB.below hb WB.lt
    replace o00 := o00.below hb o00.1; replace o01 := o01.below hb o01.1; replace o02 := o02.below hb o02.1; replace o03 := o03.below hb o03.1
    replace X0 := X0.below hb X0.lt; replace G := G.below hb (by omega); replace GB := GB.below hb GB.lt; replace SW := Nat.le_trans SW hb.size
    replace D0 := Nat.le_trans D0 hb.size; replace SX0 := Nat.le_trans SX0 hb.size; replace SG := Nat.le_trans SG hb.size
    clear hb x0' x1' x2' x3' y0' y1' y2' y3'
    have y0' := X0.c0; have y1' := X0.c1; have y2' := X0.c2; have y3' := X0.c3
    go_wp2_with fail
    clear y0' y1' y2' y3'
    refine (markAsn_four d00 (d03 + 1) _ _ _ _ _ _ _ _ _ _ _ _ l00 l01 l02 l03 _ _ (by omega) (by omega) (by omega) (by omega) (by omega) (by omega) (by omega) (by exact Four.ofOwn (Nat.le_refl _) g01 g02 g03 (Nat.lt_succ_self _) o00 o01 o02 o03)).mono ?_
    rintro e wm0 ⟨rfl, -, ho⟩
    clear X0 o00 o01 o02 o03
    replace P0 := P0.out ho (by omega); replace L := L.trans (ho.below (by omega) L.size); replace W := W.out ho (by omega); replace WB := WB.out ho (by omega)
    replace G := G.out ho (by omega); replace GB := GB.out ho (by omega); replace SW := Nat.le_trans SW ho.size; replace D0 := Nat.le_trans D0 ho.size
    replace SX0 := Nat.le_trans SX0 ho.size; replace SG := Nat.le_trans SG ho.size
    clear ho
    obtain ⟨K, hK, hK0⟩ : ∃ K : Int, ((1 : Int) + 2 * (l00.length : Int) + 2 * (l01.length : Int) + 2 * (l02.length : Int) + 2 * (l03.length : Int)) = K ∧ ¬ K < 0 := ⟨_, rfl, by omega⟩
    rw [hK]
    clear hK
    have u0' := WB.c0; have u1' := WB.c1; have u2' := WB.c2; have u3' := WB.c3; have y0' := GB.c0; have y1' := GB.c1; have y2' := GB.c2; have y3' := GB.c3
    go_wp2_with fail
    clear u0' y0' u1' y1' u2' y2' u3' y3'
    refine (eqAsn_seen _ _ _ _ _ _ _ _ _ _ _ _ _ _ _ _ _ _ _ _ _ _ _ _ _ _ _ _ _ V0 V1 V2 V3 (by exact G.seen) (by exact W)).mono ?_
    rintro e w10 ⟨rfl, hb⟩
    replace P0 := P0.below hb P0.lt; replace L := L.trans (hb.mono L.size); replace W := W.below hb (by omega); replace WB := WB.below hb WB.lt
    replace G := G.below hb (by omega); replace GB := GB.below hb GB.lt; replace SW := Nat.le_trans SW hb.size; replace D0 := Nat.le_trans D0 hb.size
    replace SX0 := Nat.le_trans SX0 hb.size; replace SG := Nat.le_trans SG hb.size
    clear hb
    have y0' := GB.c0; have y1' := GB.c1; have y2' := GB.c2; have y3' := GB.c3
    go_wp2_with fail
    clear y0' y1' y2' y3'
    refine (markAsn_four (Ywx0 + 1) Yw5 _ _ _ _ _ _ _ _ _ _ _ _ _ _ _ _ _ _ (by omega) (by omega) (by omega) (by omega) (by omega) (by omega) (by omega) (by exact G)).mono ?_
    rintro e w11 ⟨rfl, M, ho⟩
    clear G
    replace P0 := P0.out ho (by omega); replace L := L.trans (ho.below (by omega) L.size); replace W := W.out ho (by omega); replace WB := WB.out ho (by omega)
    replace GB := GB.out ho (by omega); replace SW := Nat.le_trans SW ho.size; replace D0 := Nat.le_trans D0 ho.size; replace SX0 := Nat.le_trans SX0 ho.size
    replace SG := Nat.le_trans SG ho.size
    clear ho
    have T0 : ¬ ((1 : Int) + 2 * (N0 : Int) + 2 * N1 + 2 * N2 + 2 * N3 < 0) := by omega
    have y0' := GB.c0; have y1' := GB.c1; have y2' := GB.c2; have y3' := GB.c3
    go_wp2_with fail
    clear y0' y1' y2' y3'
    refine (heldAsn_four (Ywx0 + 1) Yw5 _ _ _ _ _ _ _ _ _ _ _ _ _ _ (by omega) (by omega) (by omega) (by omega) (by omega) (by omega) (by omega) (by exact M)).mono ?_
    rintro e w12 ⟨rfl, hb⟩
    replace P0 := P0.below hb P0.lt; replace L := L.trans (hb.mono L.size); replace W := W.below hb (by omega); replace WB := WB.below hb WB.lt
    replace GB := GB.below hb GB.lt; replace M := M.below hb (by omega); replace SW := Nat.le_trans SW hb.size; replace D0 := Nat.le_trans D0 hb.size
    replace SX0 := Nat.le_trans SX0 hb.size; replace SG := Nat.le_trans SG hb.size
    clear hb
    have x0' := P0.c0; have x1' := P0.c1; have x2' := P0.c2; have x3' := P0.c3
    go_wp2_with fail
    clear x0' x1' x2' x3'
    refine (toAsn_any _ _ _ _ _ _ _ _ _ _ _ _ _ n00 n01 n02 n03 (by exact r00.below L (Nat.le_refl _)) (by exact r01.below L (Nat.le_refl _)) (by exact r02.below L (Nat.le_refl _)) (by exact r03.below L (Nat.le_refl _))).mono ?_
    rintro e jw ⟨j00, j01, j02, j03, rfl, -, -, -, -, O00, O01, O02, O03, hb⟩
    replace P0 := P0.below hb P0.lt; replace L := L.trans (hb.mono L.size); replace W := W.below hb (by omega); replace WB := WB.below hb WB.lt
    replace GB := GB.below hb GB.lt; replace M := M.below hb (by omega); replace SW := Nat.le_trans SW hb.size; replace D0 := Nat.le_trans D0 hb.size
    replace SX0 := Nat.le_trans SX0 hb.size; replace SG := Nat.le_trans SG hb.size
    clear hb
    go_wp2_with fail
    refine (iLaw _ _ _ _ _ _ _ _ _  n00 n01 n02 n03 (by exact O00) (by exact O01) (by exact O02) (by exact O03)).mono ?_
    rintro e w14 ⟨v0, v1, v2, v3, i0, i1, i2, i3, rfl, Z, hb⟩
    replace P0 := P0.below hb P0.lt; replace L := L.trans (hb.mono L.size); replace W := W.below hb (by omega); replace WB := WB.below hb WB.lt
    replace GB := GB.below hb GB.lt; replace M := M.below hb (by omega); replace SW := Nat.le_trans SW hb.size; replace D0 := Nat.le_trans D0 hb.size
    replace SX0 := Nat.le_trans SX0 hb.size; replace SG := Nat.le_trans SG hb.size
    clear O00 O01 O02 O03
    rw [HO.out, HV0.out, HV1.out, HV2.out, HV3.out, E0.out, E1.out, E2.out, E3.out] at Z
    rw [HO.out, HV0.out, HV1.out, HV2.out, HV3.out, E0.out, E1.out, E2.out, E3.out]
    replace Z := Z.seen
    clear hb
    have ZL : w14.heap.size ≤ w14.heap.size := Nat.le_refl _
    have stZB := ZL
    have ZB := Box.new w14 (.slice v0 N0 i0) (.slice v1 N1 i1) (.slice v2 N2 i2) (.slice v3 N3 i3) 28
    have al : Below w14.heap.size w14 (w14.alloc (.cells #[.slice v0 N0 i0, .slice v1 N1 i1, .slice v2 N2 i2, .slice v3 N3 i3] 28)) := (Below.refl _ _).alloc (Nat.le_refl _) _
    have za : (w14.alloc (.cells #[.slice v0 N0 i0, .slice v1 N1 i1, .slice v2 N2 i2, .slice v3 N3 i3] 28)).heap.size = w14.heap.size + 1 := by simp
    replace P0 := P0.below al P0.lt; replace L := L.trans (al.mono L.size); replace W := W.below al (by omega); replace WB := WB.below al WB.lt
    replace GB := GB.below al GB.lt; replace M := M.below al (by omega); replace Z := Z.below al (by omega); replace SW := Nat.le_trans SW al.size
    replace D0 := Nat.le_trans D0 al.size; replace SX0 := Nat.le_trans SX0 al.size; replace SG := Nat.le_trans SG al.size; replace ZL := Nat.le_trans ZL al.size
    clear al
    have SZ : w14.heap.size + 1 ≤ (w14.alloc (.cells #[.slice v0 N0 i0, .slice v1 N1 i1, .slice v2 N2 i2, .slice v3 N3 i3] 28)).heap.size := Nat.le_of_eq za.symm
    have u0' := WB.c0; have u1' := WB.c1; have u2' := WB.c2; have u3' := WB.c3
    go_wp2_with fail
    clear u0' u1' u2' u3'
    refine (eqAsn_seen _ _ _ _ _ _ _ _ _ _ _ _ _ _ _ _ _ _ _ _ _ _ _ _ _ _ _ _ _ V0 V1 V2 V3 (by exact Z) (by exact W)).mono ?_
    rintro e w15 ⟨rfl, hb⟩
    clear Z ZL
    replace P0 := P0.below hb P0.lt; replace L := L.trans (hb.mono L.size); replace W := W.below hb (by omega); replace WB := WB.below hb WB.lt
    replace GB := GB.below hb GB.lt; replace M := M.below hb (by omega); replace ZB := ZB.below hb ZB.lt; replace SW := Nat.le_trans SW hb.size
    replace D0 := Nat.le_trans D0 hb.size; replace SX0 := Nat.le_trans SX0 hb.size; replace SG := Nat.le_trans SG hb.size; replace SZ := Nat.le_trans SZ hb.size
    clear hb za
    have y0' := GB.c0; have y1' := GB.c1; have y2' := GB.c2; have y3' := GB.c3
    go_wp2_with fail
    clear y0' y1' y2' y3'
    refine (heldAsn_four (Ywx0 + 1) Yw5 _ _ _ _ _ _ _ _ _ _ _ _ _ _ (by omega) (by omega) (by omega) (by omega) (by omega) (by omega) (by omega) (by exact M)).mono ?_
    rintro e w16 ⟨rfl, hb⟩
    replace P0 := P0.below hb P0.lt; replace L := L.trans (hb.mono L.size); replace W := W.below hb (by omega); replace WB := WB.below hb WB.lt
    replace GB := GB.below hb GB.lt; replace M := M.below hb (by omega); replace ZB := ZB.below hb ZB.lt; replace SW := Nat.le_trans SW hb.size
    replace D0 := Nat.le_trans D0 hb.size; replace SX0 := Nat.le_trans SX0 hb.size; replace SG := Nat.le_trans SG hb.size; replace SZ := Nat.le_trans SZ hb.size
    clear hb
    go_wp2
    go_ret
    exact ⟨rfl, L⟩

end Go.Proofs.Ytfplloabkceaoaa.sorted
