/-
  The walk of the law FnExactStar.
-/
import Derived.Test.YtmiiebmnjijhoaaSz
import Derived.Test.YtmiiebmnjijhoaaTo
import Derived.Test.YtmiiebmnjijhoaaEqR
import Derived.Test.YtmiiebmnjijhoaaWd
import Derived.Deep.RegionHeld3
import Derived.Deep.DeepCutAuto
import Derived.Test.YtmiiebmnjijhoaaSta
import Derived.Test.YtmiiebmnjijhoaaCu
namespace Go.Proofs.Ytmiiebmnjijhoaa.star
open Go.RowKit

theorem cell_keep {w u : World} {b o : Nat} {v : Value} (h : w.cell? ⟨b, o, none⟩ = some v) (hb : Below w.heap.size w u) : u.cell? ⟨b, o, none⟩ = some v := by
  rw [hb.cell (p := ⟨b, o, none⟩) (World.block_lt_of_cell? _ _ h)]; exact h
theorem okL_le (ok : Bool) (l : List (Int × Int)) (h : l.length ≤ 1048576) : (okL ok l).length ≤ 1048576 := by
  unfold okL
  split
  · exact h
  · exact Nat.zero_le _
theorem star_le {l0 l1 l2 l3 k0 k1 k2 k3 : List (Int × Int)} : (okL (starB l0 l1 l2 l3 k0 k1 k2 k3) (l0 ++ k0)).length ≤ 1048576 ∧ (okL (starB l0 l1 l2 l3 k0 k1 k2 k3) (l1 ++ k1)).length ≤ 1048576 ∧ (okL (starB l0 l1 l2 l3 k0 k1 k2 k3) (l2 ++ k2)).length ≤ 1048576 ∧ (okL (starB l0 l1 l2 l3 k0 k1 k2 k3) (l3 ++ k3)).length ≤ 1048576 := by
  cases h : starB l0 l1 l2 l3 k0 k1 k2 k3
  · simp [okL]
  · unfold starB at h
    simp only [Bool.and_eq_true] at h
    obtain ⟨a, b, c, d⟩ := asnB_len h.2
    simp only [okL, if_true]
    omega

set_option maxRecDepth 20000 in
set_option maxHeartbeats 16000000 in
theorem walk (a00 a01 a02 a03 : Option Addr) (c00 c01 c02 c03 : Nat) (l00 l01 l02 l03 : List (Int × Int)) (a10 a11 a12 a13 : Option Addr) (c10 c11 c12 c13 : Nat) (l10 l11 l12 l13 : List (Int × Int)) (w : World)
    (m00 : l00.length ≤ maxLen) (m01 : l01.length ≤ maxLen) (m02 : l02.length ≤ maxLen) (m03 : l03.length ≤ maxLen) (r00 : PRow w a00 l00) (r01 : PRow w a01 l01) (r02 : PRow w a02 l02) (r03 : PRow w a03 l03) (m10 : l10.length ≤ maxLen) (m11 : l11.length ≤ maxLen) (m12 : l12.length ≤ maxLen) (m13 : l13.length ≤ maxLen) (r10 : PRow w a10 l10) (r11 : PRow w a11 l11) (r12 : PRow w a12 l12) (r13 : PRow w a13 l13) :
    Calls Try.prog 4 #[.agg #[.slice a00 l00.length c00, .slice a01 l01.length c01, .slice a02 l02.length c02, .slice a03 l03.length c03], .agg #[.slice a10 l10.length c10, .slice a11 l11.length c11, .slice a12 l12.length c12, .slice a13 l13.length c13]] w fun e w' => e = .returned (.bool true) ∧ Below w.heap.size w w' := by
  have P0 := (Box.new w (.slice a00 l00.length c00) (.slice a01 l01.length c01) (.slice a02 l02.length c02) (.slice a03 l03.length c03) 24).alloc (.cells #[.slice a10 l10.length c10, .slice a11 l11.length c11, .slice a12 l12.length c12, .slice a13 l13.length c13] 24)
  have P1 := Box.new (w.alloc (.cells #[.slice a00 l00.length c00, .slice a01 l01.length c01, .slice a02 l02.length c02, .slice a03 l03.length c03] 24)) (.slice a10 l10.length c10) (.slice a11 l11.length c11) (.slice a12 l12.length c12) (.slice a13 l13.length c13) 24
  rw [World.size_alloc] at P1
  have L : Below w.heap.size w ((w.alloc (.cells #[.slice a00 l00.length c00, .slice a01 l01.length c01, .slice a02 l02.length c02, .slice a03 l03.length c03] 24)).alloc (.cells #[.slice a10 l10.length c10, .slice a11 l11.length c11, .slice a12 l12.length c12, .slice a13 l13.length c13] 24)) := (((Below.refl _ _).alloc (by first | exact Nat.le_refl _ | (simp; done) | (simp; omega)) _).alloc (by first | exact Nat.le_refl _ | (simp; done) | (simp; omega)) _)
  go_enter Try.func4, Try.ntmps4
  go_wp2_with fail
  refine (szAsn_any _ _ _ _ _ _ _ _ _ _ _ _ _ _ m00 m01 m02 m03 (by omega) (by omega)).mono ?_
  rintro e ws0 ⟨rfl, hb⟩
  replace P0 := P0.below hb P0.lt; replace P1 := P1.below hb P1.lt; replace L := L.trans (hb.mono L.size)
  clear hb
  by_cases hT : 1048576 < (l00.length : Int) + l01.length + l02.length + l03.length
  · rw [show szI ((l00.length : Int) + l01.length + l02.length + l03.length) 1048576 = -1 by unfold szI; rw [if_pos (by omega)]]
    go_wp2
    go_ret
    exact ⟨rfl, L⟩
  have n00 : l00.length ≤ 1048576 := by omega
  have n01 : l01.length ≤ 1048576 := by omega
  have n02 : l02.length ≤ 1048576 := by omega
  have n03 : l03.length ≤ 1048576 := by omega
  obtain ⟨left0, hl0, hl00, hl01⟩ : ∃ left : Int, szI ((l00.length : Int) + l01.length + l02.length + l03.length) 1048576 = left ∧ ¬ left < 0 ∧ left ≤ 1048576 := ⟨_, rfl, by unfold szI; rw [if_neg (by omega)]; omega, by unfold szI; rw [if_neg (by omega)]; omega⟩
  rw [hl0]
  clear hl0 hT
  have x0' := P1.c0; have x1' := P1.c1; have x2' := P1.c2; have x3' := P1.c3
  go_wp2_with fail
  clear x0' x1' x2' x3'
  refine (szAsn_any _ _ _ _ _ _ _ _ _ _ _ _ _ _ m10 m11 m12 m13 (by omega) (by omega)).mono ?_
  rintro e ws1 ⟨rfl, hb⟩
  replace P0 := P0.below hb P0.lt; replace P1 := P1.below hb P1.lt; replace L := L.trans (hb.mono L.size)
  clear hb
  by_cases hT : left0 < (l10.length : Int) + l11.length + l12.length + l13.length
  · rw [show szI ((l10.length : Int) + l11.length + l12.length + l13.length) left0 = -1 by unfold szI; rw [if_pos (by omega)]]
    go_wp2
    go_ret
    exact ⟨rfl, L⟩
  have n10 : l10.length ≤ 1048576 := by omega
  have n11 : l11.length ≤ 1048576 := by omega
  have n12 : l12.length ≤ 1048576 := by omega
  have n13 : l13.length ≤ 1048576 := by omega
  obtain ⟨left1, hl1, hl10, hl11⟩ : ∃ left : Int, szI ((l10.length : Int) + l11.length + l12.length + l13.length) left0 = left ∧ ¬ left < 0 ∧ left ≤ 1048576 := ⟨_, rfl, by unfold szI; rw [if_neg (by omega)]; omega, by unfold szI; rw [if_neg (by omega)]; omega⟩
  rw [hl1]
  clear hl1 hT
  clear hl01
  clear hl11
  have hS1 : Below w.heap.size w ws1 ∧ w.heap.size + 2 ≤ ws1.heap.size ∧ ws1.cell? ⟨w.heap.size, 0, none⟩ = some (.slice a00 l00.length c00) ∧ ws1.cell? ⟨w.heap.size, 1, none⟩ = some (.slice a01 l01.length c01) ∧ ws1.cell? ⟨w.heap.size, 2, none⟩ = some (.slice a02 l02.length c02) ∧ ws1.cell? ⟨w.heap.size, 3, none⟩ = some (.slice a03 l03.length c03) ∧ ws1.cell? ⟨w.heap.size + 1, 0, none⟩ = some (.slice a10 l10.length c10) ∧ ws1.cell? ⟨w.heap.size + 1, 1, none⟩ = some (.slice a11 l11.length c11) ∧ ws1.cell? ⟨w.heap.size + 1, 2, none⟩ = some (.slice a12 l12.length c12) ∧ ws1.cell? ⟨w.heap.size + 1, 3, none⟩ = some (.slice a13 l13.length c13) := ⟨L, by have := P1.lt; omega, P0.c0, P0.c1, P0.c2, P0.c3, P1.c0, P1.c1, P1.c2, P1.c3⟩
  have hS0 : Below w.heap.size w ws1.drew ∧ w.heap.size + 2 ≤ ws1.drew.heap.size ∧ ws1.drew.cell? ⟨w.heap.size, 0, none⟩ = some (.slice a00 l00.length c00) ∧ ws1.drew.cell? ⟨w.heap.size, 1, none⟩ = some (.slice a01 l01.length c01) ∧ ws1.drew.cell? ⟨w.heap.size, 2, none⟩ = some (.slice a02 l02.length c02) ∧ ws1.drew.cell? ⟨w.heap.size, 3, none⟩ = some (.slice a03 l03.length c03) ∧ ws1.drew.cell? ⟨w.heap.size + 1, 0, none⟩ = some (.slice a10 l10.length c10) ∧ ws1.drew.cell? ⟨w.heap.size + 1, 1, none⟩ = some (.slice a11 l11.length c11) ∧ ws1.drew.cell? ⟨w.heap.size + 1, 2, none⟩ = some (.slice a12 l12.length c12) ∧ ws1.drew.cell? ⟨w.heap.size + 1, 3, none⟩ = some (.slice a13 l13.length c13) := sK hS1 (Below.refl _ _).drew
  go_upto_region 8 with fail
  go_cut [6, 7] (fun v6 v7 wz => v7 = .bool (starB l00 l01 l02 l03 l10 l11 l12 l13) ∧ RelS ws1 (okL (starB l00 l01 l02 l03 l10 l11 l12 l13) (l00 ++ l10)) (okL (starB l00 l01 l02 l03 l10 l11 l12 l13) (l01 ++ l11)) (okL (starB l00 l01 l02 l03 l10 l11 l12 l13) (l02 ++ l12)) (okL (starB l00 l01 l02 l03 l10 l11 l12 l13) (l03 ++ l13)) v6 wz)
  case first =>
    go_region_held3 (fun W => Below w.heap.size w W ∧ w.heap.size + 2 ≤ W.heap.size ∧ W.cell? ⟨w.heap.size, 0, none⟩ = some (.slice a00 l00.length c00) ∧ W.cell? ⟨w.heap.size, 1, none⟩ = some (.slice a01 l01.length c01) ∧ W.cell? ⟨w.heap.size, 2, none⟩ = some (.slice a02 l02.length c02) ∧ W.cell? ⟨w.heap.size, 3, none⟩ = some (.slice a03 l03.length c03) ∧ W.cell? ⟨w.heap.size + 1, 0, none⟩ = some (.slice a10 l10.length c10) ∧ W.cell? ⟨w.heap.size + 1, 1, none⟩ = some (.slice a11 l11.length c11) ∧ W.cell? ⟨w.heap.size + 1, 2, none⟩ = some (.slice a12 l12.length c12) ∧ W.cell? ⟨w.heap.size + 1, 3, none⟩ = some (.slice a13 l13.length c13))
      (first | exact hS0 | exact hS1 | assumption | (refine sAd _ ?_; (first | assumption | (refine ⟨?_, ?_, ?_, ?_, ?_, ?_, ?_, ?_, ?_, ?_⟩ <;> assumption))) | (refine sAl _ ?_; (first | assumption | (refine ⟨?_, ?_, ?_, ?_, ?_, ?_, ?_, ?_, ?_, ?_⟩ <;> assumption))) | (refine sSt _ _ _ _ _ (sG (by assumption)) ?_; (first | assumption | (refine ⟨?_, ?_, ?_, ?_, ?_, ?_, ?_, ?_, ?_, ?_⟩ <;> assumption))) | (refine ⟨?_, ?_, ?_, ?_, ?_, ?_, ?_, ?_, ?_, ?_⟩ <;> assumption))
      (first
        | (go_at_call_of 32 (Value.agg #[.slice a00 l00.length c00, .slice a01 l01.length c01, .slice a02 l02.length c02, .slice a03 l03.length c03]); refine (toAsn_any _ _ _ _ _ _ _ _ _ _ _ _ _ n00 n01 n02 n03 (r00.below (sB (by assumption)) (Nat.le_refl _)) (r01.below (sB (by assumption)) (Nat.le_refl _)) (r02.below (sB (by assumption)) (Nat.le_refl _)) (r03.below (sB (by assumption)) (Nat.le_refl _))).mono ?_; rintro e bz0 ⟨b00, b01, b02, b03, rfl, -, -, -, -, O00, O01, O02, O03, hh0⟩; have kk0 := sK (by assumption) hh0)
        | (go_at_call_of 32 (Value.agg #[.slice a10 l10.length c10, .slice a11 l11.length c11, .slice a12 l12.length c12, .slice a13 l13.length c13]); refine (toAsn_any _ _ _ _ _ _ _ _ _ _ _ _ _ n10 n11 n12 n13 (r10.below (sB (by assumption)) (Nat.le_refl _)) (r11.below (sB (by assumption)) (Nat.le_refl _)) (r12.below (sB (by assumption)) (Nat.le_refl _)) (r13.below (sB (by assumption)) (Nat.le_refl _))).mono ?_; rintro e bz1 ⟨b10, b11, b12, b13, rfl, -, -, -, -, O10, O11, O12, O13, hh1⟩; have kk1 := sK (by assumption) hh1; replace O00 := own2 O00 (by (first | exact Below.refl _ _ | exact (Below.refl _ _).alloc (Nat.le_refl _) _)) hh1; replace O01 := own2 O01 (by (first | exact Below.refl _ _ | exact (Below.refl _ _).alloc (Nat.le_refl _) _)) hh1; replace O02 := own2 O02 (by (first | exact Below.refl _ _ | exact (Below.refl _ _).alloc (Nat.le_refl _) _)) hh1; replace O03 := own2 O03 (by (first | exact Below.refl _ _ | exact (Below.refl _ _).alloc (Nat.le_refl _) _)) hh1)
        | (go_at_call 37; refine (sStar_any _ _ _ _ _ _ _ _ _ _ _ _ _ _ _ _ _ _ _ _ _ _ _ _ _  n00 n01 n02 n03 n10 n11 n12 n13 (own1 O00 (by (first | exact Below.refl _ _ | exact (Below.refl _ _).alloc (Nat.le_refl _) _))) (own1 O01 (by (first | exact Below.refl _ _ | exact (Below.refl _ _).alloc (Nat.le_refl _) _))) (own1 O02 (by (first | exact Below.refl _ _ | exact (Below.refl _ _).alloc (Nat.le_refl _) _))) (own1 O03 (by (first | exact Below.refl _ _ | exact (Below.refl _ _).alloc (Nat.le_refl _) _))) (own1 O10 (by (first | exact Below.refl _ _ | exact (Below.refl _ _).alloc (Nat.le_refl _) _))) (own1 O11 (by (first | exact Below.refl _ _ | exact (Below.refl _ _).alloc (Nat.le_refl _) _))) (own1 O12 (by (first | exact Below.refl _ _ | exact (Below.refl _ _).alloc (Nat.le_refl _) _))) (own1 O13 (by (first | exact Below.refl _ _ | exact (Below.refl _ _).alloc (Nat.le_refl _) _)))).mono ?_; rintro e wq ⟨p0, p1, p2, p3, q0, q1, q2, q3, rfl, Wq, hq⟩; have kkz := sK (by assumption) hq; (first | (have BX0 := Box.new bz1 (.slice none 0 0) (.slice none 0 0) (.slice none 0 0) (.slice none 0 0) 28; have BX := BX0.keep2 hq; have BL := BX0.lt; have BZ : ws1.heap.size ≤ _ := Below.size (Below.link (Below.link (Below.link (by (first | exact (Below.refl _ _).drew | exact ((Below.refl _ _).alloc (Nat.le_refl _) _).drew)) hh0) (by (first | exact Below.refl _ _ | exact (Below.refl _ _).alloc (Nat.le_refl _) _))) hh1); have bx0 := BX.c0; have bf0 := BX.f0; have bx1 := BX.c1; have bf1 := BX.f1; have bx2 := BX.c2; have bf2 := BX.f2; have bx3 := BX.c3; have bf3 := BX.f3) | (have BX0 := (Box.new bz0 (.slice none 0 0) (.slice none 0 0) (.slice none 0 0) (.slice none 0 0) 28).keep2 hh1; have BX := BX0.keep2 hq; have BL := BX0.lt; have BZ : ws1.heap.size ≤ _ := Below.size (Below.link (by (first | exact (Below.refl _ _).drew | exact ((Below.refl _ _).alloc (Nat.le_refl _) _).drew)) hh0); have bx0 := BX.c0; have bf0 := BX.f0; have bx1 := BX.c1; have bf1 := BX.f1; have bx2 := BX.c2; have bf2 := BX.f2; have bx3 := BX.c3; have bf3 := BX.f3) | (have BX0 := (((Box.new ws1 (.slice none 0 0) (.slice none 0 0) (.slice none 0 0) (.slice none 0 0) 28).drew).keep2 hh0).keep2 hh1; have BX := BX0.keep2 hq; have BL := BX0.lt; have BZ : ws1.heap.size ≤ _ := Nat.le_refl _; have bx0 := BX.c0; have bf0 := BX.f0; have bx1 := BX.c1; have bf1 := BX.f1; have bx2 := BX.c2; have bf2 := BX.f2; have bx3 := BX.c3; have bf3 := BX.f3) | skip)))
    all_goals
      go_wp2_with fail
      go_meet
      first
        | (exact ⟨rfl, relS_fill2 BX BL (Below.link (Below.link (Below.link (Below.link (Below.link (by (first | exact (Below.refl _ _).drew | exact ((Below.refl _ _).alloc (Nat.le_refl _) _).drew)) hh0) (by (first | exact Below.refl _ _ | exact (Below.refl _ _).alloc (Nat.le_refl _) _))) hh1) (by (first | exact Below.refl _ _ | exact (Below.refl _ _).alloc (Nat.le_refl _) _))) hq) BZ Wq⟩)
        | (exact ⟨rfl, relS_alloc (Below.link (Below.link (Below.link (Below.link (Below.link (by (first | exact (Below.refl _ _).drew | exact ((Below.refl _ _).alloc (Nat.le_refl _) _).drew)) hh0) (by (first | exact Below.refl _ _ | exact (Below.refl _ _).alloc (Nat.le_refl _) _))) hh1) (by (first | exact Below.refl _ _ | exact (Below.refl _ _).alloc (Nat.le_refl _) _))) hq) Wq⟩)
  case rest =>
    clear hS0 hS1
    obtain ⟨hv7, Zw3, p0, p1, p2, p3, q0, q1, q2, q3, rfl, WB, W, hX, hZw3⟩ := hcut
    rename World => w3
    replace P0 := P0.below hX P0.lt; replace P1 := P1.below hX P1.lt; replace L := L.trans (hX.mono L.size)
    clear hX
    subst hv7
    have V0 := (star_le (l0 := l00) (l1 := l01) (l2 := l02) (l3 := l03) (k0 := l10) (k1 := l11) (k2 := l12) (k3 := l13)).1
    have V1 := (star_le (l0 := l00) (l1 := l01) (l2 := l02) (l3 := l03) (k0 := l10) (k1 := l11) (k2 := l12) (k3 := l13)).2.1
    have V2 := (star_le (l0 := l00) (l1 := l01) (l2 := l02) (l3 := l03) (k0 := l10) (k1 := l11) (k2 := l12) (k3 := l13)).2.2.1
    have V3 := (star_le (l0 := l00) (l1 := l01) (l2 := l02) (l3 := l03) (k0 := l10) (k1 := l11) (k2 := l12) (k3 := l13)).2.2.2
    generalize hO : starB l00 l01 l02 l03 l10 l11 l12 l13 = ok at *
    have HO : Hid (starB l00 l01 l02 l03 l10 l11 l12 l13 = ok) := hO
    clear hO
    generalize hV0 : okL (ok) (l00 ++ l10) = U0 at *
    have HV0 : Hid (okL (ok) (l00 ++ l10) = U0) := hV0
    clear hV0
    generalize hn0 : U0.length = N0 at *
    have E0 : Hid (U0.length = N0) := hn0
    clear hn0
    generalize hV1 : okL (ok) (l01 ++ l11) = U1 at *
    have HV1 : Hid (okL (ok) (l01 ++ l11) = U1) := hV1
    clear hV1
    generalize hn1 : U1.length = N1 at *
    have E1 : Hid (U1.length = N1) := hn1
    clear hn1
    generalize hV2 : okL (ok) (l02 ++ l12) = U2 at *
    have HV2 : Hid (okL (ok) (l02 ++ l12) = U2) := hV2
    clear hV2
    generalize hn2 : U2.length = N2 at *
    have E2 : Hid (U2.length = N2) := hn2
    clear hn2
    generalize hV3 : okL (ok) (l03 ++ l13) = U3 at *
    have HV3 : Hid (okL (ok) (l03 ++ l13) = U3) := hV3
    clear hV3
    generalize hn3 : U3.length = N3 at *
    have E3 : Hid (U3.length = N3) := hn3
    clear hn3
    have zP0 := P0.lt
    have zP1 := P1.lt
    have zWB := WB.lt
    have SW : w3.heap.size ≤ w3.heap.size := Nat.le_refl _
    have za := SW
    have x0' := P0.c0; have x1' := P0.c1; have x2' := P0.c2; have x3' := P0.c3
    go_wp2_with fail
    clear x0' x1' x2' x3'
    refine (toAsn_any _ _ _ _ _ _ _ _ _ _ _ _ _ n00 n01 n02 n03 (by exact r00.below L (Nat.le_refl _)) (by exact r01.below L (Nat.le_refl _)) (by exact r02.below L (Nat.le_refl _)) (by exact r03.below L (Nat.le_refl _))).mono ?_
    rintro e wx0 ⟨d00, d01, d02, d03, rfl, g00, g01, g02, g03, o00, o01, o02, o03, hb⟩
    replace P0 := P0.below hb P0.lt; replace P1 := P1.below hb P1.lt; replace L := L.trans (hb.mono L.size); replace W := W.below hb (by omega)
    replace WB := WB.below hb WB.lt; replace SW := Nat.le_trans SW hb.size
    clear hb za
    generalize w3.heap.size = Yw3 at *
    have DD0 : d03 < wx0.heap.size := o03.1
    have D0 := o03.1
    replace D0 : d03 + 1 ≤ wx0.heap.size := D0
    have stX0 := D0
    have X0 := Box.new wx0 (.slice (some ⟨d00, 0, none⟩) l00.length l00.length) (.slice (some ⟨d01, 0, none⟩) l01.length l01.length) (.slice (some ⟨d02, 0, none⟩) l02.length l02.length) (.slice (some ⟨d03, 0, none⟩) l03.length l03.length) 28
    have al : Below wx0.heap.size wx0 (wx0.alloc (.cells #[.slice (some ⟨d00, 0, none⟩) l00.length l00.length, .slice (some ⟨d01, 0, none⟩) l01.length l01.length, .slice (some ⟨d02, 0, none⟩) l02.length l02.length, .slice (some ⟨d03, 0, none⟩) l03.length l03.length] 28)) := (Below.refl _ _).alloc (Nat.le_refl _) _
    have za : (wx0.alloc (.cells #[.slice (some ⟨d00, 0, none⟩) l00.length l00.length, .slice (some ⟨d01, 0, none⟩) l01.length l01.length, .slice (some ⟨d02, 0, none⟩) l02.length l02.length, .slice (some ⟨d03, 0, none⟩) l03.length l03.length] 28)).heap.size = wx0.heap.size + 1 := by simp
    replace P0 := P0.below al P0.lt; replace P1 := P1.below al P1.lt; replace L := L.trans (al.mono L.size); replace W := W.below al (by omega)
    replace WB := WB.below al WB.lt; replace o00 := o00.below al o00.1; replace o01 := o01.below al o01.1; replace o02 := o02.below al o02.1
    replace o03 := o03.below al o03.1; replace SW := Nat.le_trans SW al.size; replace D0 := Nat.le_trans D0 al.size
    clear al
    have SX0 : wx0.heap.size + 1 ≤ (wx0.alloc (.cells #[.slice (some ⟨d00, 0, none⟩) l00.length l00.length, .slice (some ⟨d01, 0, none⟩) l01.length l01.length, .slice (some ⟨d02, 0, none⟩) l02.length l02.length, .slice (some ⟨d03, 0, none⟩) l03.length l03.length] 28)).heap.size := Nat.le_of_eq za.symm
    have x0' := P1.c0; have x1' := P1.c1; have x2' := P1.c2; have x3' := P1.c3
    go_wp2_with fail
    clear x0' x1' x2' x3'
    refine (toAsn_any _ _ _ _ _ _ _ _ _ _ _ _ _ n10 n11 n12 n13 (by exact r10.below L (Nat.le_refl _)) (by exact r11.below L (Nat.le_refl _)) (by exact r12.below L (Nat.le_refl _)) (by exact r13.below L (Nat.le_refl _))).mono ?_
    rintro e wx1 ⟨d10, d11, d12, d13, rfl, g10, g11, g12, g13, o10, o11, o12, o13, hb⟩
    replace P0 := P0.below hb P0.lt; replace P1 := P1.below hb P1.lt; replace L := L.trans (hb.mono L.size); replace W := W.below hb (by omega)
    replace WB := WB.below hb WB.lt; replace o00 := o00.below hb o00.1; replace o01 := o01.below hb o01.1; replace o02 := o02.below hb o02.1
    replace o03 := o03.below hb o03.1; replace X0 := X0.below hb X0.lt; replace SW := Nat.le_trans SW hb.size; replace D0 := Nat.le_trans D0 hb.size
    replace SX0 := Nat.le_trans SX0 hb.size
    rw [za] at g10
    clear hb za
    generalize wx0.heap.size = Ywx0 at *
    have DD1 : d13 < wx1.heap.size := o13.1
    have D1 := o13.1
    replace D1 : d13 + 1 ≤ wx1.heap.size := D1
    have stX1 := D1
    have X1 := Box.new wx1 (.slice (some ⟨d10, 0, none⟩) l10.length l10.length) (.slice (some ⟨d11, 0, none⟩) l11.length l11.length) (.slice (some ⟨d12, 0, none⟩) l12.length l12.length) (.slice (some ⟨d13, 0, none⟩) l13.length l13.length) 28
    have al : Below wx1.heap.size wx1 (wx1.alloc (.cells #[.slice (some ⟨d10, 0, none⟩) l10.length l10.length, .slice (some ⟨d11, 0, none⟩) l11.length l11.length, .slice (some ⟨d12, 0, none⟩) l12.length l12.length, .slice (some ⟨d13, 0, none⟩) l13.length l13.length] 28)) := (Below.refl _ _).alloc (Nat.le_refl _) _
    have za : (wx1.alloc (.cells #[.slice (some ⟨d10, 0, none⟩) l10.length l10.length, .slice (some ⟨d11, 0, none⟩) l11.length l11.length, .slice (some ⟨d12, 0, none⟩) l12.length l12.length, .slice (some ⟨d13, 0, none⟩) l13.length l13.length] 28)).heap.size = wx1.heap.size + 1 := by simp
    replace P0 := P0.below al P0.lt; replace P1 := P1.below al P1.lt; replace L := L.trans (al.mono L.size); replace W := W.below al (by omega)
    replace WB := WB.below al WB.lt; replace o00 := o00.below al o00.1; replace o01 := o01.below al o01.1; replace o02 := o02.below al o02.1
    replace o03 := o03.below al o03.1; replace X0 := X0.below al X0.lt; replace o10 := o10.below al o10.1; replace o11 := o11.below al o11.1
    replace o12 := o12.below al o12.1; replace o13 := o13.below al o13.1; replace SW := Nat.le_trans SW al.size; replace D0 := Nat.le_trans D0 al.size
    replace SX0 := Nat.le_trans SX0 al.size; replace D1 := Nat.le_trans D1 al.size
    clear al
    have SX1 : wx1.heap.size + 1 ≤ (wx1.alloc (.cells #[.slice (some ⟨d10, 0, none⟩) l10.length l10.length, .slice (some ⟨d11, 0, none⟩) l11.length l11.length, .slice (some ⟨d12, 0, none⟩) l12.length l12.length, .slice (some ⟨d13, 0, none⟩) l13.length l13.length] 28)).heap.size := Nat.le_of_eq za.symm
    have y00' := X0.c0; have y01' := X0.c1; have y02' := X0.c2; have y03' := X0.c3
    go_wp2_with fail
    clear y00' y01' y02' y03'
    refine (iStar_any _ _ _ _ _ _ _ _ _ _ _ _ _ _ _ _ _ _ _ _ _ _ _ _ _  n00 n01 n02 n03 n10 n11 n12 n13 (by exact o00) (by exact o01) (by exact o02) (by exact o03) (by exact o10) (by exact o11) (by exact o12) (by exact o13)).mono ?_
    rintro e w5 ⟨s0, s1, s2, s3, t0, t1, t2, t3, rfl, G, hb⟩
    rw [HO.out, HV0.out, HV1.out, HV2.out, HV3.out, E0.out, E1.out, E2.out, E3.out] at G
    rw [HO.out, HV0.out, HV1.out, HV2.out, HV3.out, E0.out, E1.out, E2.out, E3.out]
    rw [za] at G
    replace P0 := P0.below hb P0.lt; replace P1 := P1.below hb P1.lt; replace L := L.trans (hb.mono L.size); replace W := W.below hb (by omega)
    replace WB := WB.below hb WB.lt; replace o00 := o00.below hb o00.1; replace o01 := o01.below hb o01.1; replace o02 := o02.below hb o02.1
    replace o03 := o03.below hb o03.1; replace X0 := X0.below hb X0.lt; replace o10 := o10.below hb o10.1; replace o11 := o11.below hb o11.1
    replace o12 := o12.below hb o12.1; replace o13 := o13.below hb o13.1; replace X1 := X1.below hb X1.lt; replace SW := Nat.le_trans SW hb.size
    replace D0 := Nat.le_trans D0 hb.size; replace SX0 := Nat.le_trans SX0 hb.size; replace D1 := Nat.le_trans D1 hb.size; replace SX1 := Nat.le_trans SX1 hb.size
    clear hb za
    generalize wx1.heap.size = Ywx1 at *
    have stGB := SX1
    have GB := Box.new w5 (.slice s0 N0 t0) (.slice s1 N1 t1) (.slice s2 N2 t2) (.slice s3 N3 t3) 28
    have al : Below w5.heap.size w5 (w5.alloc (.cells #[.slice s0 N0 t0, .slice s1 N1 t1, .slice s2 N2 t2, .slice s3 N3 t3] 28)) := (Below.refl _ _).alloc (Nat.le_refl _) _
    have za : (w5.alloc (.cells #[.slice s0 N0 t0, .slice s1 N1 t1, .slice s2 N2 t2, .slice s3 N3 t3] 28)).heap.size = w5.heap.size + 1 := by simp
    replace P0 := P0.below al P0.lt; replace P1 := P1.below al P1.lt; replace L := L.trans (al.mono L.size); replace W := W.below al (by omega)
    replace WB := WB.below al WB.lt; replace o00 := o00.below al o00.1; replace o01 := o01.below al o01.1; replace o02 := o02.below al o02.1
    replace o03 := o03.below al o03.1; replace X0 := X0.below al X0.lt; replace o10 := o10.below al o10.1; replace o11 := o11.below al o11.1
    replace o12 := o12.below al o12.1; replace o13 := o13.below al o13.1; replace X1 := X1.below al X1.lt; replace G := G.below al (by omega)
    replace SW := Nat.le_trans SW al.size; replace D0 := Nat.le_trans D0 al.size; replace SX0 := Nat.le_trans SX0 al.size; replace D1 := Nat.le_trans D1 al.size
    replace SX1 := Nat.le_trans SX1 al.size
    clear al
    have SG : w5.heap.size + 1 ≤ (w5.alloc (.cells #[.slice s0 N0 t0, .slice s1 N1 t1, .slice s2 N2 t2, .slice s3 N3 t3] 28)).heap.size := Nat.le_of_eq za.symm
    have u0' := WB.c0; have u1' := WB.c1; have u2' := WB.c2; have u3' := WB.c3; have y0' := GB.c0; have y1' := GB.c1; have y2' := GB.c2; have y3' := GB.c3
    go_wp2_with fail
    clear u0' y0' u1' y1' u2' y2' u3' y3'
    refine (eqAsn_seen _ _ _ _ _ _ _ _ _ _ _ _ _ _ _ _ _ _ _ _ _ _ _ _ _ _ _ _ _ V0 V1 V2 V3 (by exact G.seen) (by exact W)).mono ?_
    rintro e w6 ⟨rfl, hb⟩
    replace P0 := P0.below hb P0.lt; replace P1 := P1.below hb P1.lt; replace L := L.trans (hb.mono L.size); replace W := W.below hb (by omega)
    replace WB := WB.below hb WB.lt; replace o00 := o00.below hb o00.1; replace o01 := o01.below hb o01.1; replace o02 := o02.below hb o02.1
    replace o03 := o03.below hb o03.1; replace X0 := X0.below hb X0.lt; replace o10 := o10.below hb o10.1; replace o11 := o11.below hb o11.1
    replace o12 := o12.below hb o12.1; replace o13 := o13.below hb o13.1; replace X1 := X1.below hb X1.lt; replace G := G.below hb (by omega)
    replace GB := GB.below hb GB.lt; replace SW := Nat.le_trans SW hb.size; replace D0 := Nat.le_trans D0 hb.size; replace SX0 := Nat.le_trans SX0 hb.size
    replace D1 := Nat.le_trans D1 hb.size; replace SX1 := Nat.le_trans SX1 hb.size; replace SG := Nat.le_trans SG hb.size
    clear hb
    clear za
    generalize w5.heap.size = Yw5 at *
    have x0' := P0.c0; have x1' := P0.c1; have x2' := P0.c2; have x3' := P0.c3; have y0' := X0.c0; have y1' := X0.c1; have y2' := X0.c2; have y3' := X0.c3
    go_upto_region 14 with fail
    go_cut [58] (fun v6 wz => v6 = .bool false ∧ Below w6.heap.size w6 wz)
    case first =>
      go_region_with (first
        | (go_at_call 32; refine (toAsn_any _ _ _ _ _ _ _ _ _ _ _ _ _ n00 n01 n02 n03 ?_ ?_ ?_ ?_).mono ?_; exact r00.below L.drew (Nat.le_refl _); exact r01.below L.drew (Nat.le_refl _); exact r02.below L.drew (Nat.le_refl _); exact r03.below L.drew (Nat.le_refl _); rintro e we0 ⟨f0, f1, f2, f3, rfl, -, -, -, -, h0, h1, h2, h3, hb7⟩; have X7 := X0.drew.below hb7 X0.lt; have z0 := X7.c0; have z1 := X7.c1; have z2 := X7.c2; have z3 := X7.c3; clear X7)
        | (go_at_call 34; refine (eqAsn_same _ _ _ _ _ _ _ _ _ _ _ _ _ _ _ _ _ _ _ _ _ n00 n01 n02 n03 ?_ ?_ ?_ ?_ ?_ ?_ ?_ ?_).mono ?_; exact (o00.drew.below hb7 o00.1).row; exact (o01.drew.below hb7 o01.1).row; exact (o02.drew.below hb7 o02.1).row; exact (o03.drew.below hb7 o03.1).row; exact h0.row; exact h1.row; exact h2.row; exact h3.row; rintro e wf0 ⟨rfl, hb8⟩))
      all_goals
        have hb : Below w6.heap.size w6 wf0 := ((Below.refl _ _).drew.trans hb7).trans (hb8.mono (by have := hb7.size; simpa using this))
        go_wp2_with fail
        go_meet
        exact ⟨rfl, hb⟩
    case rest =>
      obtain ⟨rfl, hb⟩ := hcut
      rename World => wf0
      replace P0 := P0.below hb P0.lt; replace P1 := P1.below hb P1.lt; replace L := L.trans (hb.mono L.size); replace W := W.below hb (by omega)
      replace WB := WB.below hb WB.lt; replace o00 := o00.below hb o00.1; replace o01 := o01.below hb o01.1; replace o02 := o02.below hb o02.1
      replace o03 := o03.below hb o03.1; replace X0 := X0.below hb X0.lt; replace o10 := o10.below hb o10.1; replace o11 := o11.below hb o11.1
      replace o12 := o12.below hb o12.1; replace o13 := o13.below hb o13.1; replace X1 := X1.below hb X1.lt; replace G := G.below hb (by omega)
      replace GB := GB.below hb GB.lt; replace SW := Nat.le_trans SW hb.size; replace D0 := Nat.le_trans D0 hb.size; replace SX0 := Nat.le_trans SX0 hb.size
      replace D1 := Nat.le_trans D1 hb.size; replace SX1 := Nat.le_trans SX1 hb.size; replace SG := Nat.le_trans SG hb.size
      clear hb x0' x1' x2' x3' y0' y1' y2' y3'
      have x0' := P1.c0; have x1' := P1.c1; have x2' := P1.c2; have x3' := P1.c3; have y0' := X1.c0; have y1' := X1.c1; have y2' := X1.c2; have y3' := X1.c3
      go_upto_region 16 with fail
      go_cut [63] (fun v6 wz => v6 = .bool false ∧ Below wf0.heap.size wf0 wz)
      case first =>
        go_region_with (first
          | (go_at_call 32; refine (toAsn_any _ _ _ _ _ _ _ _ _ _ _ _ _ n10 n11 n12 n13 ?_ ?_ ?_ ?_).mono ?_; exact r10.below L.drew (Nat.le_refl _); exact r11.below L.drew (Nat.le_refl _); exact r12.below L.drew (Nat.le_refl _); exact r13.below L.drew (Nat.le_refl _); rintro e we1 ⟨f0, f1, f2, f3, rfl, -, -, -, -, h0, h1, h2, h3, hb7⟩; have X7 := X1.drew.below hb7 X1.lt; have z0 := X7.c0; have z1 := X7.c1; have z2 := X7.c2; have z3 := X7.c3; clear X7)
          | (go_at_call 34; refine (eqAsn_same _ _ _ _ _ _ _ _ _ _ _ _ _ _ _ _ _ _ _ _ _ n10 n11 n12 n13 ?_ ?_ ?_ ?_ ?_ ?_ ?_ ?_).mono ?_; exact (o10.drew.below hb7 o10.1).row; exact (o11.drew.below hb7 o11.1).row; exact (o12.drew.below hb7 o12.1).row; exact (o13.drew.below hb7 o13.1).row; exact h0.row; exact h1.row; exact h2.row; exact h3.row; rintro e wf1 ⟨rfl, hb8⟩))
        all_goals
          have hb : Below wf0.heap.size wf0 wf1 := ((Below.refl _ _).drew.trans hb7).trans (hb8.mono (by have := hb7.size; simpa using this))
          go_wp2_with fail
          go_meet
          exact ⟨rfl, hb⟩
      case rest =>
        obtain ⟨rfl, hb⟩ := hcut
        rename World => wf1
        replace P0 := P0.below hb P0.lt; replace P1 := P1.below hb P1.lt; replace L := L.trans (hb.mono L.size); replace W := W.below hb (by omega)
        replace WB := WB.below hb WB.lt; replace o00 := o00.below hb o00.1; replace o01 := o01.below hb o01.1; replace o02 := o02.below hb o02.1
        replace o03 := o03.below hb o03.1; replace X0 := X0.below hb X0.lt; replace o10 := o10.below hb o10.1; replace o11 := o11.below hb o11.1
        replace o12 := o12.below hb o12.1; replace o13 := o13.below hb o13.1; replace X1 := X1.below hb X1.lt; replace G := G.below hb (by omega)
        replace GB := GB.below hb GB.lt; replace SW := Nat.le_trans SW hb.size; replace D0 := Nat.le_trans D0 hb.size; replace SX0 := Nat.le_trans SX0 hb.size
        replace D1 := Nat.le_trans D1 hb.size; replace SX1 := Nat.le_trans SX1 hb.size; replace SG := Nat.le_trans SG hb.size
        clear hb x0' x1' x2' x3' y0' y1' y2' y3'
        have y0' := X0.c0; have y1' := X0.c1; have y2' := X0.c2; have y3' := X0.c3
        go_wp2_with fail
        clear y0' y1' y2' y3'
        refine (markAsn_four d00 (d03 + 1) _ _ _ _ _ _ _ _ _ _ _ _ l00 l01 l02 l03 _ _ (by omega) (by omega) (by omega) (by omega) (by omega) (by omega) (by omega) (by exact Four.ofOwn (Nat.le_refl _) g01 g02 g03 (Nat.lt_succ_self _) o00 o01 o02 o03)).mono ?_
        rintro e wm0 ⟨rfl, -, ho⟩
        clear X0 o00 o01 o02 o03
        replace P0 := P0.out ho (by omega); replace P1 := P1.out ho (by omega); replace L := L.trans (ho.below (by omega) L.size); replace W := W.out ho (by omega)
        replace WB := WB.out ho (by omega); replace o10 := o10.out ho (by omega); replace o11 := o11.out ho (by omega); replace o12 := o12.out ho (by omega)
        replace o13 := o13.out ho (by omega); replace X1 := X1.out ho (by omega); replace G := G.out ho (by omega); replace GB := GB.out ho (by omega)
        replace SW := Nat.le_trans SW ho.size; replace D0 := Nat.le_trans D0 ho.size; replace SX0 := Nat.le_trans SX0 ho.size; replace D1 := Nat.le_trans D1 ho.size
        replace SX1 := Nat.le_trans SX1 ho.size; replace SG := Nat.le_trans SG ho.size
        clear ho
        have y0' := X1.c0; have y1' := X1.c1; have y2' := X1.c2; have y3' := X1.c3
        go_wp2_with fail
        clear y0' y1' y2' y3'
        refine (markAsn_four d10 (d13 + 1) _ _ _ _ _ _ _ _ _ _ _ _ l10 l11 l12 l13 _ _ (by omega) (by omega) (by omega) (by omega) (by omega) (by omega) (by omega) (by exact Four.ofOwn (Nat.le_refl _) g11 g12 g13 (Nat.lt_succ_self _) o10 o11 o12 o13)).mono ?_
        rintro e wm1 ⟨rfl, -, ho⟩
        clear X1 o10 o11 o12 o13
        replace P0 := P0.out ho (by omega); replace P1 := P1.out ho (by omega); replace L := L.trans (ho.below (by omega) L.size); replace W := W.out ho (by omega)
        replace WB := WB.out ho (by omega); replace G := G.out ho (by omega); replace GB := GB.out ho (by omega); replace SW := Nat.le_trans SW ho.size
        replace D0 := Nat.le_trans D0 ho.size; replace SX0 := Nat.le_trans SX0 ho.size; replace D1 := Nat.le_trans D1 ho.size; replace SX1 := Nat.le_trans SX1 ho.size
        replace SG := Nat.le_trans SG ho.size
        clear ho
        obtain ⟨K, hK, hK0⟩ : ∃ K : Int, ((1 : Int) + 2 * (l00.length : Int) + 2 * (l01.length : Int) + 2 * (l02.length : Int) + 2 * (l03.length : Int) + 2 * (l10.length : Int) + 2 * (l11.length : Int) + 2 * (l12.length : Int) + 2 * (l13.length : Int)) = K ∧ ¬ K < 0 := ⟨_, rfl, by omega⟩
        rw [hK]
        clear hK
        have u0' := WB.c0; have u1' := WB.c1; have u2' := WB.c2; have u3' := WB.c3; have y0' := GB.c0; have y1' := GB.c1; have y2' := GB.c2; have y3' := GB.c3
        go_wp2_with fail
        clear u0' y0' u1' y1' u2' y2' u3' y3'
        refine (eqAsn_seen _ _ _ _ _ _ _ _ _ _ _ _ _ _ _ _ _ _ _ _ _ _ _ _ _ _ _ _ _ V0 V1 V2 V3 (by exact G.seen) (by exact W)).mono ?_
        rintro e w10 ⟨rfl, hb⟩
        replace P0 := P0.below hb P0.lt; replace P1 := P1.below hb P1.lt; replace L := L.trans (hb.mono L.size); replace W := W.below hb (by omega)
        replace WB := WB.below hb WB.lt; replace G := G.below hb (by omega); replace GB := GB.below hb GB.lt; replace SW := Nat.le_trans SW hb.size
        replace D0 := Nat.le_trans D0 hb.size; replace SX0 := Nat.le_trans SX0 hb.size; replace D1 := Nat.le_trans D1 hb.size; replace SX1 := Nat.le_trans SX1 hb.size
        replace SG := Nat.le_trans SG hb.size
        clear hb
        have y0' := GB.c0; have y1' := GB.c1; have y2' := GB.c2; have y3' := GB.c3
        go_wp2_with fail
        clear y0' y1' y2' y3'
        refine (markAsn_four (Ywx1 + 1) Yw5 _ _ _ _ _ _ _ _ _ _ _ _ _ _ _ _ _ _ (by omega) (by omega) (by omega) (by omega) (by omega) (by omega) (by omega) (by exact G)).mono ?_
        rintro e w11 ⟨rfl, M, ho⟩
        clear G
        replace P0 := P0.out ho (by omega); replace P1 := P1.out ho (by omega); replace L := L.trans (ho.below (by omega) L.size); replace W := W.out ho (by omega)
        replace WB := WB.out ho (by omega); replace GB := GB.out ho (by omega); replace SW := Nat.le_trans SW ho.size; replace D0 := Nat.le_trans D0 ho.size
        replace SX0 := Nat.le_trans SX0 ho.size; replace D1 := Nat.le_trans D1 ho.size; replace SX1 := Nat.le_trans SX1 ho.size; replace SG := Nat.le_trans SG ho.size
        clear ho
        have T0 : ¬ ((1 : Int) + 2 * (N0 : Int) + 2 * N1 + 2 * N2 + 2 * N3 < 0) := by omega
        have y0' := GB.c0; have y1' := GB.c1; have y2' := GB.c2; have y3' := GB.c3
        go_wp2_with fail
        clear y0' y1' y2' y3'
        refine (heldAsn_four (Ywx1 + 1) Yw5 _ _ _ _ _ _ _ _ _ _ _ _ _ _ (by omega) (by omega) (by omega) (by omega) (by omega) (by omega) (by omega) (by exact M)).mono ?_
        rintro e w12 ⟨rfl, hb⟩
        replace P0 := P0.below hb P0.lt; replace P1 := P1.below hb P1.lt; replace L := L.trans (hb.mono L.size); replace W := W.below hb (by omega)
        replace WB := WB.below hb WB.lt; replace GB := GB.below hb GB.lt; replace M := M.below hb (by omega); replace SW := Nat.le_trans SW hb.size
        replace D0 := Nat.le_trans D0 hb.size; replace SX0 := Nat.le_trans SX0 hb.size; replace D1 := Nat.le_trans D1 hb.size; replace SX1 := Nat.le_trans SX1 hb.size
        replace SG := Nat.le_trans SG hb.size
        clear hb
        have hS1 : Below w.heap.size w w12 ∧ w.heap.size + 2 ≤ w12.heap.size ∧ w12.cell? ⟨w.heap.size, 0, none⟩ = some (.slice a00 l00.length c00) ∧ w12.cell? ⟨w.heap.size, 1, none⟩ = some (.slice a01 l01.length c01) ∧ w12.cell? ⟨w.heap.size, 2, none⟩ = some (.slice a02 l02.length c02) ∧ w12.cell? ⟨w.heap.size, 3, none⟩ = some (.slice a03 l03.length c03) ∧ w12.cell? ⟨w.heap.size + 1, 0, none⟩ = some (.slice a10 l10.length c10) ∧ w12.cell? ⟨w.heap.size + 1, 1, none⟩ = some (.slice a11 l11.length c11) ∧ w12.cell? ⟨w.heap.size + 1, 2, none⟩ = some (.slice a12 l12.length c12) ∧ w12.cell? ⟨w.heap.size + 1, 3, none⟩ = some (.slice a13 l13.length c13) := ⟨L, by have := P1.lt; omega, P0.c0, P0.c1, P0.c2, P0.c3, P1.c0, P1.c1, P1.c2, P1.c3⟩
        have hS0 : Below w.heap.size w w12.drew ∧ w.heap.size + 2 ≤ w12.drew.heap.size ∧ w12.drew.cell? ⟨w.heap.size, 0, none⟩ = some (.slice a00 l00.length c00) ∧ w12.drew.cell? ⟨w.heap.size, 1, none⟩ = some (.slice a01 l01.length c01) ∧ w12.drew.cell? ⟨w.heap.size, 2, none⟩ = some (.slice a02 l02.length c02) ∧ w12.drew.cell? ⟨w.heap.size, 3, none⟩ = some (.slice a03 l03.length c03) ∧ w12.drew.cell? ⟨w.heap.size + 1, 0, none⟩ = some (.slice a10 l10.length c10) ∧ w12.drew.cell? ⟨w.heap.size + 1, 1, none⟩ = some (.slice a11 l11.length c11) ∧ w12.drew.cell? ⟨w.heap.size + 1, 2, none⟩ = some (.slice a12 l12.length c12) ∧ w12.drew.cell? ⟨w.heap.size + 1, 3, none⟩ = some (.slice a13 l13.length c13) := sK hS1 (Below.refl _ _).drew
        go_upto_region 31 with fail
        go_cut [15, 16] (fun v6 v7 wz => v7 = .bool (starB l00 l01 l02 l03 l10 l11 l12 l13) ∧ RelS w12 (okL (starB l00 l01 l02 l03 l10 l11 l12 l13) (l00 ++ l10)) (okL (starB l00 l01 l02 l03 l10 l11 l12 l13) (l01 ++ l11)) (okL (starB l00 l01 l02 l03 l10 l11 l12 l13) (l02 ++ l12)) (okL (starB l00 l01 l02 l03 l10 l11 l12 l13) (l03 ++ l13)) v6 wz)
        case first =>
          go_region_held3 (fun W => Below w.heap.size w W ∧ w.heap.size + 2 ≤ W.heap.size ∧ W.cell? ⟨w.heap.size, 0, none⟩ = some (.slice a00 l00.length c00) ∧ W.cell? ⟨w.heap.size, 1, none⟩ = some (.slice a01 l01.length c01) ∧ W.cell? ⟨w.heap.size, 2, none⟩ = some (.slice a02 l02.length c02) ∧ W.cell? ⟨w.heap.size, 3, none⟩ = some (.slice a03 l03.length c03) ∧ W.cell? ⟨w.heap.size + 1, 0, none⟩ = some (.slice a10 l10.length c10) ∧ W.cell? ⟨w.heap.size + 1, 1, none⟩ = some (.slice a11 l11.length c11) ∧ W.cell? ⟨w.heap.size + 1, 2, none⟩ = some (.slice a12 l12.length c12) ∧ W.cell? ⟨w.heap.size + 1, 3, none⟩ = some (.slice a13 l13.length c13))
            (first | exact hS0 | exact hS1 | assumption | (refine sAd _ ?_; (first | assumption | (refine ⟨?_, ?_, ?_, ?_, ?_, ?_, ?_, ?_, ?_, ?_⟩ <;> assumption))) | (refine sAl _ ?_; (first | assumption | (refine ⟨?_, ?_, ?_, ?_, ?_, ?_, ?_, ?_, ?_, ?_⟩ <;> assumption))) | (refine sSt _ _ _ _ _ (sG (by assumption)) ?_; (first | assumption | (refine ⟨?_, ?_, ?_, ?_, ?_, ?_, ?_, ?_, ?_, ?_⟩ <;> assumption))) | (refine ⟨?_, ?_, ?_, ?_, ?_, ?_, ?_, ?_, ?_, ?_⟩ <;> assumption))
            (first
              | (go_at_call_of 32 (Value.agg #[.slice a00 l00.length c00, .slice a01 l01.length c01, .slice a02 l02.length c02, .slice a03 l03.length c03]); refine (toAsn_any _ _ _ _ _ _ _ _ _ _ _ _ _ n00 n01 n02 n03 (r00.below (sB (by assumption)) (Nat.le_refl _)) (r01.below (sB (by assumption)) (Nat.le_refl _)) (r02.below (sB (by assumption)) (Nat.le_refl _)) (r03.below (sB (by assumption)) (Nat.le_refl _))).mono ?_; rintro e jz0 ⟨j00, j01, j02, j03, rfl, -, -, -, -, O00, O01, O02, O03, hh0⟩; have kk0 := sK (by assumption) hh0)
              | (go_at_call_of 32 (Value.agg #[.slice a10 l10.length c10, .slice a11 l11.length c11, .slice a12 l12.length c12, .slice a13 l13.length c13]); refine (toAsn_any _ _ _ _ _ _ _ _ _ _ _ _ _ n10 n11 n12 n13 (r10.below (sB (by assumption)) (Nat.le_refl _)) (r11.below (sB (by assumption)) (Nat.le_refl _)) (r12.below (sB (by assumption)) (Nat.le_refl _)) (r13.below (sB (by assumption)) (Nat.le_refl _))).mono ?_; rintro e jz1 ⟨j10, j11, j12, j13, rfl, -, -, -, -, O10, O11, O12, O13, hh1⟩; have kk1 := sK (by assumption) hh1; replace O00 := own2 O00 (by (first | exact Below.refl _ _ | exact (Below.refl _ _).alloc (Nat.le_refl _) _)) hh1; replace O01 := own2 O01 (by (first | exact Below.refl _ _ | exact (Below.refl _ _).alloc (Nat.le_refl _) _)) hh1; replace O02 := own2 O02 (by (first | exact Below.refl _ _ | exact (Below.refl _ _).alloc (Nat.le_refl _) _)) hh1; replace O03 := own2 O03 (by (first | exact Below.refl _ _ | exact (Below.refl _ _).alloc (Nat.le_refl _) _)) hh1)
              | (go_at_call 38; refine (iStar_any _ _ _ _ _ _ _ _ _ _ _ _ _ _ _ _ _ _ _ _ _ _ _ _ _  n00 n01 n02 n03 n10 n11 n12 n13 (own1 O00 (by (first | exact Below.refl _ _ | exact (Below.refl _ _).alloc (Nat.le_refl _) _))) (own1 O01 (by (first | exact Below.refl _ _ | exact (Below.refl _ _).alloc (Nat.le_refl _) _))) (own1 O02 (by (first | exact Below.refl _ _ | exact (Below.refl _ _).alloc (Nat.le_refl _) _))) (own1 O03 (by (first | exact Below.refl _ _ | exact (Below.refl _ _).alloc (Nat.le_refl _) _))) (own1 O10 (by (first | exact Below.refl _ _ | exact (Below.refl _ _).alloc (Nat.le_refl _) _))) (own1 O11 (by (first | exact Below.refl _ _ | exact (Below.refl _ _).alloc (Nat.le_refl _) _))) (own1 O12 (by (first | exact Below.refl _ _ | exact (Below.refl _ _).alloc (Nat.le_refl _) _))) (own1 O13 (by (first | exact Below.refl _ _ | exact (Below.refl _ _).alloc (Nat.le_refl _) _)))).mono ?_; rintro e wq ⟨p0, p1, p2, p3, q0, q1, q2, q3, rfl, Wq, hq⟩; have kkz := sK (by assumption) hq; (first | (have BX0 := Box.new jz1 (.slice none 0 0) (.slice none 0 0) (.slice none 0 0) (.slice none 0 0) 28; have BX := BX0.keep2 hq; have BL := BX0.lt; have BZ : w12.heap.size ≤ _ := Below.size (Below.link (Below.link (Below.link (by (first | exact (Below.refl _ _).drew | exact ((Below.refl _ _).alloc (Nat.le_refl _) _).drew)) hh0) (by (first | exact Below.refl _ _ | exact (Below.refl _ _).alloc (Nat.le_refl _) _))) hh1); have bx0 := BX.c0; have bf0 := BX.f0; have bx1 := BX.c1; have bf1 := BX.f1; have bx2 := BX.c2; have bf2 := BX.f2; have bx3 := BX.c3; have bf3 := BX.f3) | (have BX0 := (Box.new jz0 (.slice none 0 0) (.slice none 0 0) (.slice none 0 0) (.slice none 0 0) 28).keep2 hh1; have BX := BX0.keep2 hq; have BL := BX0.lt; have BZ : w12.heap.size ≤ _ := Below.size (Below.link (by (first | exact (Below.refl _ _).drew | exact ((Below.refl _ _).alloc (Nat.le_refl _) _).drew)) hh0); have bx0 := BX.c0; have bf0 := BX.f0; have bx1 := BX.c1; have bf1 := BX.f1; have bx2 := BX.c2; have bf2 := BX.f2; have bx3 := BX.c3; have bf3 := BX.f3) | (have BX0 := (((Box.new w12 (.slice none 0 0) (.slice none 0 0) (.slice none 0 0) (.slice none 0 0) 28).drew).keep2 hh0).keep2 hh1; have BX := BX0.keep2 hq; have BL := BX0.lt; have BZ : w12.heap.size ≤ _ := Nat.le_refl _; have bx0 := BX.c0; have bf0 := BX.f0; have bx1 := BX.c1; have bf1 := BX.f1; have bx2 := BX.c2; have bf2 := BX.f2; have bx3 := BX.c3; have bf3 := BX.f3) | skip)))
          all_goals
            go_wp2_with fail
            go_meet
            first
              | (exact ⟨rfl, relS_fill2 BX BL (Below.link (Below.link (Below.link (Below.link (Below.link (by (first | exact (Below.refl _ _).drew | exact ((Below.refl _ _).alloc (Nat.le_refl _) _).drew)) hh0) (by (first | exact Below.refl _ _ | exact (Below.refl _ _).alloc (Nat.le_refl _) _))) hh1) (by (first | exact Below.refl _ _ | exact (Below.refl _ _).alloc (Nat.le_refl _) _))) hq) BZ Wq.seen⟩)
              | (exact ⟨rfl, relS_alloc (Below.link (Below.link (Below.link (Below.link (Below.link (by (first | exact (Below.refl _ _).drew | exact ((Below.refl _ _).alloc (Nat.le_refl _) _).drew)) hh0) (by (first | exact Below.refl _ _ | exact (Below.refl _ _).alloc (Nat.le_refl _) _))) hh1) (by (first | exact Below.refl _ _ | exact (Below.refl _ _).alloc (Nat.le_refl _) _))) hq) Wq.seen⟩)
        case rest =>
          clear hS0 hS1
          obtain ⟨hv7, Zw14, v0, v1, v2, v3, i0, i1, i2, i3, rfl, ZB, Z, hX, hZw14⟩ := hcut
          rename World => w14
          replace P0 := P0.below hX P0.lt; replace P1 := P1.below hX P1.lt; replace L := L.trans (hX.mono L.size); replace W := W.below hX (by omega)
          replace WB := WB.below hX WB.lt; replace GB := GB.below hX GB.lt; replace M := M.below hX (by omega); replace SW := Nat.le_trans SW hX.size
          replace D0 := Nat.le_trans D0 hX.size; replace SX0 := Nat.le_trans SX0 hX.size; replace D1 := Nat.le_trans D1 hX.size; replace SX1 := Nat.le_trans SX1 hX.size
          replace SG := Nat.le_trans SG hX.size
          clear hX
          rw [HO.out] at hv7
          subst hv7
          rw [HO.out, HV0.out, HV1.out, HV2.out, HV3.out, E0.out, E1.out, E2.out, E3.out] at Z
          rw [HO.out, HV0.out, HV1.out, HV2.out, HV3.out, E0.out, E1.out, E2.out, E3.out] at ZB
          have ZL : w14.heap.size ≤ w14.heap.size := Nat.le_refl _
          have za := ZL
          have zb0' := ZB.c0; have zb1' := ZB.c1; have zb2' := ZB.c2; have zb3' := ZB.c3
          have u0' := WB.c0; have u1' := WB.c1; have u2' := WB.c2; have u3' := WB.c3
          go_wp2_with fail
          clear u0' u1' u2' u3'
          refine (eqAsn_seen _ _ _ _ _ _ _ _ _ _ _ _ _ _ _ _ _ _ _ _ _ _ _ _ _ _ _ _ _ V0 V1 V2 V3 (by exact Z) (by exact W)).mono ?_
          rintro e w15 ⟨rfl, hb⟩
          clear Z ZL
          replace P0 := P0.below hb P0.lt; replace P1 := P1.below hb P1.lt; replace L := L.trans (hb.mono L.size); replace W := W.below hb (by omega)
          replace WB := WB.below hb WB.lt; replace GB := GB.below hb GB.lt; replace M := M.below hb (by omega); replace ZB := ZB.below hb ZB.lt
          replace SW := Nat.le_trans SW hb.size; replace D0 := Nat.le_trans D0 hb.size; replace SX0 := Nat.le_trans SX0 hb.size; replace D1 := Nat.le_trans D1 hb.size
          replace SX1 := Nat.le_trans SX1 hb.size; replace SG := Nat.le_trans SG hb.size
          clear hb za
          have y0' := GB.c0; have y1' := GB.c1; have y2' := GB.c2; have y3' := GB.c3
          go_wp2_with fail
          clear y0' y1' y2' y3'
          refine (heldAsn_four (Ywx1 + 1) Yw5 _ _ _ _ _ _ _ _ _ _ _ _ _ _ (by omega) (by omega) (by omega) (by omega) (by omega) (by omega) (by omega) (by exact M)).mono ?_
          rintro e w16 ⟨rfl, hb⟩
          replace P0 := P0.below hb P0.lt; replace P1 := P1.below hb P1.lt; replace L := L.trans (hb.mono L.size); replace W := W.below hb (by omega)
          replace WB := WB.below hb WB.lt; replace GB := GB.below hb GB.lt; replace M := M.below hb (by omega); replace ZB := ZB.below hb ZB.lt
          replace SW := Nat.le_trans SW hb.size; replace D0 := Nat.le_trans D0 hb.size; replace SX0 := Nat.le_trans SX0 hb.size; replace D1 := Nat.le_trans D1 hb.size
          replace SX1 := Nat.le_trans SX1 hb.size; replace SG := Nat.le_trans SG hb.size
          clear hb
          go_wp2
          go_ret
          exact ⟨rfl, L⟩

end Go.Proofs.Ytmiiebmnjijhoaa.star
