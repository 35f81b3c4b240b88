/-
  The contract of laws.toTriple: a copy in new blocks.
-/
import Derived.Test.YtccldjodijdciaaTp
import Derived.Test.YtccldjodijdciaaCTs
import Derived.Outline
namespace Go.Proofs.Ytccldjodijdciaa
open Go.RowKit

/-- A triple's own memory: nine rows, one behind the other, the commands' blocks between those of both assertions. -/
structure TOwn (w : World) (z : Nat) (l0 l1 l2 l3 k0 k1 k2 k3 : List (Int × Int)) (g : List Cm) (b0 b1 b2 b3 bL m p0 p1 p2 p3 : Nat) : Prop where
  g0 : z ≤ b0
  g1 : b0 < b1
  g2 : b1 < b2
  g3 : b2 < b3
  gL : b3 < bL
  gm : bL < m
  h0 : m ≤ p0
  h1 : p0 < p1
  h2 : p1 < p2
  h3 : p2 < p3
  o0 : Own w b0 l0.length l0 l0.length
  o1 : Own w b1 l1.length l1 l1.length
  o2 : Own w b2 l2.length l2 l2.length
  o3 : Own w b3 l3.length l3 l3.length
  oL : OsAt w (bL + 1) m bL 0 g
  q0 : Own w p0 k0.length k0 k0.length
  q1 : Own w p1 k1.length k1 k1.length
  q2 : Own w p2 k2.length k2 k2.length
  q3 : Own w p3 k3.length k3 k3.length

set_option maxRecDepth 20000 in
set_option maxHeartbeats 4000000 in
theorem toTriple_any (a0 a1 a2 a3 aL d0 d1 d2 d3 : Option Addr) (c0 c1 c2 c3 cL e0 e1 e2 e3 : Nat) (l0 l1 l2 l3 k0 k1 k2 k3 : List (Int × Int)) (g : List Cm) (w : World) (lo hi : Nat) (r0 : PRow w a0 l0) (r1 : PRow w a1 l1) (r2 : PRow w a2 l2) (r3 : PRow w a3 l3) (rg : CRow w lo hi aL g) (s0 : PRow w d0 k0) (s1 : PRow w d1 k1) (s2 : PRow w d2 k2) (s3 : PRow w d3 k3) (hh : hi ≤ w.heap.size) (n0 : l0.length ≤ 1048576) (n1 : l1.length ≤ 1048576) (n2 : l2.length ≤ 1048576) (n3 : l3.length ≤ 1048576) (m0 : k0.length ≤ 1048576) (m1 : k1.length ≤ 1048576) (m2 : k2.length ≤ 1048576) (m3 : k3.length ≤ 1048576) (ng : cnts g ≤ 1048576) :
    Calls Try.prog 82 #[.agg #[.slice a0 l0.length c0, .slice a1 l1.length c1, .slice a2 l2.length c2, .slice a3 l3.length c3, .slice aL g.length cL, .slice d0 k0.length e0, .slice d1 k1.length e1, .slice d2 k2.length e2, .slice d3 k3.length e3]] w fun e w' => ∃ b0 b1 b2 b3 bL m p0 p1 p2 p3, e = .returned (.agg #[.slice (some ⟨b0, 0, none⟩) l0.length l0.length, .slice (some ⟨b1, 0, none⟩) l1.length l1.length, .slice (some ⟨b2, 0, none⟩) l2.length l2.length, .slice (some ⟨b3, 0, none⟩) l3.length l3.length, .slice (some ⟨bL, 0, none⟩) g.length g.length, .slice (some ⟨p0, 0, none⟩) k0.length k0.length, .slice (some ⟨p1, 0, none⟩) k1.length k1.length, .slice (some ⟨p2, 0, none⟩) k2.length k2.length, .slice (some ⟨p3, 0, none⟩) k3.length k3.length]) ∧
      TOwn w' w.heap.size l0 l1 l2 l3 k0 k1 k2 k3 g b0 b1 b2 b3 bL m p0 p1 p2 p3 ∧ Below w.heap.size w w' := by
  have A0 := ((B9.new w (.slice a0 l0.length c0) (.slice a1 l1.length c1) (.slice a2 l2.length c2) (.slice a3 l3.length c3) (.slice aL g.length cL) (.slice d0 k0.length e0) (.slice d1 k1.length e1) (.slice d2 k2.length e2) (.slice d3 k3.length e3) 84).alloc (.cells #[.slice none 0 0, .slice none 0 0, .slice none 0 0, .slice none 0 0, .slice none 0 0, .slice none 0 0, .slice none 0 0, .slice none 0 0, .slice none 0 0] 88)).alloc (.cells #[.slice none 0 0, .slice none 0 0, .slice none 0 0, .slice none 0 0, .slice none 0 0, .slice none 0 0, .slice none 0 0, .slice none 0 0, .slice none 0 0] 88)
  have R0 := (B9.new (w.alloc (.cells #[.slice a0 l0.length c0, .slice a1 l1.length c1, .slice a2 l2.length c2, .slice a3 l3.length c3, .slice aL g.length cL, .slice d0 k0.length e0, .slice d1 k1.length e1, .slice d2 k2.length e2, .slice d3 k3.length e3] 84)) (.slice none 0 0) (.slice none 0 0) (.slice none 0 0) (.slice none 0 0) (.slice none 0 0) (.slice none 0 0) (.slice none 0 0) (.slice none 0 0) (.slice none 0 0) 88).alloc (.cells #[.slice none 0 0, .slice none 0 0, .slice none 0 0, .slice none 0 0, .slice none 0 0, .slice none 0 0, .slice none 0 0, .slice none 0 0, .slice none 0 0] 88)
  have O0 := B9.new ((w.alloc (.cells #[.slice a0 l0.length c0, .slice a1 l1.length c1, .slice a2 l2.length c2, .slice a3 l3.length c3, .slice aL g.length cL, .slice d0 k0.length e0, .slice d1 k1.length e1, .slice d2 k2.length e2, .slice d3 k3.length e3] 84)).alloc (.cells #[.slice none 0 0, .slice none 0 0, .slice none 0 0, .slice none 0 0, .slice none 0 0, .slice none 0 0, .slice none 0 0, .slice none 0 0, .slice none 0 0] 88)) (.slice none 0 0) (.slice none 0 0) (.slice none 0 0) (.slice none 0 0) (.slice none 0 0) (.slice none 0 0) (.slice none 0 0) (.slice none 0 0) (.slice none 0 0) 88
  have L0 : Below w.heap.size w (((w.alloc (.cells #[.slice a0 l0.length c0, .slice a1 l1.length c1, .slice a2 l2.length c2, .slice a3 l3.length c3, .slice aL g.length cL, .slice d0 k0.length e0, .slice d1 k1.length e1, .slice d2 k2.length e2, .slice d3 k3.length e3] 84)).alloc (.cells #[.slice none 0 0, .slice none 0 0, .slice none 0 0, .slice none 0 0, .slice none 0 0, .slice none 0 0, .slice none 0 0, .slice none 0 0, .slice none 0 0] 88)).alloc (.cells #[.slice none 0 0, .slice none 0 0, .slice none 0 0, .slice none 0 0, .slice none 0 0, .slice none 0 0, .slice none 0 0, .slice none 0 0, .slice none 0 0] 88)) := (((Below.refl _ _).alloc (Nat.le_refl _) _).alloc (by simp) _).alloc (by simp; omega) _
  simp only [World.size_alloc] at A0 R0 O0
  go_enter Try.func82, Try.ntmps82
  go_wp2_with fail
  refine (toAsn_any _ _ _ _ _ _ _ _ _ _ _ _ _ n0 n1 n2 n3 (by exact r0.below L0 (Nat.le_refl _)) (by exact r1.below L0 (Nat.le_refl _)) (by exact r2.below L0 (Nat.le_refl _)) (by exact r3.below L0 (Nat.le_refl _))).mono ?_
  rintro e w1 ⟨b0, b1, b2, b3, rfl, g0, g1, g2, g3, o0, o1, o2, o3, hb⟩
  have A1 := A0.below hb A0.lt
  have R1 := R0.below hb R0.lt
  have O1 := O0.below hb O0.lt
  have L1 := L0.trans (hb.mono L0.size)
  simp only [World.size_alloc] at g0
  clear hb A0 R0 O0 L0
  have x4 := A1.c4
  have y0 := O1.c0; have y1 := O1.c1; have y2 := O1.c2; have y3 := O1.c3
  have z0 := O1.f0; have z1 := O1.f1; have z2 := O1.f2; have z3 := O1.f3
  go_wp2_with fail
  clear x4 y0 y1 y2 y3 z0 z1 z2 z3
  have L2 : Below w.heap.size w ((((w1.setCell ⟨w.heap.size + 1 + 1, 0, none⟩ (.slice (some ⟨b0, 0, none⟩) l0.length l0.length)).setCell ⟨w.heap.size + 1 + 1, 1, none⟩ (.slice (some ⟨b1, 0, none⟩) l1.length l1.length)).setCell ⟨w.heap.size + 1 + 1, 2, none⟩ (.slice (some ⟨b2, 0, none⟩) l2.length l2.length)).setCell ⟨w.heap.size + 1 + 1, 3, none⟩ (.slice (some ⟨b3, 0, none⟩) l3.length l3.length)) := (Below.set (Below.set (Below.set (Below.set L1 _ _ (by omega) _) _ _ (by omega) _) _ _ (by omega) _) _ _ (by omega) _)
  have A2 := ((((A1.other (w.heap.size + 1 + 1) 0 (by omega) (.slice (some ⟨b0, 0, none⟩) l0.length l0.length)).other (w.heap.size + 1 + 1) 1 (by omega) (.slice (some ⟨b1, 0, none⟩) l1.length l1.length)).other (w.heap.size + 1 + 1) 2 (by omega) (.slice (some ⟨b2, 0, none⟩) l2.length l2.length)).other (w.heap.size + 1 + 1) 3 (by omega) (.slice (some ⟨b3, 0, none⟩) l3.length l3.length))
  have R2 := ((((R1.other (w.heap.size + 1 + 1) 0 (by omega) (.slice (some ⟨b0, 0, none⟩) l0.length l0.length)).other (w.heap.size + 1 + 1) 1 (by omega) (.slice (some ⟨b1, 0, none⟩) l1.length l1.length)).other (w.heap.size + 1 + 1) 2 (by omega) (.slice (some ⟨b2, 0, none⟩) l2.length l2.length)).other (w.heap.size + 1 + 1) 3 (by omega) (.slice (some ⟨b3, 0, none⟩) l3.length l3.length))
  have O2 := (((O1.set0 (.slice (some ⟨b0, 0, none⟩) l0.length l0.length)).set1 (.slice (some ⟨b1, 0, none⟩) l1.length l1.length)).set2 (.slice (some ⟨b2, 0, none⟩) l2.length l2.length)).set3 (.slice (some ⟨b3, 0, none⟩) l3.length l3.length)
  replace o0 := ((((o0.other (w.heap.size + 1 + 1) 0 (by omega) (.slice (some ⟨b0, 0, none⟩) l0.length l0.length)).other (w.heap.size + 1 + 1) 1 (by omega) (.slice (some ⟨b1, 0, none⟩) l1.length l1.length)).other (w.heap.size + 1 + 1) 2 (by omega) (.slice (some ⟨b2, 0, none⟩) l2.length l2.length)).other (w.heap.size + 1 + 1) 3 (by omega) (.slice (some ⟨b3, 0, none⟩) l3.length l3.length))
  replace o1 := ((((o1.other (w.heap.size + 1 + 1) 0 (by omega) (.slice (some ⟨b0, 0, none⟩) l0.length l0.length)).other (w.heap.size + 1 + 1) 1 (by omega) (.slice (some ⟨b1, 0, none⟩) l1.length l1.length)).other (w.heap.size + 1 + 1) 2 (by omega) (.slice (some ⟨b2, 0, none⟩) l2.length l2.length)).other (w.heap.size + 1 + 1) 3 (by omega) (.slice (some ⟨b3, 0, none⟩) l3.length l3.length))
  replace o2 := ((((o2.other (w.heap.size + 1 + 1) 0 (by omega) (.slice (some ⟨b0, 0, none⟩) l0.length l0.length)).other (w.heap.size + 1 + 1) 1 (by omega) (.slice (some ⟨b1, 0, none⟩) l1.length l1.length)).other (w.heap.size + 1 + 1) 2 (by omega) (.slice (some ⟨b2, 0, none⟩) l2.length l2.length)).other (w.heap.size + 1 + 1) 3 (by omega) (.slice (some ⟨b3, 0, none⟩) l3.length l3.length))
  replace o3 := ((((o3.other (w.heap.size + 1 + 1) 0 (by omega) (.slice (some ⟨b0, 0, none⟩) l0.length l0.length)).other (w.heap.size + 1 + 1) 1 (by omega) (.slice (some ⟨b1, 0, none⟩) l1.length l1.length)).other (w.heap.size + 1 + 1) 2 (by omega) (.slice (some ⟨b2, 0, none⟩) l2.length l2.length)).other (w.heap.size + 1 + 1) 3 (by omega) (.slice (some ⟨b3, 0, none⟩) l3.length l3.length))
  clear A1 R1 O1 L1
  refine (toCmdS_any g _ _ _ _ _ (by exact rg.below L2 hh) (by exact Nat.le_trans hh L2.size) ng).mono ?_
  rintro e w2 ⟨bL, rfl, gA, hA, oA, hb⟩
  have L3 := L2.trans (hb.mono L2.size)
  have h3 := o3.1
  replace o0 := o0.below hb o0.1; replace o1 := o1.below hb o1.1; replace o2 := o2.below hb o2.1; replace o3 := o3.below hb o3.1
  have A3 := A2.below hb A2.lt; have R3 := R2.below hb R2.lt; have O3 := O2.below hb O2.lt
  simp only [World.size_setCell] at gA h3
  clear hb A2 R2 O2 L2
  have x5 := A3.c5; have x6 := A3.c6; have x7 := A3.c7; have x8 := A3.c8
  have y4 := O3.c4
  have z4 := O3.f4
  go_wp2_with fail
  clear x5 x6 x7 x8 y4 z4
  have L4 : Below w.heap.size w (w2.setCell ⟨w.heap.size + 1 + 1, 4, none⟩ (.slice (some ⟨bL, 0, none⟩) g.length g.length)) := (Below.set L3 _ _ (by omega) _)
  have R4 := (R3.other (w.heap.size + 1 + 1) 4 (by omega) (.slice (some ⟨bL, 0, none⟩) g.length g.length))
  have O4 := O3.set4 (.slice (some ⟨bL, 0, none⟩) g.length g.length)
  replace o0 := (o0.other (w.heap.size + 1 + 1) 4 (by omega) (.slice (some ⟨bL, 0, none⟩) g.length g.length))
  replace o1 := (o1.other (w.heap.size + 1 + 1) 4 (by omega) (.slice (some ⟨bL, 0, none⟩) g.length g.length))
  replace o2 := (o2.other (w.heap.size + 1 + 1) 4 (by omega) (.slice (some ⟨bL, 0, none⟩) g.length g.length))
  replace o3 := (o3.other (w.heap.size + 1 + 1) 4 (by omega) (.slice (some ⟨bL, 0, none⟩) g.length g.length))
  have E4 : Eqf bL w2.heap.size w2 (w2.setCell ⟨w.heap.size + 1 + 1, 4, none⟩ (.slice (some ⟨bL, 0, none⟩) g.length g.length)) := (Eqf.refl _ _ _).set _ _ _ (by omega)
  have oA4 := oA.keep _ _ _ _ _ (E4.mono (by omega) (Nat.le_refl _)) (fun j _ _ => (E4.2 bL (Nat.le_refl _) hA).1 j) (fun j _ _ => (E4.2 bL (Nat.le_refl _) hA).2 j)
  clear E4 oA R3 O3 L3 A3
  refine (toAsn_any _ _ _ _ _ _ _ _ _ _ _ _ _ m0 m1 m2 m3 (by exact s0.below L4 (Nat.le_refl _)) (by exact s1.below L4 (Nat.le_refl _)) (by exact s2.below L4 (Nat.le_refl _)) (by exact s3.below L4 (Nat.le_refl _))).mono ?_
  rintro e w3 ⟨p0, p1, p2, p3, rfl, h0, h1, h2, h3', q0, q1, q2, q3, hb⟩
  have L5 := L4.trans (hb.mono L4.size)
  replace o0 := o0.below hb o0.1; replace o1 := o1.below hb o1.1; replace o2 := o2.below hb o2.1; replace o3 := o3.below hb o3.1
  have R5 := R4.below hb R4.lt; have O5 := O4.below hb O4.lt
  simp only [World.size_setCell] at h0
  have E5 : Eqf bL w2.heap.size (w2.setCell ⟨w.heap.size + 1 + 1, 4, none⟩ (.slice (some ⟨bL, 0, none⟩) g.length g.length)) w3 := Eqf.of_below hb (by simp)
  have oA5 := oA4.keep _ _ _ _ _ (E5.mono (by omega) (Nat.le_refl _)) (fun j _ _ => (E5.2 bL (Nat.le_refl _) hA).1 j) (fun j _ _ => (E5.2 bL (Nat.le_refl _) hA).2 j)
  have hS : Hid (w2.heap.size ≤ w3.heap.size) := by have := hb.size; simp only [World.size_setCell] at this; exact this
  clear hb R4 O4 L4 oA4 E5
  have y0 := O5.c0; have y1 := O5.c1; have y2 := O5.c2; have y3 := O5.c3; have y4 := O5.c4; have y5 := O5.c5; have y6 := O5.c6; have y7 := O5.c7; have y8 := O5.c8
  have z5 := O5.f5; have z6 := O5.f6; have z7 := O5.f7; have z8 := O5.f8
  have r0' := R5.c0; have r1' := R5.c1; have r2' := R5.c2; have r3' := R5.c3; have r4' := R5.c4; have r5' := R5.c5; have r6' := R5.c6; have r7' := R5.c7; have r8' := R5.c8
  have s0' := R5.f0; have s1' := R5.f1; have s2' := R5.f2; have s3' := R5.f3; have s4' := R5.f4; have s5' := R5.f5; have s6' := R5.f6; have s7' := R5.f7; have s8' := R5.f8
  have l1' := R5.lt; have l2' := O5.lt
  go_wp2
  have R6 := (((((((((((((R5.other (w.heap.size + 1 + 1) 5 (by omega) (.slice (some ⟨p0, 0, none⟩) k0.length k0.length)).other (w.heap.size + 1 + 1) 6 (by omega) (.slice (some ⟨p1, 0, none⟩) k1.length k1.length)).other (w.heap.size + 1 + 1) 7 (by omega) (.slice (some ⟨p2, 0, none⟩) k2.length k2.length)).other (w.heap.size + 1 + 1) 8 (by omega) (.slice (some ⟨p3, 0, none⟩) k3.length k3.length)).set0 (.slice (some ⟨b0, 0, none⟩) l0.length l0.length)).set1 (.slice (some ⟨b1, 0, none⟩) l1.length l1.length)).set2 (.slice (some ⟨b2, 0, none⟩) l2.length l2.length)).set3 (.slice (some ⟨b3, 0, none⟩) l3.length l3.length)).set4 (.slice (some ⟨bL, 0, none⟩) g.length g.length)).set5 (.slice (some ⟨p0, 0, none⟩) k0.length k0.length)).set6 (.slice (some ⟨p1, 0, none⟩) k1.length k1.length)).set7 (.slice (some ⟨p2, 0, none⟩) k2.length k2.length)).set8 (.slice (some ⟨p3, 0, none⟩) k3.length k3.length))
  have t0 := R6.c0; have t1 := R6.c1; have t2 := R6.c2; have t3 := R6.c3; have t4 := R6.c4; have t5 := R6.c5; have t6 := R6.c6; have t7 := R6.c7; have t8 := R6.c8
  clear y0 y1 y2 y3 y4 y5 y6 y7 y8 z5 z6 z7 z8 r0' r1' r2' r3' r4' r5' r6' r7' r8' s0' s1' s2' s3' s4' s5' s6' s7' s8'
  refine bodyPost_ret (v := .agg #[.slice (some ⟨b0, 0, none⟩) l0.length l0.length, .slice (some ⟨b1, 0, none⟩) l1.length l1.length, .slice (some ⟨b2, 0, none⟩) l2.length l2.length, .slice (some ⟨b3, 0, none⟩) l3.length l3.length, .slice (some ⟨bL, 0, none⟩) g.length g.length, .slice (some ⟨p0, 0, none⟩) k0.length k0.length, .slice (some ⟨p1, 0, none⟩) k1.length k1.length, .slice (some ⟨p2, 0, none⟩) k2.length k2.length, .slice (some ⟨p3, 0, none⟩) k3.length k3.length]) ?_ rfl ⟨b0, b1, b2, b3, bL, w2.heap.size, p0, p1, p2, p3, rfl, ?_, ?_⟩
  · simp [results, Try.results82, go_sem, t0, t1, t2, t3, t4, t5, t6, t7, t8]
  · have E : Eqf (w.heap.size + 1 + 1 + 1) w3.heap.size w3 _ := (((((((((((((Eqf.refl (w.heap.size + 1 + 1 + 1) w3.heap.size w3).set (w.heap.size + 1 + 1) 5 (.slice (some ⟨p0, 0, none⟩) k0.length k0.length) (by omega)).set (w.heap.size + 1 + 1) 6 (.slice (some ⟨p1, 0, none⟩) k1.length k1.length) (by omega)).set (w.heap.size + 1 + 1) 7 (.slice (some ⟨p2, 0, none⟩) k2.length k2.length) (by omega)).set (w.heap.size + 1 + 1) 8 (.slice (some ⟨p3, 0, none⟩) k3.length k3.length) (by omega)).set (w.heap.size + 1) 0 (.slice (some ⟨b0, 0, none⟩) l0.length l0.length) (by omega)).set (w.heap.size + 1) 1 (.slice (some ⟨b1, 0, none⟩) l1.length l1.length) (by omega)).set (w.heap.size + 1) 2 (.slice (some ⟨b2, 0, none⟩) l2.length l2.length) (by omega)).set (w.heap.size + 1) 3 (.slice (some ⟨b3, 0, none⟩) l3.length l3.length) (by omega)).set (w.heap.size + 1) 4 (.slice (some ⟨bL, 0, none⟩) g.length g.length) (by omega)).set (w.heap.size + 1) 5 (.slice (some ⟨p0, 0, none⟩) k0.length k0.length) (by omega)).set (w.heap.size + 1) 6 (.slice (some ⟨p1, 0, none⟩) k1.length k1.length) (by omega)).set (w.heap.size + 1) 7 (.slice (some ⟨p2, 0, none⟩) k2.length k2.length) (by omega)).set (w.heap.size + 1) 8 (.slice (some ⟨p3, 0, none⟩) k3.length k3.length) (by omega)
    have u0 := o0.1; have u1 := o1.1; have u2 := o2.1; have u3 := o3.1; have v0 := q0.1; have v1 := q1.1; have v2 := q2.1; have v3 := q3.1; have vs := hS.out
    exact ⟨by omega, g1, g2, g3, by omega, hA, by omega, h1, h2, h3', o0.eqf E (by omega) (by omega), o1.eqf E (by omega) (by omega), o2.eqf E (by omega) (by omega), o3.eqf E (by omega) (by omega), oA5.keep _ _ _ _ _ (E.mono (by omega) (by omega)) (fun j _ _ => (E.2 bL (by omega) (by omega)).1 j) (fun j _ _ => (E.2 bL (by omega) (by omega)).2 j), q0.eqf E (by omega) (by omega), q1.eqf E (by omega) (by omega), q2.eqf E (by omega) (by omega), q3.eqf E (by omega) (by omega)⟩
  · exact (Below.set (Below.set (Below.set (Below.set (Below.set (Below.set (Below.set (Below.set (Below.set (Below.set (Below.set (Below.set (Below.set L5 _ _ (by omega) _) _ _ (by omega) _) _ _ (by omega) _) _ _ (by omega) _) _ _ (by omega) _) _ _ (by omega) _) _ _ (by omega) _) _ _ (by omega) _) _ _ (by omega) _) _ _ (by omega) _) _ _ (by omega) _) _ _ (by omega) _) _ _ (by omega) _)

end Go.Proofs.Ytccldjodijdciaa
