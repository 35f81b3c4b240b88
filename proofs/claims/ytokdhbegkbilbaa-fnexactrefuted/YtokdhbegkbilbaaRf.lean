/-
  The contracts of spec.Refuted and impl.Refuted.
-/
import Derived.Test.YtokdhbegkbilbaaHd
namespace Go.Proofs.Ytokdhbegkbilbaa
open Go.RowKit Go.Maps

def refV (t hv : List Int) (l0 l1 l2 l3 k0 k1 k2 k3 : List (Int × Int)) : Bool := sOk t hv && (Q.asnB l0 l1 l2 l3 && (Q.asnB k0 k1 k2 k3 && (holdsB t hv l0 l1 l2 l3 && !holdsB t hv k0 k1 k2 k3)))

set_option maxHeartbeats 2000000 in
theorem sRefuted_any (b0 b1 c0 c1 : Nat) (t hv : List Int) (e0 e1 e2 e3 f0 f1 f2 f3 : Nat) (l0 l1 l2 l3 : List (Int × Int)) (x0 x1 x2 x3 y0 y1 y2 y3 : Nat) (k0 k1 k2 k3 : List (Int × Int)) (w : World) (n0 : t.length ≤ 1048576) (n1 : hv.length ≤ 1048576) (j0 : l0.length ≤ 1048576) (j1 : l1.length ≤ 1048576) (j2 : l2.length ≤ 1048576) (j3 : l3.length ≤ 1048576) (i0 : k0.length ≤ 1048576) (i1 : k1.length ≤ 1048576) (i2 : k2.length ≤ 1048576) (i3 : k3.length ≤ 1048576) (o0 : OwnI w b0 t.length t t.length) (o1 : OwnI w b1 hv.length hv hv.length) (p0 : Q.Own w e0 l0.length l0 l0.length) (p1 : Q.Own w e1 l1.length l1 l1.length) (p2 : Q.Own w e2 l2.length l2 l2.length) (p3 : Q.Own w e3 l3.length l3 l3.length) (q0 : Q.Own w x0 k0.length k0 k0.length) (q1 : Q.Own w x1 k1.length k1 k1.length) (q2 : Q.Own w x2 k2.length k2 k2.length) (q3 : Q.Own w x3 k3.length k3 k3.length) :
    Calls Try.prog 67 #[.agg #[.slice (some ⟨b0, 0, none⟩) t.length c0, .slice (some ⟨b1, 0, none⟩) hv.length c1], .agg #[.slice (some ⟨e0, 0, none⟩) l0.length f0, .slice (some ⟨e1, 0, none⟩) l1.length f1, .slice (some ⟨e2, 0, none⟩) l2.length f2, .slice (some ⟨e3, 0, none⟩) l3.length f3], .agg #[.slice (some ⟨x0, 0, none⟩) k0.length y0, .slice (some ⟨x1, 0, none⟩) k1.length y1, .slice (some ⟨x2, 0, none⟩) k2.length y2, .slice (some ⟨x3, 0, none⟩) k3.length y3]] w fun e w' => e = .returned (.bool (refV t hv l0 l1 l2 l3 k0 k1 k2 k3)) ∧ Below w.heap.size w w' := by
  have B0 := ((Box.new w (.slice (some ⟨b0, 0, none⟩) t.length c0) (.slice (some ⟨b1, 0, none⟩) hv.length c1) 44).alloc (.cells #[.slice (some ⟨e0, 0, none⟩) l0.length f0, .slice (some ⟨e1, 0, none⟩) l1.length f1, .slice (some ⟨e2, 0, none⟩) l2.length f2, .slice (some ⟨e3, 0, none⟩) l3.length f3] 28)).alloc (.cells #[.slice (some ⟨x0, 0, none⟩) k0.length y0, .slice (some ⟨x1, 0, none⟩) k1.length y1, .slice (some ⟨x2, 0, none⟩) k2.length y2, .slice (some ⟨x3, 0, none⟩) k3.length y3] 28)
  have A0 := (Q.Box.new (w.alloc (.cells #[.slice (some ⟨b0, 0, none⟩) t.length c0, .slice (some ⟨b1, 0, none⟩) hv.length c1] 44)) (.slice (some ⟨e0, 0, none⟩) l0.length f0) (.slice (some ⟨e1, 0, none⟩) l1.length f1) (.slice (some ⟨e2, 0, none⟩) l2.length f2) (.slice (some ⟨e3, 0, none⟩) l3.length f3) 28).alloc (.cells #[.slice (some ⟨x0, 0, none⟩) k0.length y0, .slice (some ⟨x1, 0, none⟩) k1.length y1, .slice (some ⟨x2, 0, none⟩) k2.length y2, .slice (some ⟨x3, 0, none⟩) k3.length y3] 28)
  have D0 := Q.Box.new ((w.alloc (.cells #[.slice (some ⟨b0, 0, none⟩) t.length c0, .slice (some ⟨b1, 0, none⟩) hv.length c1] 44)).alloc (.cells #[.slice (some ⟨e0, 0, none⟩) l0.length f0, .slice (some ⟨e1, 0, none⟩) l1.length f1, .slice (some ⟨e2, 0, none⟩) l2.length f2, .slice (some ⟨e3, 0, none⟩) l3.length f3] 28)) (.slice (some ⟨x0, 0, none⟩) k0.length y0) (.slice (some ⟨x1, 0, none⟩) k1.length y1) (.slice (some ⟨x2, 0, none⟩) k2.length y2) (.slice (some ⟨x3, 0, none⟩) k3.length y3) 28
  rw [World.size_alloc] at A0 D0
  rw [World.size_alloc] at D0
  have L0 : Below w.heap.size w (((w.alloc (.cells #[.slice (some ⟨b0, 0, none⟩) t.length c0, .slice (some ⟨b1, 0, none⟩) hv.length c1] 44)).alloc (.cells #[.slice (some ⟨e0, 0, none⟩) l0.length f0, .slice (some ⟨e1, 0, none⟩) l1.length f1, .slice (some ⟨e2, 0, none⟩) l2.length f2, .slice (some ⟨e3, 0, none⟩) l3.length f3] 28)).alloc (.cells #[.slice (some ⟨x0, 0, none⟩) k0.length y0, .slice (some ⟨x1, 0, none⟩) k1.length y1, .slice (some ⟨x2, 0, none⟩) k2.length y2, .slice (some ⟨x3, 0, none⟩) k3.length y3] 28)) := (((Below.refl _ _).alloc (Nat.le_refl _) _).alloc (by simp) _).alloc (by simp; omega) _
  replace o0 := o0.keep L0; replace o1 := o1.keep L0; replace p0 := p0.below L0 p0.1; replace p1 := p1.below L0 p1.1; replace p2 := p2.below L0 p2.1; replace p3 := p3.below L0 p3.1; replace q0 := q0.below L0 q0.1; replace q1 := q1.below L0 q1.1; replace q2 := q2.below L0 q2.1; replace q3 := q3.below L0 q3.1
  have hc := sStateOk_any b0 b1 c0 c1 t hv _ n0 n1 o0 o1
  go_enter Try.func67, Try.ntmps67
  go_wp2_with fail
  generalize (((w.alloc (.cells #[.slice (some ⟨b0, 0, none⟩) t.length c0, .slice (some ⟨b1, 0, none⟩) hv.length c1] 44)).alloc (.cells #[.slice (some ⟨e0, 0, none⟩) l0.length f0, .slice (some ⟨e1, 0, none⟩) l1.length f1, .slice (some ⟨e2, 0, none⟩) l2.length f2, .slice (some ⟨e3, 0, none⟩) l3.length f3] 28)).alloc (.cells #[.slice (some ⟨x0, 0, none⟩) k0.length y0, .slice (some ⟨x1, 0, none⟩) k1.length y1, .slice (some ⟨x2, 0, none⟩) k2.length y2, .slice (some ⟨x3, 0, none⟩) k3.length y3] 28)) = W0 at *
  refine hc.mono ?_
  rintro e w1 ⟨rfl, hb⟩
  replace B0 := B0.keep hb; replace A0 := A0.below hb A0.lt; replace D0 := D0.below hb D0.lt; replace o0 := o0.keep hb; replace o1 := o1.keep hb; replace p0 := p0.below hb p0.1; replace p1 := p1.below hb p1.1; replace p2 := p2.below hb p2.1; replace p3 := p3.below hb p3.1; replace q0 := q0.below hb q0.1; replace q1 := q1.below hb q1.1; replace q2 := q2.below hb q2.1; replace q3 := q3.below hb q3.1; replace L0 := L0.trans (hb.mono L0.size)
  clear hb hc
  have z0 := B0.c0; have z1 := B0.c1; have y0' := A0.c0; have y1' := A0.c1; have y2' := A0.c2; have y3' := A0.c3; have u0 := D0.c0; have u1 := D0.c1; have u2 := D0.c2; have u3 := D0.c3
  cases hs : sOk t hv
  · have HV : Hid (refV t hv l0 l1 l2 l3 k0 k1 k2 k3 = false) := by show refV t hv l0 l1 l2 l3 k0 k1 k2 k3 = false; unfold refV; rw [hs]; rfl
    go_wp2
    go_ret
    exact ⟨ret_bool (HV.out.symm), L0⟩
  have hc := Q.sAsnOk_any (some ⟨e0, 0, none⟩) (some ⟨e1, 0, none⟩) (some ⟨e2, 0, none⟩) (some ⟨e3, 0, none⟩) f0 f1 f2 f3 l0 l1 l2 l3 w1 j0 j1 j2 j3 p0.row p1.row p2.row p3.row
  go_wp2_with fail
  refine hc.mono ?_
  rintro e w2 ⟨rfl, hb⟩
  replace B0 := B0.keep hb; replace A0 := A0.below hb A0.lt; replace D0 := D0.below hb D0.lt; replace o0 := o0.keep hb; replace o1 := o1.keep hb; replace p0 := p0.below hb p0.1; replace p1 := p1.below hb p1.1; replace p2 := p2.below hb p2.1; replace p3 := p3.below hb p3.1; replace q0 := q0.below hb q0.1; replace q1 := q1.below hb q1.1; replace q2 := q2.below hb q2.1; replace q3 := q3.below hb q3.1; replace L0 := L0.trans (hb.mono L0.size)
  clear hb hc z0 z1 y0' y1' y2' y3' u0 u1 u2 u3
  have z0 := B0.c0; have z1 := B0.c1; have y0' := A0.c0; have y1' := A0.c1; have y2' := A0.c2; have y3' := A0.c3; have u0 := D0.c0; have u1 := D0.c1; have u2 := D0.c2; have u3 := D0.c3
  cases hp : Q.asnB l0 l1 l2 l3
  · have HV : Hid (refV t hv l0 l1 l2 l3 k0 k1 k2 k3 = false) := by show refV t hv l0 l1 l2 l3 k0 k1 k2 k3 = false; unfold refV; rw [hs, hp]; rfl
    go_wp2
    go_ret
    exact ⟨ret_bool (HV.out.symm), L0⟩
  have hc := Q.sAsnOk_any (some ⟨x0, 0, none⟩) (some ⟨x1, 0, none⟩) (some ⟨x2, 0, none⟩) (some ⟨x3, 0, none⟩) y0 y1 y2 y3 k0 k1 k2 k3 w2 i0 i1 i2 i3 q0.row q1.row q2.row q3.row
  go_wp2_with fail
  refine hc.mono ?_
  rintro e w3 ⟨rfl, hb⟩
  replace B0 := B0.keep hb; replace A0 := A0.below hb A0.lt; replace D0 := D0.below hb D0.lt; replace o0 := o0.keep hb; replace o1 := o1.keep hb; replace p0 := p0.below hb p0.1; replace p1 := p1.below hb p1.1; replace p2 := p2.below hb p2.1; replace p3 := p3.below hb p3.1; replace q0 := q0.below hb q0.1; replace q1 := q1.below hb q1.1; replace q2 := q2.below hb q2.1; replace q3 := q3.below hb q3.1; replace L0 := L0.trans (hb.mono L0.size)
  clear hb hc z0 z1 y0' y1' y2' y3' u0 u1 u2 u3
  have z0 := B0.c0; have z1 := B0.c1; have y0' := A0.c0; have y1' := A0.c1; have y2' := A0.c2; have y3' := A0.c3; have u0 := D0.c0; have u1 := D0.c1; have u2 := D0.c2; have u3 := D0.c3
  cases hq : Q.asnB k0 k1 k2 k3
  · have HV : Hid (refV t hv l0 l1 l2 l3 k0 k1 k2 k3 = false) := by show refV t hv l0 l1 l2 l3 k0 k1 k2 k3 = false; unfold refV; rw [hs, hp, hq]; rfl
    go_wp2
    go_ret
    exact ⟨ret_bool (HV.out.symm), L0⟩
  obtain ⟨t0, t1, t2, t3, m0, m1, m2, m3⟩ := asnB_true hp
  obtain ⟨r0, r1, r2, r3, v0, v1, v2, v3⟩ := asnB_true hq
  have HV : Hid (refV t hv l0 l1 l2 l3 k0 k1 k2 k3 = (holdsB t hv l0 l1 l2 l3 && !holdsB t hv k0 k1 k2 k3)) := by show refV t hv l0 l1 l2 l3 k0 k1 k2 k3 = _; unfold refV; rw [hs, hp, hq]; rfl
  have HS : Hid (sOk t hv = true) := hs
  clear hs hp hq
  have hc := l2holds_any b0 b1 c0 c1 t hv e0 e1 e2 e3 f0 f1 f2 f3 l0 l1 l2 l3 w3 HS.out m0 m1 m2 m3 t0 t1 t2 t3 o0 o1 p0 p1 p2 p3
  go_wp2_with fail
  refine hc.mono ?_
  rintro e w4 ⟨rfl, hb⟩
  replace B0 := B0.keep hb; replace A0 := A0.below hb A0.lt; replace D0 := D0.below hb D0.lt; replace o0 := o0.keep hb; replace o1 := o1.keep hb; replace p0 := p0.below hb p0.1; replace p1 := p1.below hb p1.1; replace p2 := p2.below hb p2.1; replace p3 := p3.below hb p3.1; replace q0 := q0.below hb q0.1; replace q1 := q1.below hb q1.1; replace q2 := q2.below hb q2.1; replace q3 := q3.below hb q3.1; replace L0 := L0.trans (hb.mono L0.size)
  clear hb hc z0 z1 y0' y1' y2' y3' u0 u1 u2 u3
  have z0 := B0.c0; have z1 := B0.c1; have y0' := A0.c0; have y1' := A0.c1; have y2' := A0.c2; have y3' := A0.c3; have u0 := D0.c0; have u1 := D0.c1; have u2 := D0.c2; have u3 := D0.c3
  cases hh : holdsB t hv l0 l1 l2 l3
  · go_wp2
    go_ret
    exact ⟨ret_bool (by rw [HV.out, hh]; rfl), L0⟩
  have hc := l2holds_any b0 b1 c0 c1 t hv x0 x1 x2 x3 y0 y1 y2 y3 k0 k1 k2 k3 w4 HS.out v0 v1 v2 v3 r0 r1 r2 r3 o0 o1 q0 q1 q2 q3
  go_wp2_with fail
  refine hc.mono ?_
  rintro e w5 ⟨rfl, hb⟩
  replace B0 := B0.keep hb; replace A0 := A0.below hb A0.lt; replace D0 := D0.below hb D0.lt; replace o0 := o0.keep hb; replace o1 := o1.keep hb; replace p0 := p0.below hb p0.1; replace p1 := p1.below hb p1.1; replace p2 := p2.below hb p2.1; replace p3 := p3.below hb p3.1; replace q0 := q0.below hb q0.1; replace q1 := q1.below hb q1.1; replace q2 := q2.below hb q2.1; replace q3 := q3.below hb q3.1; replace L0 := L0.trans (hb.mono L0.size)
  clear hb hc z0 z1 y0' y1' y2' y3' u0 u1 u2 u3
  have z0 := B0.c0; have z1 := B0.c1; have y0' := A0.c0; have y1' := A0.c1; have y2' := A0.c2; have y3' := A0.c3; have u0 := D0.c0; have u1 := D0.c1; have u2 := D0.c2; have u3 := D0.c3
  cases hg : holdsB t hv k0 k1 k2 k3
  · go_wp2
    go_ret
    exact ⟨ret_bool (by rw [HV.out, hh, hg]; rfl), L0⟩
  · go_wp2
    go_ret
    exact ⟨ret_bool (by rw [HV.out, hh, hg]; rfl), L0⟩

set_option maxHeartbeats 2000000 in
theorem iRefuted_any (b0 b1 c0 c1 : Nat) (t hv : List Int) (e0 e1 e2 e3 f0 f1 f2 f3 : Nat) (l0 l1 l2 l3 : List (Int × Int)) (x0 x1 x2 x3 y0 y1 y2 y3 : Nat) (k0 k1 k2 k3 : List (Int × Int)) (w : World) (n0 : t.length ≤ 1048576) (n1 : hv.length ≤ 1048576) (j0 : l0.length ≤ 1048576) (j1 : l1.length ≤ 1048576) (j2 : l2.length ≤ 1048576) (j3 : l3.length ≤ 1048576) (i0 : k0.length ≤ 1048576) (i1 : k1.length ≤ 1048576) (i2 : k2.length ≤ 1048576) (i3 : k3.length ≤ 1048576) (o0 : OwnI w b0 t.length t t.length) (o1 : OwnI w b1 hv.length hv hv.length) (p0 : Q.Own w e0 l0.length l0 l0.length) (p1 : Q.Own w e1 l1.length l1 l1.length) (p2 : Q.Own w e2 l2.length l2 l2.length) (p3 : Q.Own w e3 l3.length l3 l3.length) (q0 : Q.Own w x0 k0.length k0 k0.length) (q1 : Q.Own w x1 k1.length k1 k1.length) (q2 : Q.Own w x2 k2.length k2 k2.length) (q3 : Q.Own w x3 k3.length k3 k3.length) :
    Calls Try.prog 68 #[.agg #[.slice (some ⟨b0, 0, none⟩) t.length c0, .slice (some ⟨b1, 0, none⟩) hv.length c1], .agg #[.slice (some ⟨e0, 0, none⟩) l0.length f0, .slice (some ⟨e1, 0, none⟩) l1.length f1, .slice (some ⟨e2, 0, none⟩) l2.length f2, .slice (some ⟨e3, 0, none⟩) l3.length f3], .agg #[.slice (some ⟨x0, 0, none⟩) k0.length y0, .slice (some ⟨x1, 0, none⟩) k1.length y1, .slice (some ⟨x2, 0, none⟩) k2.length y2, .slice (some ⟨x3, 0, none⟩) k3.length y3]] w fun e w' => e = .returned (.bool (refV t hv l0 l1 l2 l3 k0 k1 k2 k3)) ∧ Below w.heap.size w w' := by
  have B0 := ((Box.new w (.slice (some ⟨b0, 0, none⟩) t.length c0) (.slice (some ⟨b1, 0, none⟩) hv.length c1) 44).alloc (.cells #[.slice (some ⟨e0, 0, none⟩) l0.length f0, .slice (some ⟨e1, 0, none⟩) l1.length f1, .slice (some ⟨e2, 0, none⟩) l2.length f2, .slice (some ⟨e3, 0, none⟩) l3.length f3] 28)).alloc (.cells #[.slice (some ⟨x0, 0, none⟩) k0.length y0, .slice (some ⟨x1, 0, none⟩) k1.length y1, .slice (some ⟨x2, 0, none⟩) k2.length y2, .slice (some ⟨x3, 0, none⟩) k3.length y3] 28)
  have A0 := (Q.Box.new (w.alloc (.cells #[.slice (some ⟨b0, 0, none⟩) t.length c0, .slice (some ⟨b1, 0, none⟩) hv.length c1] 44)) (.slice (some ⟨e0, 0, none⟩) l0.length f0) (.slice (some ⟨e1, 0, none⟩) l1.length f1) (.slice (some ⟨e2, 0, none⟩) l2.length f2) (.slice (some ⟨e3, 0, none⟩) l3.length f3) 28).alloc (.cells #[.slice (some ⟨x0, 0, none⟩) k0.length y0, .slice (some ⟨x1, 0, none⟩) k1.length y1, .slice (some ⟨x2, 0, none⟩) k2.length y2, .slice (some ⟨x3, 0, none⟩) k3.length y3] 28)
  have D0 := Q.Box.new ((w.alloc (.cells #[.slice (some ⟨b0, 0, none⟩) t.length c0, .slice (some ⟨b1, 0, none⟩) hv.length c1] 44)).alloc (.cells #[.slice (some ⟨e0, 0, none⟩) l0.length f0, .slice (some ⟨e1, 0, none⟩) l1.length f1, .slice (some ⟨e2, 0, none⟩) l2.length f2, .slice (some ⟨e3, 0, none⟩) l3.length f3] 28)) (.slice (some ⟨x0, 0, none⟩) k0.length y0) (.slice (some ⟨x1, 0, none⟩) k1.length y1) (.slice (some ⟨x2, 0, none⟩) k2.length y2) (.slice (some ⟨x3, 0, none⟩) k3.length y3) 28
  rw [World.size_alloc] at A0 D0
  rw [World.size_alloc] at D0
  have L0 : Below w.heap.size w (((w.alloc (.cells #[.slice (some ⟨b0, 0, none⟩) t.length c0, .slice (some ⟨b1, 0, none⟩) hv.length c1] 44)).alloc (.cells #[.slice (some ⟨e0, 0, none⟩) l0.length f0, .slice (some ⟨e1, 0, none⟩) l1.length f1, .slice (some ⟨e2, 0, none⟩) l2.length f2, .slice (some ⟨e3, 0, none⟩) l3.length f3] 28)).alloc (.cells #[.slice (some ⟨x0, 0, none⟩) k0.length y0, .slice (some ⟨x1, 0, none⟩) k1.length y1, .slice (some ⟨x2, 0, none⟩) k2.length y2, .slice (some ⟨x3, 0, none⟩) k3.length y3] 28)) := (((Below.refl _ _).alloc (Nat.le_refl _) _).alloc (by simp) _).alloc (by simp; omega) _
  replace o0 := o0.keep L0; replace o1 := o1.keep L0; replace p0 := p0.below L0 p0.1; replace p1 := p1.below L0 p1.1; replace p2 := p2.below L0 p2.1; replace p3 := p3.below L0 p3.1; replace q0 := q0.below L0 q0.1; replace q1 := q1.below L0 q1.1; replace q2 := q2.below L0 q2.1; replace q3 := q3.below L0 q3.1
  have hc := iHolds_any b0 b1 c0 c1 t hv e0 e1 e2 e3 f0 f1 f2 f3 l0 l1 l2 l3 _ n0 n1 j0 j1 j2 j3 o0 o1 p0 p1 p2 p3
  go_enter Try.func68, Try.ntmps68
  go_wp2_with fail
  generalize (((w.alloc (.cells #[.slice (some ⟨b0, 0, none⟩) t.length c0, .slice (some ⟨b1, 0, none⟩) hv.length c1] 44)).alloc (.cells #[.slice (some ⟨e0, 0, none⟩) l0.length f0, .slice (some ⟨e1, 0, none⟩) l1.length f1, .slice (some ⟨e2, 0, none⟩) l2.length f2, .slice (some ⟨e3, 0, none⟩) l3.length f3] 28)).alloc (.cells #[.slice (some ⟨x0, 0, none⟩) k0.length y0, .slice (some ⟨x1, 0, none⟩) k1.length y1, .slice (some ⟨x2, 0, none⟩) k2.length y2, .slice (some ⟨x3, 0, none⟩) k3.length y3] 28)) = W0 at *
  refine hc.mono ?_
  rintro e w1 ⟨rfl, hb⟩
  replace B0 := B0.keep hb; replace A0 := A0.below hb A0.lt; replace D0 := D0.below hb D0.lt; replace o0 := o0.keep hb; replace o1 := o1.keep hb; replace p0 := p0.below hb p0.1; replace p1 := p1.below hb p1.1; replace p2 := p2.below hb p2.1; replace p3 := p3.below hb p3.1; replace q0 := q0.below hb q0.1; replace q1 := q1.below hb q1.1; replace q2 := q2.below hb q2.1; replace q3 := q3.below hb q3.1; replace L0 := L0.trans (hb.mono L0.size)
  clear hb hc
  have z0 := B0.c0; have z1 := B0.c1; have y0' := A0.c0; have y1' := A0.c1; have y2' := A0.c2; have y3' := A0.c3; have u0 := D0.c0; have u1 := D0.c1; have u2 := D0.c2; have u3 := D0.c3
  cases hh : holdsV t hv l0 l1 l2 l3
  · have HV : Hid (refV t hv l0 l1 l2 l3 k0 k1 k2 k3 = false) := by
      show refV t hv l0 l1 l2 l3 k0 k1 k2 k3 = false
      unfold holdsV at hh; unfold refV
      cases h1 : sOk t hv <;> cases h2 : Q.asnB l0 l1 l2 l3 <;> cases h3 : holdsB t hv l0 l1 l2 l3 <;> simp_all
    go_wp2
    go_ret
    exact ⟨ret_bool (HV.out.symm), L0⟩
  have HH : Hid (sOk t hv = true ∧ Q.asnB l0 l1 l2 l3 = true ∧ holdsB t hv l0 l1 l2 l3 = true) := by
    show sOk t hv = true ∧ Q.asnB l0 l1 l2 l3 = true ∧ holdsB t hv l0 l1 l2 l3 = true
    unfold holdsV at hh
    simpa using hh
  have hc := Q.iAsnOk_any (some ⟨x0, 0, none⟩) (some ⟨x1, 0, none⟩) (some ⟨x2, 0, none⟩) (some ⟨x3, 0, none⟩) y0 y1 y2 y3 k0 k1 k2 k3 w1 i0 i1 i2 i3 q0.row q1.row q2.row q3.row
  go_wp2_with fail
  refine hc.mono ?_
  rintro e w2 ⟨rfl, hb⟩
  replace B0 := B0.keep hb; replace A0 := A0.below hb A0.lt; replace D0 := D0.below hb D0.lt; replace o0 := o0.keep hb; replace o1 := o1.keep hb; replace p0 := p0.below hb p0.1; replace p1 := p1.below hb p1.1; replace p2 := p2.below hb p2.1; replace p3 := p3.below hb p3.1; replace q0 := q0.below hb q0.1; replace q1 := q1.below hb q1.1; replace q2 := q2.below hb q2.1; replace q3 := q3.below hb q3.1; replace L0 := L0.trans (hb.mono L0.size)
  clear hb hc z0 z1 y0' y1' y2' y3' u0 u1 u2 u3
  have z0 := B0.c0; have z1 := B0.c1; have y0' := A0.c0; have y1' := A0.c1; have y2' := A0.c2; have y3' := A0.c3; have u0 := D0.c0; have u1 := D0.c1; have u2 := D0.c2; have u3 := D0.c3
  cases hq : Q.asnB k0 k1 k2 k3
  · have HV : Hid (refV t hv l0 l1 l2 l3 k0 k1 k2 k3 = false) := by
      show refV t hv l0 l1 l2 l3 k0 k1 k2 k3 = false
      unfold refV; rw [hq]; simp
    go_wp2
    go_ret
    exact ⟨ret_bool (HV.out.symm), L0⟩
  have hc := iHolds_any b0 b1 c0 c1 t hv x0 x1 x2 x3 y0 y1 y2 y3 k0 k1 k2 k3 w2 n0 n1 i0 i1 i2 i3 o0 o1 q0 q1 q2 q3
  go_wp2_with fail
  refine hc.mono ?_
  rintro e w3 ⟨rfl, hb⟩
  replace B0 := B0.keep hb; replace A0 := A0.below hb A0.lt; replace D0 := D0.below hb D0.lt; replace o0 := o0.keep hb; replace o1 := o1.keep hb; replace p0 := p0.below hb p0.1; replace p1 := p1.below hb p1.1; replace p2 := p2.below hb p2.1; replace p3 := p3.below hb p3.1; replace q0 := q0.below hb q0.1; replace q1 := q1.below hb q1.1; replace q2 := q2.below hb q2.1; replace q3 := q3.below hb q3.1; replace L0 := L0.trans (hb.mono L0.size)
  clear hb hc z0 z1 y0' y1' y2' y3' u0 u1 u2 u3
  have z0 := B0.c0; have z1 := B0.c1; have y0' := A0.c0; have y1' := A0.c1; have y2' := A0.c2; have y3' := A0.c3; have u0 := D0.c0; have u1 := D0.c1; have u2 := D0.c2; have u3 := D0.c3
  have HV : Hid (refV t hv l0 l1 l2 l3 k0 k1 k2 k3 = !holdsV t hv k0 k1 k2 k3) := by
    show refV t hv l0 l1 l2 l3 k0 k1 k2 k3 = _
    obtain ⟨h1, h2, h3⟩ := HH.out
    unfold refV holdsV; rw [h1, h2, h3, hq]; simp
  clear hq
  cases hg : holdsV t hv k0 k1 k2 k3
  · go_wp2
    go_ret
    exact ⟨ret_bool (by rw [HV.out, hg]; rfl), L0⟩
  · go_wp2
    go_ret
    exact ⟨ret_bool (by rw [HV.out, hg]; rfl), L0⟩

end Go.Proofs.Ytokdhbegkbilbaa
