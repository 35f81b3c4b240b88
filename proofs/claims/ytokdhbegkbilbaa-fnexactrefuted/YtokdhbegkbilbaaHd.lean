/-
  The contracts of spec.Holds and impl.Holds.
-/
import Derived.Test.YtokdhbegkbilbaaLh
import Derived.Test.YtokdhbegkbilbaaSh
import Derived.Test.YtokdhbegkbilbaaSOk
namespace Go.Proofs.Ytokdhbegkbilbaa
open Go.RowKit Go.Maps

def holdsV (t hv : List Int) (l0 l1 l2 l3 : List (Int × Int)) : Bool := sOk t hv && (Q.asnB l0 l1 l2 l3 && holdsB t hv l0 l1 l2 l3)

theorem asnB_true {l0 l1 l2 l3 : List (Int × Int)} (h : Q.asnB l0 l1 l2 l3 = true) : Q.toks l0 = true ∧ Q.toks l1 = true ∧ Q.toks l2 = true ∧ Q.toks l3 = true ∧ l0.length ≤ 12 ∧ l1.length ≤ 12 ∧ l2.length ≤ 12 ∧ l3.length ≤ 12 := by
  unfold Q.asnB at h
  simp only [Bool.and_eq_true, decide_eq_true_eq] at h
  obtain ⟨⟨⟨⟨⟨⟨a, b⟩, c⟩, d⟩, e⟩, f⟩, g⟩ := h
  exact ⟨a, b, c, d, e, f, by omega, by omega⟩

set_option maxHeartbeats 1000000 in
theorem sHolds_any (b0 b1 c0 c1 : Nat) (t hv : List Int) (e0 e1 e2 e3 f0 f1 f2 f3 : Nat) (l0 l1 l2 l3 : List (Int × Int)) (w : World) (n0 : t.length ≤ 1048576) (n1 : hv.length ≤ 1048576) (j0 : l0.length ≤ 1048576) (j1 : l1.length ≤ 1048576) (j2 : l2.length ≤ 1048576) (j3 : l3.length ≤ 1048576) (o0 : OwnI w b0 t.length t t.length) (o1 : OwnI w b1 hv.length hv hv.length) (p0 : Q.Own w e0 l0.length l0 l0.length) (p1 : Q.Own w e1 l1.length l1 l1.length) (p2 : Q.Own w e2 l2.length l2 l2.length) (p3 : Q.Own w e3 l3.length l3 l3.length) :
    Calls Try.prog 45 #[.agg #[.slice (some ⟨b0, 0, none⟩) t.length c0, .slice (some ⟨b1, 0, none⟩) hv.length c1], .agg #[.slice (some ⟨e0, 0, none⟩) l0.length f0, .slice (some ⟨e1, 0, none⟩) l1.length f1, .slice (some ⟨e2, 0, none⟩) l2.length f2, .slice (some ⟨e3, 0, none⟩) l3.length f3]] w fun e w' => e = .returned (.bool (holdsV t hv l0 l1 l2 l3)) ∧ Below w.heap.size w w' := by
  have B0 := (Box.new w (.slice (some ⟨b0, 0, none⟩) t.length c0) (.slice (some ⟨b1, 0, none⟩) hv.length c1) 44).alloc (.cells #[.slice (some ⟨e0, 0, none⟩) l0.length f0, .slice (some ⟨e1, 0, none⟩) l1.length f1, .slice (some ⟨e2, 0, none⟩) l2.length f2, .slice (some ⟨e3, 0, none⟩) l3.length f3] 28)
  have A0 := Q.Box.new (w.alloc (.cells #[.slice (some ⟨b0, 0, none⟩) t.length c0, .slice (some ⟨b1, 0, none⟩) hv.length c1] 44)) (.slice (some ⟨e0, 0, none⟩) l0.length f0) (.slice (some ⟨e1, 0, none⟩) l1.length f1) (.slice (some ⟨e2, 0, none⟩) l2.length f2) (.slice (some ⟨e3, 0, none⟩) l3.length f3) 28
  rw [World.size_alloc] at A0
  have L0 : Below w.heap.size w ((w.alloc (.cells #[.slice (some ⟨b0, 0, none⟩) t.length c0, .slice (some ⟨b1, 0, none⟩) hv.length c1] 44)).alloc (.cells #[.slice (some ⟨e0, 0, none⟩) l0.length f0, .slice (some ⟨e1, 0, none⟩) l1.length f1, .slice (some ⟨e2, 0, none⟩) l2.length f2, .slice (some ⟨e3, 0, none⟩) l3.length f3] 28)) := ((Below.refl _ _).alloc (Nat.le_refl _) _).alloc (by simp) _
  replace o0 := o0.keep L0; replace o1 := o1.keep L0; replace p0 := p0.below L0 p0.1; replace p1 := p1.below L0 p1.1; replace p2 := p2.below L0 p2.1; replace p3 := p3.below L0 p3.1
  have hc := sStateOk_any b0 b1 c0 c1 t hv _ n0 n1 o0 o1
  go_enter Try.func45, Try.ntmps45
  go_wp2_with fail
  generalize ((w.alloc (.cells #[.slice (some ⟨b0, 0, none⟩) t.length c0, .slice (some ⟨b1, 0, none⟩) hv.length c1] 44)).alloc (.cells #[.slice (some ⟨e0, 0, none⟩) l0.length f0, .slice (some ⟨e1, 0, none⟩) l1.length f1, .slice (some ⟨e2, 0, none⟩) l2.length f2, .slice (some ⟨e3, 0, none⟩) l3.length f3] 28)) = W0 at *
  refine hc.mono ?_
  rintro e w1 ⟨rfl, hb⟩
  replace B0 := B0.keep hb; replace A0 := A0.below hb A0.lt; replace o0 := o0.keep hb; replace o1 := o1.keep hb; replace p0 := p0.below hb p0.1; replace p1 := p1.below hb p1.1; replace p2 := p2.below hb p2.1; replace p3 := p3.below hb p3.1; replace L0 := L0.trans (hb.mono L0.size)
  clear hb hc
  have z0 := B0.c0; have z1 := B0.c1; have y0 := A0.c0; have y1 := A0.c1; have y2 := A0.c2; have y3 := A0.c3
  cases hs : sOk t hv
  · have HV : Hid (holdsV t hv l0 l1 l2 l3 = false) := by show holdsV t hv l0 l1 l2 l3 = false; unfold holdsV; rw [hs]; rfl
    go_wp2
    go_ret
    exact ⟨ret_bool HV.out.symm, L0⟩
  · have hc := Q.sAsnOk_any (some ⟨e0, 0, none⟩) (some ⟨e1, 0, none⟩) (some ⟨e2, 0, none⟩) (some ⟨e3, 0, none⟩) f0 f1 f2 f3 l0 l1 l2 l3 w1 j0 j1 j2 j3 p0.row p1.row p2.row p3.row
    go_wp2_with fail
    refine hc.mono ?_
    rintro e w2 ⟨rfl, hb⟩
    replace B0 := B0.keep hb; replace A0 := A0.below hb A0.lt; replace o0 := o0.keep hb; replace o1 := o1.keep hb; replace p0 := p0.below hb p0.1; replace p1 := p1.below hb p1.1; replace p2 := p2.below hb p2.1; replace p3 := p3.below hb p3.1; replace L0 := L0.trans (hb.mono L0.size)
    clear hb hc z0 z1 y0 y1 y2 y3
    have z0 := B0.c0; have z1 := B0.c1; have y0 := A0.c0; have y1 := A0.c1; have y2 := A0.c2; have y3 := A0.c3
    cases hq : Q.asnB l0 l1 l2 l3
    · have HV : Hid (holdsV t hv l0 l1 l2 l3 = false) := by show holdsV t hv l0 l1 l2 l3 = false; unfold holdsV; rw [hs, hq]; rfl
      go_wp2
      go_ret
      exact ⟨ret_bool HV.out.symm, L0⟩
    · obtain ⟨t0, t1, t2, t3, m0, m1, m2, m3⟩ := asnB_true hq
      have HV : Hid (holdsV t hv l0 l1 l2 l3 = holdsB t hv l0 l1 l2 l3) := by show holdsV t hv l0 l1 l2 l3 = _; unfold holdsV; rw [hs, hq]; rfl
      have hc := l2holds_any b0 b1 c0 c1 t hv e0 e1 e2 e3 f0 f1 f2 f3 l0 l1 l2 l3 w2 hs m0 m1 m2 m3 t0 t1 t2 t3 o0 o1 p0 p1 p2 p3
      clear hs hq
      go_wp2_with fail
      refine hc.mono ?_
      rintro e w3 ⟨rfl, hb⟩
      have L3 := L0.trans (hb.mono L0.size)
      clear hb hc z0 z1 y0 y1 y2 y3
      go_wp2
      go_ret
      exact ⟨ret_bool HV.out.symm, L3⟩


set_option maxHeartbeats 1000000 in
theorem iHolds_any (b0 b1 c0 c1 : Nat) (t hv : List Int) (e0 e1 e2 e3 f0 f1 f2 f3 : Nat) (l0 l1 l2 l3 : List (Int × Int)) (w : World) (n0 : t.length ≤ 1048576) (n1 : hv.length ≤ 1048576) (j0 : l0.length ≤ 1048576) (j1 : l1.length ≤ 1048576) (j2 : l2.length ≤ 1048576) (j3 : l3.length ≤ 1048576) (o0 : OwnI w b0 t.length t t.length) (o1 : OwnI w b1 hv.length hv hv.length) (p0 : Q.Own w e0 l0.length l0 l0.length) (p1 : Q.Own w e1 l1.length l1 l1.length) (p2 : Q.Own w e2 l2.length l2 l2.length) (p3 : Q.Own w e3 l3.length l3 l3.length) :
    Calls Try.prog 46 #[.agg #[.slice (some ⟨b0, 0, none⟩) t.length c0, .slice (some ⟨b1, 0, none⟩) hv.length c1], .agg #[.slice (some ⟨e0, 0, none⟩) l0.length f0, .slice (some ⟨e1, 0, none⟩) l1.length f1, .slice (some ⟨e2, 0, none⟩) l2.length f2, .slice (some ⟨e3, 0, none⟩) l3.length f3]] w fun e w' => e = .returned (.bool (holdsV t hv l0 l1 l2 l3)) ∧ Below w.heap.size w w' := by
  have B0 := (Box.new w (.slice (some ⟨b0, 0, none⟩) t.length c0) (.slice (some ⟨b1, 0, none⟩) hv.length c1) 44).alloc (.cells #[.slice (some ⟨e0, 0, none⟩) l0.length f0, .slice (some ⟨e1, 0, none⟩) l1.length f1, .slice (some ⟨e2, 0, none⟩) l2.length f2, .slice (some ⟨e3, 0, none⟩) l3.length f3] 28)
  have A0 := Q.Box.new (w.alloc (.cells #[.slice (some ⟨b0, 0, none⟩) t.length c0, .slice (some ⟨b1, 0, none⟩) hv.length c1] 44)) (.slice (some ⟨e0, 0, none⟩) l0.length f0) (.slice (some ⟨e1, 0, none⟩) l1.length f1) (.slice (some ⟨e2, 0, none⟩) l2.length f2) (.slice (some ⟨e3, 0, none⟩) l3.length f3) 28
  rw [World.size_alloc] at A0
  have L0 : Below w.heap.size w ((w.alloc (.cells #[.slice (some ⟨b0, 0, none⟩) t.length c0, .slice (some ⟨b1, 0, none⟩) hv.length c1] 44)).alloc (.cells #[.slice (some ⟨e0, 0, none⟩) l0.length f0, .slice (some ⟨e1, 0, none⟩) l1.length f1, .slice (some ⟨e2, 0, none⟩) l2.length f2, .slice (some ⟨e3, 0, none⟩) l3.length f3] 28)) := ((Below.refl _ _).alloc (Nat.le_refl _) _).alloc (by simp) _
  replace o0 := o0.keep L0; replace o1 := o1.keep L0; replace p0 := p0.below L0 p0.1; replace p1 := p1.below L0 p1.1; replace p2 := p2.below L0 p2.1; replace p3 := p3.below L0 p3.1
  have hc := iStateOk_any b0 b1 c0 c1 t hv _ n0 n1 o0 o1
  go_enter Try.func46, Try.ntmps46
  go_wp2_with fail
  generalize ((w.alloc (.cells #[.slice (some ⟨b0, 0, none⟩) t.length c0, .slice (some ⟨b1, 0, none⟩) hv.length c1] 44)).alloc (.cells #[.slice (some ⟨e0, 0, none⟩) l0.length f0, .slice (some ⟨e1, 0, none⟩) l1.length f1, .slice (some ⟨e2, 0, none⟩) l2.length f2, .slice (some ⟨e3, 0, none⟩) l3.length f3] 28)) = W0 at *
  refine hc.mono ?_
  rintro e w1 ⟨rfl, hb⟩
  replace B0 := B0.keep hb; replace A0 := A0.below hb A0.lt; replace o0 := o0.keep hb; replace o1 := o1.keep hb; replace p0 := p0.below hb p0.1; replace p1 := p1.below hb p1.1; replace p2 := p2.below hb p2.1; replace p3 := p3.below hb p3.1; replace L0 := L0.trans (hb.mono L0.size)
  clear hb hc
  have z0 := B0.c0; have z1 := B0.c1; have y0 := A0.c0; have y1 := A0.c1; have y2 := A0.c2; have y3 := A0.c3
  cases hs : sOk t hv
  · have HV : Hid (holdsV t hv l0 l1 l2 l3 = false) := by show holdsV t hv l0 l1 l2 l3 = false; unfold holdsV; rw [hs]; rfl
    go_wp2
    go_ret
    exact ⟨ret_bool HV.out.symm, L0⟩
  · have hc := Q.iAsnOk_any (some ⟨e0, 0, none⟩) (some ⟨e1, 0, none⟩) (some ⟨e2, 0, none⟩) (some ⟨e3, 0, none⟩) f0 f1 f2 f3 l0 l1 l2 l3 w1 j0 j1 j2 j3 p0.row p1.row p2.row p3.row
    go_wp2_with fail
    refine hc.mono ?_
    rintro e w2 ⟨rfl, hb⟩
    replace B0 := B0.keep hb; replace A0 := A0.below hb A0.lt; replace o0 := o0.keep hb; replace o1 := o1.keep hb; replace p0 := p0.below hb p0.1; replace p1 := p1.below hb p1.1; replace p2 := p2.below hb p2.1; replace p3 := p3.below hb p3.1; replace L0 := L0.trans (hb.mono L0.size)
    clear hb hc z0 z1 y0 y1 y2 y3
    have z0 := B0.c0; have z1 := B0.c1; have y0 := A0.c0; have y1 := A0.c1; have y2 := A0.c2; have y3 := A0.c3
    cases hq : Q.asnB l0 l1 l2 l3
    · have HV : Hid (holdsV t hv l0 l1 l2 l3 = false) := by show holdsV t hv l0 l1 l2 l3 = false; unfold holdsV; rw [hs, hq]; rfl
      go_wp2
      go_ret
      exact ⟨ret_bool HV.out.symm, L0⟩
    · obtain ⟨t0, t1, t2, t3, m0, m1, m2, m3⟩ := asnB_true hq
      have HV : Hid (holdsV t hv l0 l1 l2 l3 = holdsB t hv l0 l1 l2 l3) := by show holdsV t hv l0 l1 l2 l3 = _; unfold holdsV; rw [hs, hq]; rfl
      have hc := pureHolds_any b0 b1 c0 c1 t hv e0 e1 e2 e3 f0 f1 f2 f3 l0 l1 l2 l3 w2 (sOk_true hs).1.1 m0 m1 t0 t1 o0 o1 p0 p1 p2 p3
      have hc2 := fun W => spaceHolds_any b0 b1 c0 c1 t hv e0 e1 e2 e3 f0 f1 f2 f3 l0 l1 l2 l3 W hs m2 m3 t2 t3
      clear hs hq
      go_wp2_with fail
      refine hc.mono ?_
      rintro e w3 ⟨rfl, hb⟩
      replace B0 := B0.keep hb; replace A0 := A0.below hb A0.lt; replace o0 := o0.keep hb; replace o1 := o1.keep hb; replace p0 := p0.below hb p0.1; replace p1 := p1.below hb p1.1; replace p2 := p2.below hb p2.1; replace p3 := p3.below hb p3.1; replace L0 := L0.trans (hb.mono L0.size)
      clear hb hc z0 z1 y0 y1 y2 y3
      have z0 := B0.c0; have z1 := B0.c1; have y0 := A0.c0; have y1 := A0.c1; have y2 := A0.c2; have y3 := A0.c3
      cases hp : eqsB t l0 && nesB t l1
      · have HV2 : Hid (holdsB t hv l0 l1 l2 l3 = false) := by show holdsB t hv l0 l1 l2 l3 = false; unfold holdsB; rw [hp]; rfl
        go_wp2
        go_ret
        exact ⟨ret_bool (by rw [HV.out, HV2.out]), L0⟩
      · have HV2 : Hid (holdsB t hv l0 l1 l2 l3 = spaceV t hv l2 l3) := by show holdsB t hv l0 l1 l2 l3 = _; unfold holdsB; rw [hp]; rfl
        have hc := hc2 w3 o0 o1 p0 p1 p2 p3
        go_wp2_with fail
        refine hc.mono ?_
        rintro e w4 ⟨rfl, hb⟩
        have L3 := L0.trans (hb.mono L0.size)
        clear hb hc hc2 z0 z1 y0 y1 y2 y3
        go_wp2
        go_ret
        exact ⟨ret_bool (by rw [HV.out, HV2.out]), L3⟩


end Go.Proofs.Ytokdhbegkbilbaa
