/-
  The contract of spec.l1star: four appends onto rows of the call's own.
-/
import Derived.Test.YtldhbooginlcpaaRm
namespace Go.Proofs.Ytldhbooginlcpaa
open Go.RowKit

theorem wpList_room {ops : Array Oper} {rest : List Oper} {o : Oper} {a : Act} {w : World} {Q : Exit → Act → World → Prop}
    (hg : o.guard = none) (s x : Operand) (hop : o.op = Op.call { callee := Callee.builtin Builtin.append, args := #[s, x], argTypes := #[26, 26] })
    (lo hi : Nat) (a' : Option Addr) (n c : Nat) (l : List (Int × Int)) (hs : a.eval s = .slice a' n c) (hr : RoomIn w lo hi a' n c l)
    (b m d : Nat) (k : List (Int × Int)) (hx : a.eval x = .slice (some ⟨b, 0, none⟩) m d) (hk : k.length = m) (ho : Own w b m k m) (hn : n + m ≤ 2097152) (hlo : lo ≤ w.heap.size)
    (h : ∀ a'' c'' w', RowOr w' lo hi w.heap.size a'' (n + m) (l ++ k) → Out lo hi w w' → wpList Try.prog ops Q rest (a.put o.dst (.slice a'' (n + m) c'')) w') :
    wpList Try.prog ops Q (o :: rest) a w := wpList_plain hg fun K hK => by
  have z := step_room (ops := ops) (K := K) (Q := Q) (E := True) hg s x hop lo hi a' n c l hs hr b m d k hx hk ho hn hlo (fun a'' c'' w' h1 h2 => hK _ _ (h a'' c'' w' h1 h2))
  rwa [if_pos (by simp [Region.wanted, hg])] at z

theorem RowOr.out {w w' : World} {lo hi lo' hi' S n : Nat} {a : Option Addr} {l : List (Int × Int)} (h : RowOr w lo hi S a n l) (ho : Out lo' hi' w w') (h1 : hi ≤ lo' ∨ hi' ≤ lo) (h2 : hi' ≤ S) : RowOr w' lo hi S a n l := by
  obtain ⟨hl, h0 | ⟨b, rfl, hb, hw⟩⟩ := h
  · exact ⟨hl, .inl h0⟩
  · exact ⟨hl, .inr ⟨b, rfl, hb, hw.out ho (by omega)⟩⟩
theorem RowOr.row {w : World} {lo hi S n B : Nat} {a : Option Addr} {l : List (Int × Int)} (h : RowOr w lo hi S a n l) (h1 : B ≤ lo) (h2 : B ≤ S) : RowIn w B w.heap.size a n l := by
  obtain ⟨hl, h0 | ⟨b, rfl, hb, hw⟩⟩ := h
  · exact ⟨hl, .inl h0⟩
  · exact RowIn.ofOwn hw hl (by omega) hw.1

set_option maxHeartbeats 4000000 in
theorem l1star_any (b0 b1 b2 b3 c0 c1 c2 c3 d0 d1 d2 d3 f0 f1 f2 f3 : Nat) (l0 l1 l2 l3 k0 k1 k2 k3 : List (Int × Int)) (w : World) (n0 : l0.length ≤ 1048576) (n1 : l1.length ≤ 1048576) (n2 : l2.length ≤ 1048576) (n3 : l3.length ≤ 1048576) (j0 : k0.length ≤ 1048576) (j1 : k1.length ≤ 1048576) (j2 : k2.length ≤ 1048576) (j3 : k3.length ≤ 1048576) (o0 : Own w b0 l0.length l0 l0.length) (o1 : Own w b1 l1.length l1 l1.length) (o2 : Own w b2 l2.length l2 l2.length) (o3 : Own w b3 l3.length l3 l3.length) (p0 : Own w d0 k0.length k0 k0.length) (p1 : Own w d1 k1.length k1 k1.length) (p2 : Own w d2 k2.length k2 k2.length) (p3 : Own w d3 k3.length k3 k3.length) :
    Calls Try.prog 120 #[.agg #[.slice (some ⟨b0, 0, none⟩) l0.length c0, .slice (some ⟨b1, 0, none⟩) l1.length c1, .slice (some ⟨b2, 0, none⟩) l2.length c2, .slice (some ⟨b3, 0, none⟩) l3.length c3], .agg #[.slice (some ⟨d0, 0, none⟩) k0.length f0, .slice (some ⟨d1, 0, none⟩) k1.length f1, .slice (some ⟨d2, 0, none⟩) k2.length f2, .slice (some ⟨d3, 0, none⟩) k3.length f3]] w fun e w' => ∃ a0 a1 a2 a3 e0 e1 e2 e3,
      e = .returned (.agg #[.slice a0 (l0.length + k0.length) e0, .slice a1 (l1.length + k1.length) e1, .slice a2 (l2.length + k2.length) e2, .slice a3 (l3.length + k3.length) e3]) ∧ RowIn w' w.heap.size w'.heap.size a0 (l0.length + k0.length) (l0 ++ k0) ∧ RowIn w' w.heap.size w'.heap.size a1 (l1.length + k1.length) (l1 ++ k1) ∧ RowIn w' w.heap.size w'.heap.size a2 (l2.length + k2.length) (l2 ++ k2) ∧ RowIn w' w.heap.size w'.heap.size a3 (l3.length + k3.length) (l3 ++ k3) ∧ Below w.heap.size w w' := by
  have B0 := (Box.new (w.alloc (.cells #[.slice (some ⟨b0, 0, none⟩) l0.length c0, .slice (some ⟨b1, 0, none⟩) l1.length c1, .slice (some ⟨b2, 0, none⟩) l2.length c2, .slice (some ⟨b3, 0, none⟩) l3.length c3] 28)) (.slice (some ⟨d0, 0, none⟩) k0.length f0) (.slice (some ⟨d1, 0, none⟩) k1.length f1) (.slice (some ⟨d2, 0, none⟩) k2.length f2) (.slice (some ⟨d3, 0, none⟩) k3.length f3) 28).below ((Below.refl _ _).alloc (Nat.le_refl _) (.cells #[.slice none 0 0, .slice none 0 0, .slice none 0 0, .slice none 0 0] 28)) (by simp)
  have R0 := Box.new ((w.alloc (.cells #[.slice (some ⟨b0, 0, none⟩) l0.length c0, .slice (some ⟨b1, 0, none⟩) l1.length c1, .slice (some ⟨b2, 0, none⟩) l2.length c2, .slice (some ⟨b3, 0, none⟩) l3.length c3] 28)).alloc (.cells #[.slice (some ⟨d0, 0, none⟩) k0.length f0, .slice (some ⟨d1, 0, none⟩) k1.length f1, .slice (some ⟨d2, 0, none⟩) k2.length f2, .slice (some ⟨d3, 0, none⟩) k3.length f3] 28)) (.slice none 0 0) (.slice none 0 0) (.slice none 0 0) (.slice none 0 0) 28
  have A0 := ((Box.new w (.slice (some ⟨b0, 0, none⟩) l0.length c0) (.slice (some ⟨b1, 0, none⟩) l1.length c1) (.slice (some ⟨b2, 0, none⟩) l2.length c2) (.slice (some ⟨b3, 0, none⟩) l3.length c3) 28).below ((Below.refl _ _).alloc (Nat.le_refl _) (.cells #[.slice (some ⟨d0, 0, none⟩) k0.length f0, .slice (some ⟨d1, 0, none⟩) k1.length f1, .slice (some ⟨d2, 0, none⟩) k2.length f2, .slice (some ⟨d3, 0, none⟩) k3.length f3] 28)) (by simp)).below ((Below.refl _ _).alloc (Nat.le_refl _) (.cells #[.slice none 0 0, .slice none 0 0, .slice none 0 0, .slice none 0 0] 28)) (by simp; omega)
  have L0 : Below w.heap.size w (((w.alloc (.cells #[.slice (some ⟨b0, 0, none⟩) l0.length c0, .slice (some ⟨b1, 0, none⟩) l1.length c1, .slice (some ⟨b2, 0, none⟩) l2.length c2, .slice (some ⟨b3, 0, none⟩) l3.length c3] 28)).alloc (.cells #[.slice (some ⟨d0, 0, none⟩) k0.length f0, .slice (some ⟨d1, 0, none⟩) k1.length f1, .slice (some ⟨d2, 0, none⟩) k2.length f2, .slice (some ⟨d3, 0, none⟩) k3.length f3] 28)).alloc (.cells #[.slice none 0 0, .slice none 0 0, .slice none 0 0, .slice none 0 0] 28)) := (((Below.refl _ _).alloc (Nat.le_refl _) _).alloc (by simp) _).alloc (by simp; omega) _
  have Z0 : (((w.alloc (.cells #[.slice (some ⟨b0, 0, none⟩) l0.length c0, .slice (some ⟨b1, 0, none⟩) l1.length c1, .slice (some ⟨b2, 0, none⟩) l2.length c2, .slice (some ⟨b3, 0, none⟩) l3.length c3] 28)).alloc (.cells #[.slice (some ⟨d0, 0, none⟩) k0.length f0, .slice (some ⟨d1, 0, none⟩) k1.length f1, .slice (some ⟨d2, 0, none⟩) k2.length f2, .slice (some ⟨d3, 0, none⟩) k3.length f3] 28)).alloc (.cells #[.slice none 0 0, .slice none 0 0, .slice none 0 0, .slice none 0 0] 28)).heap.size = w.heap.size + 3 := by simp
  rw [World.size_alloc] at B0 R0
  rw [World.size_alloc] at R0
  go_enter Try.func120, Try.ntmps120
  go_wp2_with fail
  generalize ((w.alloc (.cells #[.slice (some ⟨b0, 0, none⟩) l0.length c0, .slice (some ⟨b1, 0, none⟩) l1.length c1, .slice (some ⟨b2, 0, none⟩) l2.length c2, .slice (some ⟨b3, 0, none⟩) l3.length c3] 28)).alloc (.cells #[.slice (some ⟨d0, 0, none⟩) k0.length f0, .slice (some ⟨d1, 0, none⟩) k1.length f1, .slice (some ⟨d2, 0, none⟩) k2.length f2, .slice (some ⟨d3, 0, none⟩) k3.length f3] 28)).alloc (.cells #[.slice none 0 0, .slice none 0 0, .slice none 0 0, .slice none 0 0] 28) = W0 at *
  refine (l1own_any b0 b1 b2 b3 c0 c1 c2 c3 l0 l1 l2 l3 _ n0 n1 n2 n3 (o0.below L0 o0.1) (o1.below L0 o1.1) (o2.below L0 o2.1) (o3.below L0 o3.1)).mono ?_
  rintro e w1 ⟨a0, a1, a2, a3, e0, e1, e2, e3, m1, m2, m3, m4, rfl, t0, t1, t2, t3, g1, g2, g3, g4, g5, hb⟩
  rw [Z0] at t0 g1
  have q0 := p0.1; have q1 := p1.1; have q2 := p2.1; have q3 := p3.1
  replace p0 := (p0.below L0 p0.1).below hb (p0.below L0 p0.1).1; replace p1 := (p1.below L0 p1.1).below hb (p1.below L0 p1.1).1; replace p2 := (p2.below L0 p2.1).below hb (p2.below L0 p2.1).1; replace p3 := (p3.below L0 p3.1).below hb (p3.below L0 p3.1).1
  have hz := hb.size; rw [Z0] at hz; clear Z0
  replace B0 := B0.below hb B0.lt; replace R0 := R0.below hb R0.lt; replace L0 := L0.trans (hb.mono L0.size)
  clear hb A0 o0 o1 o2 o3
  have X0 := Box.new w1 (.slice a0 l0.length e0) (.slice a1 l1.length e1) (.slice a2 l2.length e2) (.slice a3 l3.length e3) 28
  have al : Below w1.heap.size w1 (w1.alloc (.cells #[.slice a0 l0.length e0, .slice a1 l1.length e1, .slice a2 l2.length e2, .slice a3 l3.length e3] 28)) := (Below.refl _ _).alloc (Nat.le_refl _) _
  have Z1 : (w1.alloc (.cells #[.slice a0 l0.length e0, .slice a1 l1.length e1, .slice a2 l2.length e2, .slice a3 l3.length e3] 28)).heap.size = w1.heap.size + 1 := by simp
  replace p0 := p0.below al p0.1; replace p1 := p1.below al p1.1; replace p2 := p2.below al p2.1; replace p3 := p3.below al p3.1
  replace t0 := t0.below al (by omega); replace t1 := t1.below al (by omega); replace t2 := t2.below al (by omega); replace t3 := t3.below al (by omega)
  replace B0 := B0.below al B0.lt; replace R0 := R0.below al R0.lt; replace L0 := L0.trans (al.mono L0.size)
  clear al
  have hN : (w1.alloc (.cells #[.slice a0 l0.length e0, .slice a1 l1.length e1, .slice a2 l2.length e2, .slice a3 l3.length e3] 28)).heap.size = w1.heap.size + 1 := Z1
  clear Z1
  have x0 := X0.c0; have x1 := X0.c1; have x2 := X0.c2; have x3 := X0.c3; have y0 := B0.c0; have y1 := B0.c1; have y2 := B0.c2; have y3 := B0.c3
  have hs0 : w1.heap.size + 1 ≤ (w1.alloc (.cells #[.slice a0 l0.length e0, .slice a1 l1.length e1, .slice a2 l2.length e2, .slice a3 l3.length e3] 28)).heap.size := by omega
  go_wp2_with (first | (at_builtin; refine wpList_room rfl _ _ rfl (w.heap.size + 3 + 2) m1 a0 l0.length e0 l0 rfl t0 d0 k0.length f0 k0 rfl rfl p0 (by omega) (by omega) ?_))
  clear x0 x1 x2 x3 y0 y1 y2 y3
  intro u0 v0 w2 r0 ho
  have X1 := X0.out ho (by omega)
  replace B0 := B0.out ho (by omega); replace R0 := R0.out ho (by omega)
  replace L0 := L0.trans (ho.below (by omega) L0.size)
  replace p0 := p0.out ho (by omega)
  replace p1 := p1.out ho (by omega)
  replace p2 := p2.out ho (by omega)
  replace p3 := p3.out ho (by omega)
  replace t1 := t1.out ho (by omega)
  replace t2 := t2.out ho (by omega)
  replace t3 := t3.out ho (by omega)
  have hn0 := ho.size
  clear ho t0
  have ho := Out.set w1.heap.size 0 w2 (.slice u0 (l0.length + k0.length) v0)
  have xx0 := X1.c0; have xf0 := X1.f0
  replace X0 := X1.set0 (.slice u0 (l0.length + k0.length) v0)
  replace B0 := B0.out ho (by omega); replace R0 := R0.out ho (by omega)
  replace L0 := L0.trans (ho.below (by omega) L0.size)
  replace p0 := p0.out ho (by omega)
  replace p1 := p1.out ho (by omega)
  replace p2 := p2.out ho (by omega)
  replace p3 := p3.out ho (by omega)
  replace t1 := t1.out ho (by omega)
  replace t2 := t2.out ho (by omega)
  replace t3 := t3.out ho (by omega)
  replace r0 := r0.out ho (by omega) (by omega)
  have hm0 : (w2.setCell ⟨w1.heap.size, 0, none⟩ (.slice u0 (l0.length + k0.length) v0)).heap.size = w2.heap.size := by simp
  clear ho X1
  have x0 := X0.c0; have x1 := X0.c1; have x2 := X0.c2; have x3 := X0.c3; have y0 := B0.c0; have y1 := B0.c1; have y2 := B0.c2; have y3 := B0.c3
  have hs1 : w1.heap.size + 1 ≤ (w2.setCell ⟨w1.heap.size, 0, none⟩ (.slice u0 (l0.length + k0.length) v0)).heap.size := by omega
  go_wp2_with (first | (at_builtin; refine wpList_room rfl _ _ rfl m1 m2 a1 l1.length e1 l1 rfl t1 d1 k1.length f1 k1 rfl rfl p1 (by omega) (by omega) ?_))
  clear x0 x1 x2 x3 y0 y1 y2 y3
  intro u1 v1 w3 r1 ho
  have X1 := X0.out ho (by omega)
  replace B0 := B0.out ho (by omega); replace R0 := R0.out ho (by omega)
  replace L0 := L0.trans (ho.below (by omega) L0.size)
  replace p0 := p0.out ho (by omega)
  replace p1 := p1.out ho (by omega)
  replace p2 := p2.out ho (by omega)
  replace p3 := p3.out ho (by omega)
  replace t2 := t2.out ho (by omega)
  replace t3 := t3.out ho (by omega)
  replace r0 := r0.out ho (by omega) (by omega)
  have hn1 := ho.size
  clear ho t1
  have ho := Out.set w1.heap.size 1 w3 (.slice u1 (l1.length + k1.length) v1)
  have xx1 := X1.c1; have xf1 := X1.f1
  replace X0 := X1.set1 (.slice u1 (l1.length + k1.length) v1)
  replace B0 := B0.out ho (by omega); replace R0 := R0.out ho (by omega)
  replace L0 := L0.trans (ho.below (by omega) L0.size)
  replace p0 := p0.out ho (by omega)
  replace p1 := p1.out ho (by omega)
  replace p2 := p2.out ho (by omega)
  replace p3 := p3.out ho (by omega)
  replace t2 := t2.out ho (by omega)
  replace t3 := t3.out ho (by omega)
  replace r0 := r0.out ho (by omega) (by omega)
  replace r1 := r1.out ho (by omega) (by omega)
  have hm1 : (w3.setCell ⟨w1.heap.size, 1, none⟩ (.slice u1 (l1.length + k1.length) v1)).heap.size = w3.heap.size := by simp
  clear ho X1
  have x0 := X0.c0; have x1 := X0.c1; have x2 := X0.c2; have x3 := X0.c3; have y0 := B0.c0; have y1 := B0.c1; have y2 := B0.c2; have y3 := B0.c3
  have hs2 : w1.heap.size + 1 ≤ (w3.setCell ⟨w1.heap.size, 1, none⟩ (.slice u1 (l1.length + k1.length) v1)).heap.size := by omega
  go_wp2_with (first | (at_builtin; refine wpList_room rfl _ _ rfl m2 m3 a2 l2.length e2 l2 rfl t2 d2 k2.length f2 k2 rfl rfl p2 (by omega) (by omega) ?_))
  clear x0 x1 x2 x3 y0 y1 y2 y3
  intro u2 v2 w4 r2 ho
  have X1 := X0.out ho (by omega)
  replace B0 := B0.out ho (by omega); replace R0 := R0.out ho (by omega)
  replace L0 := L0.trans (ho.below (by omega) L0.size)
  replace p0 := p0.out ho (by omega)
  replace p1 := p1.out ho (by omega)
  replace p2 := p2.out ho (by omega)
  replace p3 := p3.out ho (by omega)
  replace t3 := t3.out ho (by omega)
  replace r0 := r0.out ho (by omega) (by omega)
  replace r1 := r1.out ho (by omega) (by omega)
  have hn2 := ho.size
  clear ho t2
  have ho := Out.set w1.heap.size 2 w4 (.slice u2 (l2.length + k2.length) v2)
  have xx2 := X1.c2; have xf2 := X1.f2
  replace X0 := X1.set2 (.slice u2 (l2.length + k2.length) v2)
  replace B0 := B0.out ho (by omega); replace R0 := R0.out ho (by omega)
  replace L0 := L0.trans (ho.below (by omega) L0.size)
  replace p0 := p0.out ho (by omega)
  replace p1 := p1.out ho (by omega)
  replace p2 := p2.out ho (by omega)
  replace p3 := p3.out ho (by omega)
  replace t3 := t3.out ho (by omega)
  replace r0 := r0.out ho (by omega) (by omega)
  replace r1 := r1.out ho (by omega) (by omega)
  replace r2 := r2.out ho (by omega) (by omega)
  have hm2 : (w4.setCell ⟨w1.heap.size, 2, none⟩ (.slice u2 (l2.length + k2.length) v2)).heap.size = w4.heap.size := by simp
  clear ho X1
  have x0 := X0.c0; have x1 := X0.c1; have x2 := X0.c2; have x3 := X0.c3; have y0 := B0.c0; have y1 := B0.c1; have y2 := B0.c2; have y3 := B0.c3
  have hs3 : w1.heap.size + 1 ≤ (w4.setCell ⟨w1.heap.size, 2, none⟩ (.slice u2 (l2.length + k2.length) v2)).heap.size := by omega
  go_wp2_with (first | (at_builtin; refine wpList_room rfl _ _ rfl m3 m4 a3 l3.length e3 l3 rfl t3 d3 k3.length f3 k3 rfl rfl p3 (by omega) (by omega) ?_))
  clear x0 x1 x2 x3 y0 y1 y2 y3
  intro u3 v3 w5 r3 ho
  have X1 := X0.out ho (by omega)
  replace B0 := B0.out ho (by omega); replace R0 := R0.out ho (by omega)
  replace L0 := L0.trans (ho.below (by omega) L0.size)
  replace p0 := p0.out ho (by omega)
  replace p1 := p1.out ho (by omega)
  replace p2 := p2.out ho (by omega)
  replace p3 := p3.out ho (by omega)
  replace r0 := r0.out ho (by omega) (by omega)
  replace r1 := r1.out ho (by omega) (by omega)
  replace r2 := r2.out ho (by omega) (by omega)
  have hn3 := ho.size
  clear ho t3
  have ho := Out.set w1.heap.size 3 w5 (.slice u3 (l3.length + k3.length) v3)
  have xx3 := X1.c3; have xf3 := X1.f3
  replace X0 := X1.set3 (.slice u3 (l3.length + k3.length) v3)
  replace B0 := B0.out ho (by omega); replace R0 := R0.out ho (by omega)
  replace L0 := L0.trans (ho.below (by omega) L0.size)
  replace p0 := p0.out ho (by omega)
  replace p1 := p1.out ho (by omega)
  replace p2 := p2.out ho (by omega)
  replace p3 := p3.out ho (by omega)
  replace r0 := r0.out ho (by omega) (by omega)
  replace r1 := r1.out ho (by omega) (by omega)
  replace r2 := r2.out ho (by omega) (by omega)
  replace r3 := r3.out ho (by omega) (by omega)
  have hm3 : (w5.setCell ⟨w1.heap.size, 3, none⟩ (.slice u3 (l3.length + k3.length) v3)).heap.size = w5.heap.size := by simp
  clear ho X1
  have x0 := X0.c0; have x1 := X0.c1; have x2 := X0.c2; have x3 := X0.c3
  have y0 := R0.c0; have y1 := R0.c1; have y2 := R0.c2; have y3 := R0.c3; have y4 := R0.f0; have y5 := R0.f1; have y6 := R0.f2; have y7 := R0.f3
  obtain ⟨F, FO⟩ := R0.fill (.slice u0 (l0.length + k0.length) v0) (.slice u1 (l1.length + k1.length) v1) (.slice u2 (l2.length + k2.length) v2) (.slice u3 (l3.length + k3.length) v3)
  have s0 := ((r0.out FO (by omega) (by omega)).row (B := w.heap.size) (by omega) (by omega))
  have s1 := ((r1.out FO (by omega) (by omega)).row (B := w.heap.size) (by omega) (by omega))
  have s2 := ((r2.out FO (by omega) (by omega)).row (B := w.heap.size) (by omega) (by omega))
  have s3 := ((r3.out FO (by omega) (by omega)).row (B := w.heap.size) (by omega) (by omega))
  have L1 := L0.trans (FO.below (by omega) L0.size)
  have i0 := F.c0; have i1 := F.c1; have i2 := F.c2; have i3 := F.c3
  clear F FO L0 r0 r1 r2 r3 p0 p1 p2 p3
  go_wp2
  refine bodyPost_ret (v := .agg #[.slice u0 (l0.length + k0.length) v0, .slice u1 (l1.length + k1.length) v1, .slice u2 (l2.length + k2.length) v2, .slice u3 (l3.length + k3.length) v3]) ?_ rfl ⟨u0, u1, u2, u3, v0, v1, v2, v3, rfl, s0, s1, s2, s3, L1⟩
  simp [results, Try.results120, go_sem, i0, i1, i2, i3]

end Go.Proofs.Ytldhbooginlcpaa
