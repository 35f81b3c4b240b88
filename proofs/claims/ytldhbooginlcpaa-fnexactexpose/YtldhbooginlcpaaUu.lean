/-
  The contract of spec.l4unfold.
-/
import Derived.Test.YtldhbooginlcpaaUw
import Derived.Test.YtldhbooginlcpaaFresh
import Derived.Test.YtldhbooginlcpaaSr
import Derived.Deep.DeepCutAuto
import Derived.Deep.RegionHeld3
namespace Go.Proofs.Ytldhbooginlcpaa
open Go.RowKit
set_option linter.unusedVariables false

def unfC (l2 : List (Int × Int)) (s : Int × Int) (f : Int) : List (Int × Int) := l2 ++ [(s.1, f)]
def unfS (l3 : List (Int × Int)) (i : Nat) (s : Int × Int) (f : Int) : List (Int × Int) := l3.take i ++ l3.drop (i + 1) ++ [(f, s.2)]
theorem own_pair (w : World) (p q : Int) : Own (w.alloc (.cells #[.int .i64 p, .int .i64 q] 67)) w.heap.size 1 [(p, q)] 1 := by
  refine ⟨by simp, fun j hj => ?_, fun k hk => ?_⟩
  · obtain rfl | rfl : j = 0 ∨ j = 1 := by omega
    · simp
    · simp
  · obtain rfl : k = 0 := by omega
    simp

/-- What the region that appends to Segs keeps. -/
abbrev UJ (wR : World) (Z A S : Nat) (x0 x1 x2 vs vy : Value) (W : World) : Prop := Out Z (Z + 1) wR W ∧ (∃ x, Box W Z x0 x1 x2 x) ∧ W.cell? ⟨A, 3, none⟩ = some vs ∧ W.cell? ⟨S, 1, none⟩ = some vy
theorem uj_out {wR W u : World} {Z A S lo hi : Nat} {x0 x1 x2 vs vy : Value} (h : UJ wR Z A S x0 x1 x2 vs vy W) (hb : Out lo hi W u) (hl : wR.heap.size ≤ lo) (hz : Z < wR.heap.size) (ha : A < wR.heap.size) (hs : S < wR.heap.size) : UJ wR Z A S x0 x1 x2 vs vy u := by
  obtain ⟨h0, ⟨x, h1⟩, h2, h3⟩ := h
  have hB : Below wR.heap.size W u := hb.below hl h0.size
  refine ⟨⟨hb.os.trans h0.os, hb.tape.trans h0.tape, hb.output.trans h0.output, Nat.le_trans h0.size hb.size, fun k hk hr => (hB.block k hk).trans (h0.block k hk hr)⟩, ⟨x, h1.below hB hz⟩, by rw [hB.cell (p := ⟨A, 3, none⟩) ha]; exact h2, by rw [hB.cell (p := ⟨S, 1, none⟩) hs]; exact h3⟩
theorem uj_keep {wR W u : World} {Z A S : Nat} {x0 x1 x2 vs vy : Value} (hz : Z < wR.heap.size ∧ A < wR.heap.size ∧ S < wR.heap.size) (h : UJ wR Z A S x0 x1 x2 vs vy W) (hb : Below W.heap.size W u) : UJ wR Z A S x0 x1 x2 vs vy u :=
  uj_out h (Out.ofBelow (lo := wR.heap.size) (hi := wR.heap.size) hb) (Nat.le_refl _) hz.1 hz.2.1 hz.2.2
theorem uj_al {wR W : World} {Z A S : Nat} {x0 x1 x2 vs vy : Value} (hz : Z < wR.heap.size ∧ A < wR.heap.size ∧ S < wR.heap.size) (o : Obj) (h : UJ wR Z A S x0 x1 x2 vs vy W) : UJ wR Z A S x0 x1 x2 vs vy (W.alloc o) := uj_keep hz h ((Below.refl _ _).alloc (Nat.le_refl _) o)
theorem uj_ad {wR W : World} {Z A S : Nat} {x0 x1 x2 vs vy : Value} (hz : Z < wR.heap.size ∧ A < wR.heap.size ∧ S < wR.heap.size) (h : UJ wR Z A S x0 x1 x2 vs vy W) : UJ wR Z A S x0 x1 x2 vs vy W.drew := uj_keep hz h (Below.refl _ _).drew
theorem uj_store {wR W : World} {Z A S : Nat} {x0 x1 x2 vs vy : Value} (hz : A ≠ Z ∧ S ≠ Z) (u : Value) (h : UJ wR Z A S x0 x1 x2 vs vy W) : UJ wR Z A S x0 x1 x2 vs vy (W.setCell ⟨Z, 3, none⟩ u) := by
  obtain ⟨h0, ⟨x, h1⟩, h2, h3⟩ := h
  refine ⟨h0.trans (Out.set Z 3 W u), ⟨u, h1.set3 u⟩, ?_, ?_⟩
  · rw [World.cell?_setCell_other _ _ _ _ (by intro e; injection e with e _; exact hz.1 e.symm)]; exact h2
  · rw [World.cell?_setCell_other _ _ _ _ (by intro e; injection e with e _; exact hz.2 e.symm)]; exact h3
theorem uj_own {wR W : World} {Z A S b n k : Nat} {x0 x1 x2 vs vy : Value} {l : List (Int × Int)} (o : Own wR b n l k) (hb : b < Z) (h : UJ wR Z A S x0 x1 x2 vs vy W) : Own W b n l k := o.out h.1 (.inl hb)
theorem uj_room {wR W u : World} {Z A S m c : Nat} {a : Option Addr} {l : List (Int × Int)} {x0 x1 x2 vs vy : Value} (hz : Z < wR.heap.size ∧ A < wR.heap.size ∧ S < wR.heap.size) (h : UJ wR Z A S x0 x1 x2 vs vy W) (hb : Below W.heap.size W u) (d : RoomIn u W.heap.size u.heap.size a m c l) : UJ wR Z A S x0 x1 x2 vs vy u ∧ RoomIn u wR.heap.size u.heap.size a m c l ∧ wR.heap.size ≤ u.heap.size := ⟨uj_keep hz h hb, d.mono h.1.size (Nat.le_refl _), Nat.le_trans h.1.size hb.size⟩
theorem pair_be {w u : World} {p q : Int} (h : Below ((w.alloc (.cells #[.int .i64 p, .int .i64 q] 67)).drew).heap.size (w.alloc (.cells #[.int .i64 p, .int .i64 q] 67)).drew u) : Own u w.heap.size 1 [(p, q)] 1 := by
  have o := (own_pair w p q).below ((Below.refl _ _).drew) (own_pair w p q).1
  exact o.below h o.1

theorem RoomIn.ne {w : World} {lo hi n c : Nat} {a : Option Addr} {l : List (Int × Int)} (h : RoomIn w lo hi a n c l) : a ≠ none := by
  obtain ⟨_, ⟨_, _, _, rfl⟩ | ⟨_, rfl, _⟩⟩ := h <;> intro e <;> cases e
theorem RowOr.ne {w : World} {lo hi S n : Nat} {a : Option Addr} {l : List (Int × Int)} (h : RowOr w lo hi S a n l) (hn : 0 < n) : a ≠ none := by
  obtain ⟨_, h0 | ⟨_, rfl, _⟩⟩ := h
  · omega
  · intro e; cases e
theorem RowIn.ne {w : World} {lo hi n : Nat} {a : Option Addr} {l : List (Int × Int)} (h : RowIn w lo hi a n l) (hn : 0 < n) : a ≠ none := by
  obtain ⟨_, h0 | ⟨_, rfl, _⟩⟩ := h
  · omega
  · intro e; cases e

set_option maxRecDepth 20000 in
set_option maxHeartbeats 4000000 in
theorem l4unfold_ne (b0 b1 b2 b3 c0 c1 c2 c3 : Nat) (l0 l1 l2 l3 : List (Int × Int)) (i : Nat) (w : World) (n0 : l0.length ≤ 1048576) (n1 : l1.length ≤ 1048576) (n2 : l2.length ≤ 1048576) (n3 : l3.length ≤ 1048576) (o0 : Own w b0 l0.length l0 l0.length) (o1 : Own w b1 l1.length l1 l1.length) (o2 : Own w b2 l2.length l2 l2.length) (o3 : Own w b3 l3.length l3 l3.length) (z3 : l3.length ≤ c3) (ht : asnB l0 l1 l2 l3 = true) (hi : i < l3.length) (hf : 0 ≤ freshF (usedV l0 l1 l2 l3)) (hr : l2.length + l3.length < 6) :
    Calls Try.prog 159 #[.agg #[.slice (some ⟨b0, 0, none⟩) l0.length c0, .slice (some ⟨b1, 0, none⟩) l1.length c1, .slice (some ⟨b2, 0, none⟩) l2.length c2, .slice (some ⟨b3, 0, none⟩) l3.length c3], .int .i64 i] w fun e w' => ∃ p0 p1 p2 p3 q0 q1 q2 q3, e = .returned (.tuple #[.agg #[.slice p0 l0.length q0, .slice p1 l1.length q1, .slice p2 (l2.length + 1) q2, .slice p3 (i + (l3.length - (i + 1)) + 1) q3], .bool true]) ∧ Seen w' w.heap.size w'.heap.size p0 p1 p2 p3 l0.length l1.length (l2.length + 1) (i + (l3.length - (i + 1)) + 1) l0 l1 (unfC l2 (l3.getD i (0, 0)) (freshF (usedV l0 l1 l2 l3))) (unfS l3 i (l3.getD i (0, 0)) (freshF (usedV l0 l1 l2 l3))) ∧ (p0 ≠ none ∧ p1 ≠ none ∧ p2 ≠ none ∧ p3 ≠ none) ∧ Below w.heap.size w w' := by
  obtain ⟨f, hff⟩ : ∃ f, Hid (freshF (usedV l0 l1 l2 l3) = f) := ⟨_, rfl⟩
  rw [hff.out] at hf ⊢
  have zb := o3.1
  have A0 := (Box.new w (.slice (some ⟨b0, 0, none⟩) l0.length c0) (.slice (some ⟨b1, 0, none⟩) l1.length c1) (.slice (some ⟨b2, 0, none⟩) l2.length c2) (.slice (some ⟨b3, 0, none⟩) l3.length c3) 28).alloc (.cells #[.slice none 0 0, .slice none 0 0, .slice none 0 0, .slice none 0 0] 28)
  have R0 := Box.new (w.alloc (.cells #[.slice (some ⟨b0, 0, none⟩) l0.length c0, .slice (some ⟨b1, 0, none⟩) l1.length c1, .slice (some ⟨b2, 0, none⟩) l2.length c2, .slice (some ⟨b3, 0, none⟩) l3.length c3] 28)) (.slice none 0 0) (.slice none 0 0) (.slice none 0 0) (.slice none 0 0) 28
  have L0 : Below w.heap.size w ((w.alloc (.cells #[.slice (some ⟨b0, 0, none⟩) l0.length c0, .slice (some ⟨b1, 0, none⟩) l1.length c1, .slice (some ⟨b2, 0, none⟩) l2.length c2, .slice (some ⟨b3, 0, none⟩) l3.length c3] 28)).alloc (.cells #[.slice none 0 0, .slice none 0 0, .slice none 0 0, .slice none 0 0] 28)) := ((Below.refl _ _).alloc (Nat.le_refl _) _).alloc (by simp) _
  rw [World.size_alloc] at R0
  go_enter Try.func159, Try.ntmps159
  go_wp2_with fail
  refine (l1fresh_any _ _ _ _ _ _ _ _ l0 l1 l2 l3 _ n0 n1 n2 n3 (o0.row.below L0 (Nat.le_refl _)) (o1.row.below L0 (Nat.le_refl _)) (o2.row.below L0 (Nat.le_refl _)) (o3.row.below L0 (Nat.le_refl _)) ht).mono ?_
  rintro e w1 ⟨rfl, hb⟩
  rw [hff.out]
  replace A0 := A0.below hb A0.lt; replace R0 := R0.below hb R0.lt; replace L0 := L0.trans (hb.mono L0.size)
  replace o0 := o0.below (L0) o0.1; replace o1 := o1.below (L0) o1.1; replace o2 := o2.below (L0) o2.1; replace o3 := o3.below (L0) o3.1
  clear hb ht
  have A0c0 := A0.c0; have A0c1 := A0.c1; have A0c2 := A0.c2; have A0c3 := A0.c3
  have hfn : ¬ f < 0 := by omega
  have hrn : ¬ (6 ≤ (l2.length : Int) + (l3.length : Int)) := by omega
  have s0 := o3.2.2 i hi
  obtain ⟨sg, HSG⟩ : ∃ sg, Hid (l3.getD i (0, 0) = sg) := ⟨_, rfl⟩
  rw [HSG.out] at s0
  have hil : (i : Int) < (l3.length : Int) := by omega
  have zA := A0.lt
  have zR := R0.lt
  go_wp2_with fail
  have K1 := own_pair w1 sg.1 sg.2
  have al : Below w1.heap.size w1 (w1.alloc (.cells #[.int .i64 sg.1, .int .i64 sg.2] 67)) := (Below.refl _ _).alloc (Nat.le_refl _) _
  replace A0 := A0.below al A0.lt; replace R0 := R0.below al R0.lt; replace L0 := L0.trans (al.mono L0.size)
  replace o0 := o0.below (al) o0.1; replace o1 := o1.below (al) o1.1; replace o2 := o2.below (al) o2.1; replace o3 := o3.below (al) o3.1
  clear al A0c0 A0c1 A0c2 A0c3 s0
  have zS : (w1.alloc (.cells #[.int .i64 sg.1, .int .i64 sg.2] 67)).heap.size = w1.heap.size + 1 := by simp
  generalize w1.alloc (.cells #[.int .i64 sg.1, .int .i64 sg.2] 67) = w2 at *
  generalize hS : w1.heap.size = S at *
  clear hS
  refine (l1own_any b0 b1 b2 b3 c0 c1 c2 c3 l0 l1 l2 l3 _ n0 n1 n2 n3 o0 o1 o2 o3).mono ?_
  rintro e u0 ⟨a0, a1, a2, a3, e0, e1, e2, e3, m1, m2, m3, m4, rfl, t0, t1, t2, t3, g1, g2, g3, g4, g5, hb⟩
  have hz := hb.size
  have zb3 := Nat.lt_of_lt_of_le o3.1 hz
  replace A0 := A0.below hb A0.lt; replace R0 := R0.below hb R0.lt; replace L0 := L0.trans (hb.mono L0.size); replace K1 := K1.below hb K1.1; replace o3 := o3.below hb o3.1
  clear hb o0 o1 o2 t3
  have X0 := Box.new u0 (.slice a0 l0.length e0) (.slice a1 l1.length e1) (.slice a2 l2.length e2) (.slice a3 l3.length e3) 28
  have al : Below u0.heap.size u0 (u0.alloc (.cells #[.slice a0 l0.length e0, .slice a1 l1.length e1, .slice a2 l2.length e2, .slice a3 l3.length e3] 28)) := (Below.refl _ _).alloc (Nat.le_refl _) _
  have zU : (u0.alloc (.cells #[.slice a0 l0.length e0, .slice a1 l1.length e1, .slice a2 l2.length e2, .slice a3 l3.length e3] 28)).heap.size = u0.heap.size + 1 := by simp
  replace t0 := t0.below al (by omega); replace t1 := t1.below al (by omega); replace t2 := t2.below al (by omega)
  replace A0 := A0.below al A0.lt; replace R0 := R0.below al R0.lt; replace L0 := L0.trans (al.mono L0.size); replace K1 := K1.below al K1.1; replace o3 := o3.below al o3.1
  clear al
  have T2 := t2.below ((Below.refl _ _).alloc (Nat.le_refl _) (.cells #[.int .i64 sg.1, .int .i64 f] 67)) (by omega)
  have xx := Box.new u0 (.slice a0 l0.length e0) (.slice a1 l1.length e1) (.slice a2 l2.length e2) (.slice a3 l3.length e3) 28
  have x0 := X0.c0; have x1 := X0.c1; have x2 := X0.c2; have x3 := X0.c3; have xf := X0.f2
  have y1 := (K1.2.2 0 (by omega)).1
  have y2 := (K1.2.2 0 (by omega)).2
  have zS2 : S < u0.heap.size := by omega
  go_wp2_with (first | (at_builtin; refine wpList_room rfl _ _ rfl m2 m3 a2 l2.length e2 l2 rfl (by exact T2) (u0.heap.size + 1) 1 1 [(sg.1, f)] rfl rfl (by rw [← zU]; exact own_pair _ _ _) (by omega) (by simp; omega) ?_))
  intro p2 q2 u5 r2 ho
  have al : Below (u0.alloc (.cells #[.slice a0 l0.length e0, .slice a1 l1.length e1, .slice a2 l2.length e2, .slice a3 l3.length e3] 28)).heap.size (u0.alloc (.cells #[.slice a0 l0.length e0, .slice a1 l1.length e1, .slice a2 l2.length e2, .slice a3 l3.length e3] 28)) ((u0.alloc (.cells #[.slice a0 l0.length e0, .slice a1 l1.length e1, .slice a2 l2.length e2, .slice a3 l3.length e3] 28)).alloc (.cells #[.int .i64 sg.1, .int .i64 f] 67)) := (Below.refl _ _).alloc (Nat.le_refl _) _
  have zV : ((u0.alloc (.cells #[.slice a0 l0.length e0, .slice a1 l1.length e1, .slice a2 l2.length e2, .slice a3 l3.length e3] 28)).alloc (.cells #[.int .i64 sg.1, .int .i64 f] 67)).heap.size = u0.heap.size + 2 := by simp
  replace X0 := X0.below al X0.lt; replace t0 := t0.below al (by omega); replace t1 := t1.below al (by omega)
  replace A0 := A0.below al A0.lt; replace R0 := R0.below al R0.lt; replace L0 := L0.trans (al.mono L0.size); replace K1 := K1.below al K1.1; replace o3 := o3.below al o3.1
  clear al x0 x1 x2 x3 xf y1 y2 T2 xx t2
  have hs5 := ho.size
  replace X0 := X0.out ho (.inr (by omega)); replace t0 := t0.out ho (.inl (by omega)); replace t1 := t1.out ho (.inl (by omega))
  replace A0 := A0.out ho (.inl (by omega)); replace R0 := R0.out ho (.inl (by omega)); replace L0 := L0.trans (ho.below (by omega) L0.size); replace K1 := K1.out ho (.inl (by omega)); replace o3 := o3.out ho (.inl (by omega))
  clear ho
  generalize hZ : u0.heap.size = Z at *
  clear hZ
  have x2 := X0.c2; have xf := X0.f2
  go_upto_region 7 with fail
  have ho := Out.set Z 2 u5 (.slice p2 (l2.length + 1) q2)
  replace X0 := X0.set2 (.slice p2 (l2.length + 1) q2)
  replace t0 := t0.out ho (.inl (by omega)); replace t1 := t1.out ho (.inl (by omega)); replace r2 := r2.out ho (.inl (by omega)) (by omega)
  replace A0 := A0.out ho (.inl (by omega)); replace R0 := R0.out ho (.inl (by omega)); replace L0 := L0.trans (ho.below (by omega) L0.size); replace K1 := K1.out ho (.inl (by omega)); replace o3 := o3.out ho (.inl (by omega))
  have hsz : (u5.setCell ⟨Z, 2, none⟩ (.slice p2 (l2.length + 1) q2)).heap.size = u5.heap.size := by simp
  clear ho x2 xf
  generalize u5.setCell ⟨Z, 2, none⟩ (.slice p2 (l2.length + 1) q2) = wR at *
  rw [← hsz] at hs5
  clear hsz
  have zz : Z < wR.heap.size ∧ w.heap.size < wR.heap.size ∧ S < wR.heap.size := by omega
  have zn : w.heap.size ≠ Z ∧ S ≠ Z := by omega
  have zb3' : b3 < Z := by omega
  have ky := (K1.2.2 0 (by omega)).2
  have hS1 : UJ wR Z w.heap.size S (.slice a0 l0.length e0) (.slice a1 l1.length e1) (.slice p2 (l2.length + 1) q2) (.slice (some ⟨b3, 0, none⟩) l3.length c3) (.int .i64 sg.2) wR := ⟨Out.refl _ _ _, ⟨_, X0⟩, A0.c3, ky⟩
  have hS0 := uj_ad zz hS1
  go_cut [] (fun wz => ∃ p3 q3, Box wz Z (.slice a0 l0.length e0) (.slice a1 l1.length e1) (.slice p2 (l2.length + 1) q2) (.slice p3 (i + (l3.length - (i + 1)) + 1) q3) ∧ RowIn wz wR.heap.size wz.heap.size p3 (i + (l3.length - (i + 1)) + 1) (l3.take i ++ l3.drop (i + 1) ++ [(f, sg.2)]) ∧ Out Z (Z + 1) wR wz)
  case first =>
    go_region_held3 (fun W => Out Z (Z + 1) wR W ∧ (∃ x, Box W Z (.slice a0 l0.length e0) (.slice a1 l1.length e1) (.slice p2 (l2.length + 1) q2) x) ∧ W.cell? ⟨w.heap.size, 3, none⟩ = some (.slice (some ⟨b3, 0, none⟩) l3.length c3) ∧ W.cell? ⟨S, 1, none⟩ = some (.int .i64 sg.2))
      (first | exact hS0 | exact hS1 | assumption | (refine uj_ad zz ?_; assumption) | (refine uj_al zz _ ?_; (first | exact hS0 | exact hS1 | assumption)) | exact uj_ad zz (uj_al zz _ hS1) | (refine uj_store zn _ ?_; assumption) | (refine ⟨?_, ?_, ?_, ?_⟩ <;> assumption))
      (first
        | (go_at_call 162; refine (l4without_any b3 c3 l3 i _ hi n3 z3 (uj_own o3 zb3' (by assumption))).mono ?_; rintro e u6 ⟨x6, y6, rfl, d6, h6⟩; have kk := uj_room zz (by assumption) h6 d6; have k1 := kk.1; have d6' := kk.2.1; have g6 := kk.2.2)
        | (refine step_roomR (by rfl) _ _ (by rfl) wR.heap.size u6.heap.size x6 (i + (l3.length - (i + 1))) y6 (l3.take i ++ l3.drop (i + 1)) (by rfl) (d6'.below ((Below.refl _ _).alloc (Nat.le_refl _) _) (Nat.le_refl _)) ⟨u6.heap.size, 0, none⟩ 1 1 [(f, sg.2)] (by rfl) rfl (own_pair u6 f sg.2).row (by omega) (Nat.le_trans g6 (by simp)) (by simp) ?_; rintro x7 y7 u7 d7 h7; have k2 := uj_out (uj_al zz _ k1) h7 (Nat.le_refl _) zz.1 zz.2.1 zz.2.2; obtain ⟨xo, bx⟩ := k2.2.1; have c3' := bx.c3; have f3' := bx.f3)
        | (refine step_roomR (by rfl) _ _ (by rfl) wR.heap.size u6.heap.size x6 (i + (l3.length - (i + 1))) y6 (l3.take i ++ l3.drop (i + 1)) (by rfl) d6' ⟨wR.heap.size, 0, none⟩ 1 1 [(f, sg.2)] (by rfl) rfl (pair_be h6).row (by omega) g6 (Nat.le_refl _) ?_; rintro x7 y7 u7 d7 h7; have k2 := uj_out k1 h7 (Nat.le_refl _) zz.1 zz.2.1 zz.2.2; obtain ⟨xo, bx⟩ := k2.2.1; have c3' := bx.c3; have f3' := bx.f3))
    all_goals
      have bz := bx.set3 (.slice x7 (i + (l3.length - (i + 1)) + 1) y7)
      have ho7 := k2.1.trans (Out.set Z 3 u7 (.slice x7 (i + (l3.length - (i + 1)) + 1) y7))
      have d7' := d7.row.out (Out.set Z 3 u7 (.slice x7 (i + (l3.length - (i + 1)) + 1) y7)) (.inr (by omega))
      go_wp2_with fail
      go_meet
      exact ⟨x7, y7, bz, by simpa using d7', ho7⟩
  case rest =>
    obtain ⟨p3, q3, X7, r3, hO⟩ := hcut
    rename World => w7
    clear hS0 hS1 ky A0 K1 o3
    have s7 := hO.size
    replace t0 := t0.out hO (.inl (by omega)); replace t1 := t1.out hO (.inl (by omega)); replace r2 := r2.out hO (.inl (by omega)) (by omega)
    replace R0 := R0.out hO (.inl (by omega)); replace L0 := L0.trans (hO.below (by omega) L0.size)
    clear hO
    obtain ⟨F, FO⟩ := R0.fill (.slice a0 l0.length e0) (.slice a1 l1.length e1) (.slice p2 (l2.length + 1) q2) (.slice p3 (i + (l3.length - (i + 1)) + 1) q3)
    have x0 := X7.c0; have x1 := X7.c1; have x2 := X7.c2; have x3 := X7.c3
    have j0' := R0.c0; have j1' := R0.c1; have j2' := R0.c2; have j3' := R0.c3
    have g0 := R0.f0; have g1 := R0.f1; have g2 := R0.f2; have g3 := R0.f3
    go_wp2
    have i0 := F.c0; have i1 := F.c1; have i2 := F.c2; have i3 := F.c3
    refine bodyPost_ret (v := .tuple #[.agg #[.slice a0 l0.length e0, .slice a1 l1.length e1, .slice p2 (l2.length + 1) q2, .slice p3 (i + (l3.length - (i + 1)) + 1) q3], .bool true]) ?_ rfl ⟨a0, a1, p2, p3, e0, e1, q2, q3, rfl, ?_, ⟨t0.ne, t1.ne, r2.ne (by omega), r3.ne (by omega)⟩, ?_⟩
    · simp [results, Try.results159, go_sem, i0, i1, i2, i3]
    · have hfs := FO.size
      rw [HSG.out]
      exact ⟨(t0.row.out FO (.inr (by omega))).mono (by omega) (by omega), (t1.row.out FO (.inr (by omega))).mono (by omega) (by omega), ((r2.row (B := w.heap.size + 2) (by omega) (by omega)).out FO (.inr (by omega))).mono (by omega) (by omega), (r3.out FO (.inr (by omega))).mono (by omega) (by omega)⟩
    · exact L0.trans (FO.below (by omega) L0.size)

theorem l4unfold_yes (b0 b1 b2 b3 c0 c1 c2 c3 : Nat) (l0 l1 l2 l3 : List (Int × Int)) (i : Nat) (w : World) (n0 : l0.length ≤ 1048576) (n1 : l1.length ≤ 1048576) (n2 : l2.length ≤ 1048576) (n3 : l3.length ≤ 1048576) (o0 : Own w b0 l0.length l0 l0.length) (o1 : Own w b1 l1.length l1 l1.length) (o2 : Own w b2 l2.length l2 l2.length) (o3 : Own w b3 l3.length l3 l3.length) (z3 : l3.length ≤ c3) (ht : asnB l0 l1 l2 l3 = true) (hi : i < l3.length) (hf : 0 ≤ freshF (usedV l0 l1 l2 l3)) (hr : l2.length + l3.length < 6) :
    Calls Try.prog 159 #[.agg #[.slice (some ⟨b0, 0, none⟩) l0.length c0, .slice (some ⟨b1, 0, none⟩) l1.length c1, .slice (some ⟨b2, 0, none⟩) l2.length c2, .slice (some ⟨b3, 0, none⟩) l3.length c3], .int .i64 i] w fun e w' => ∃ p0 p1 p2 p3 q0 q1 q2 q3, e = .returned (.tuple #[.agg #[.slice p0 l0.length q0, .slice p1 l1.length q1, .slice p2 (l2.length + 1) q2, .slice p3 (i + (l3.length - (i + 1)) + 1) q3], .bool true]) ∧ Seen w' w.heap.size w'.heap.size p0 p1 p2 p3 l0.length l1.length (l2.length + 1) (i + (l3.length - (i + 1)) + 1) l0 l1 (unfC l2 (l3.getD i (0, 0)) (freshF (usedV l0 l1 l2 l3))) (unfS l3 i (l3.getD i (0, 0)) (freshF (usedV l0 l1 l2 l3))) ∧ Below w.heap.size w w' :=
  (l4unfold_ne b0 b1 b2 b3 c0 c1 c2 c3 l0 l1 l2 l3 i w n0 n1 n2 n3 o0 o1 o2 o3 z3 ht hi hf hr).mono fun e w' h => by
    obtain ⟨p0, p1, p2, p3, q0, q1, q2, q3, h1, h2, _, h3⟩ := h
    exact ⟨p0, p1, p2, p3, q0, q1, q2, q3, h1, h2, h3⟩

set_option maxRecDepth 20000 in
set_option maxHeartbeats 2000000 in
theorem l4unfold_no (b0 b1 b2 b3 c0 c1 c2 c3 : Nat) (l0 l1 l2 l3 : List (Int × Int)) (i : Nat) (w : World) (n0 : l0.length ≤ 1048576) (n1 : l1.length ≤ 1048576) (n2 : l2.length ≤ 1048576) (n3 : l3.length ≤ 1048576) (o0 : Own w b0 l0.length l0 l0.length) (o1 : Own w b1 l1.length l1 l1.length) (o2 : Own w b2 l2.length l2 l2.length) (o3 : Own w b3 l3.length l3 l3.length) (ht : asnB l0 l1 l2 l3 = true) (hno : freshF (usedV l0 l1 l2 l3) < 0 ∨ 6 ≤ l2.length + l3.length) :
    Calls Try.prog 159 #[.agg #[.slice (some ⟨b0, 0, none⟩) l0.length c0, .slice (some ⟨b1, 0, none⟩) l1.length c1, .slice (some ⟨b2, 0, none⟩) l2.length c2, .slice (some ⟨b3, 0, none⟩) l3.length c3], .int .i64 i] w fun e w' => e = .returned (.tuple #[.agg #[.slice (some ⟨b0, 0, none⟩) l0.length c0, .slice (some ⟨b1, 0, none⟩) l1.length c1, .slice (some ⟨b2, 0, none⟩) l2.length c2, .slice (some ⟨b3, 0, none⟩) l3.length c3], .bool false]) ∧ Below w.heap.size w w' := by
  obtain ⟨f, hff⟩ : ∃ f, Hid (freshF (usedV l0 l1 l2 l3) = f) := ⟨_, rfl⟩
  rw [hff.out] at hno
  have A0 := (Box.new w (.slice (some ⟨b0, 0, none⟩) l0.length c0) (.slice (some ⟨b1, 0, none⟩) l1.length c1) (.slice (some ⟨b2, 0, none⟩) l2.length c2) (.slice (some ⟨b3, 0, none⟩) l3.length c3) 28).alloc (.cells #[.slice none 0 0, .slice none 0 0, .slice none 0 0, .slice none 0 0] 28)
  have R0 := Box.new (w.alloc (.cells #[.slice (some ⟨b0, 0, none⟩) l0.length c0, .slice (some ⟨b1, 0, none⟩) l1.length c1, .slice (some ⟨b2, 0, none⟩) l2.length c2, .slice (some ⟨b3, 0, none⟩) l3.length c3] 28)) (.slice none 0 0) (.slice none 0 0) (.slice none 0 0) (.slice none 0 0) 28
  have L0 : Below w.heap.size w ((w.alloc (.cells #[.slice (some ⟨b0, 0, none⟩) l0.length c0, .slice (some ⟨b1, 0, none⟩) l1.length c1, .slice (some ⟨b2, 0, none⟩) l2.length c2, .slice (some ⟨b3, 0, none⟩) l3.length c3] 28)).alloc (.cells #[.slice none 0 0, .slice none 0 0, .slice none 0 0, .slice none 0 0] 28)) := ((Below.refl _ _).alloc (Nat.le_refl _) _).alloc (by simp) _
  rw [World.size_alloc] at R0
  go_enter Try.func159, Try.ntmps159
  go_wp2_with fail
  refine (l1fresh_any _ _ _ _ _ _ _ _ l0 l1 l2 l3 _ n0 n1 n2 n3 (o0.row.below L0 (Nat.le_refl _)) (o1.row.below L0 (Nat.le_refl _)) (o2.row.below L0 (Nat.le_refl _)) (o3.row.below L0 (Nat.le_refl _)) ht).mono ?_
  rintro e w1 ⟨rfl, hb⟩
  rw [hff.out]
  replace A0 := A0.below hb A0.lt; replace R0 := R0.below hb R0.lt; replace L0 := L0.trans (hb.mono L0.size)
  clear hb ht o0 o1 o2 o3
  have A0c0 := A0.c0; have A0c1 := A0.c1; have A0c2 := A0.c2; have A0c3 := A0.c3
  obtain ⟨F, FO⟩ := R0.fill (.slice (some ⟨b0, 0, none⟩) l0.length c0) (.slice (some ⟨b1, 0, none⟩) l1.length c1) (.slice (some ⟨b2, 0, none⟩) l2.length c2) (.slice (some ⟨b3, 0, none⟩) l3.length c3)
  have j0' := R0.c0; have j1' := R0.c1; have j2' := R0.c2; have j3' := R0.c3
  have g0 := R0.f0; have g1 := R0.f1; have g2 := R0.f2; have g3 := R0.f3
  have i0 := F.c0; have i1 := F.c1; have i2 := F.c2; have i3 := F.c3
  by_cases hf : f < 0
  · go_wp2
    refine bodyPost_ret (v := .tuple #[.agg #[.slice (some ⟨b0, 0, none⟩) l0.length c0, .slice (some ⟨b1, 0, none⟩) l1.length c1, .slice (some ⟨b2, 0, none⟩) l2.length c2, .slice (some ⟨b3, 0, none⟩) l3.length c3], .bool false]) ?_ rfl ⟨rfl, L0.trans (FO.below (by omega) L0.size)⟩
    simp [results, Try.results159, go_sem, i0, i1, i2, i3]
  · have hr : 6 ≤ (l2.length : Int) + (l3.length : Int) := by omega
    go_wp2
    refine bodyPost_ret (v := .tuple #[.agg #[.slice (some ⟨b0, 0, none⟩) l0.length c0, .slice (some ⟨b1, 0, none⟩) l1.length c1, .slice (some ⟨b2, 0, none⟩) l2.length c2, .slice (some ⟨b3, 0, none⟩) l3.length c3], .bool false]) ?_ rfl ⟨rfl, L0.trans (FO.below (by omega) L0.size)⟩
    simp [results, Try.results159, go_sem, i0, i1, i2, i3]

end Go.Proofs.Ytldhbooginlcpaa
