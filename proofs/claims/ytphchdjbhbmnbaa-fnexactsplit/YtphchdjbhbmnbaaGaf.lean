/-
  Plain lemmas and contracts of functions for the other texts of this seat: Owo, Rq, Ints, Cp, Ar, Jn.
-/
import Derived.Test.YtphchdjbhbmnbaaGae
import Derived.Deep.AppendSrc
import Derived.Test.YtphchdjbhbmnbaaGaa
import Derived.Test.YtphchdjbhbmnbaaGab
import Derived.Test.YtphchdjbhbmnbaaGac
import Derived.Deep.RegionWith
import Derived.Outline
import Derived.WalkLawsBesides
import Derived.Deep.MidRow
import Derived.Deep.RegionHeld3
namespace Go.Proofs.Ytphchdjbhbmnbaa
open Go.RowKit
set_option linter.unusedVariables false

theorem run_append_nothing (w : World) (t e : TypeId) (h1 : Try.prog.underlying t = some (.slice e)) (i : TypeInfo) (h2 : Try.prog.info? e = some i) (ty : TypeId) (Z : Nat) (c : Nat) :
    (Builtin.append_ #[t, t] ty #[.slice (some ⟨Z, 0, none⟩) 0 0, .slice none 0 c]).run Try.prog w = .ok (.slice (some ⟨Z, 0, none⟩) 0 0) w := by
  have h := run_append_room_src (P := Try.prog) w t t ty e i h1 h2 Z 0 0 0 (.slice none 0 c) 0 [] (Src.ofNil (P := Try.prog) w h1 c) (Nat.le_refl _) (by intro j h; cases h) (by intro j h; cases h)
  simpa [World.setCells] using h

theorem step_freshO {ops : Array Oper} {o : Oper} {a : Act} {w : World} {K : Act → World → Prop} {Q : Exit → Act → World → Prop} {E : Prop}
    (hg : o.guard = none) (s x : Operand) (hop : o.op = Op.call { callee := Callee.builtin Builtin.append, args := #[s, x], argTypes := #[26, 26] })
    (Z : Nat) (p : Option Addr) (m c : Nat) (l : List (Int × Int)) (hs : a.eval s = .slice (some ⟨Z, 0, none⟩) 0 0) (hx : a.eval x = .slice p m c) (hl : l.length = m) (ho : PRow w p l) (hm : m ≤ 1048576)
    (hK : ∀ a' c' w', RoomIn w' w.heap.size w'.heap.size a' m c' l → Below w.heap.size w w' → K (a.put o.dst (.slice a' m c')) w') :
    if Region.wanted o (yielded ops a.tmps) = true then Oper.wp Try.prog o a w K Q else E := by
  cases p with
  | some p => exact step_freshP hg s x hop Z p m c l hs hx hl ho hm hK
  | none =>
    have el := PRow.empty ho
    subst el
    subst hl
    obtain ⟨i0, hi, hz0, hz1, hz2⟩ := Try.i57
    have hw : Region.wanted o (yielded ops a.tmps) = true := by simp [Region.wanted, hg]
    rw [if_pos hw]
    have hrun := run_append_nothing w 26 69 Try.underlying26 i0 hi o.type Z c
    have hk := hK (some ⟨Z, 0, none⟩) 0 w ⟨rfl, .inl ⟨rfl, rfl, _, rfl⟩⟩ (Below.refl _ _)
    unfold Oper.wp
    simp [execOp, hop, resolve, invoke, builtin, hs, hx, hrun, Result.andThen]
    exact hk

set_option maxRecDepth 20000 in
set_option maxHeartbeats 4000000 in
theorem owno_nd4_n {b0 b1 b2 b3 : Option Addr} {c0 c1 c2 c3 : Nat} {l0 l1 l2 l3 : List (Int × Int)} {w : World} {Q : Exit → Act → World → Prop} (n0 : l0.length ≤ 1048576) (n1 : l1.length ≤ 1048576) (n2 : l2.length ≤ 1048576) (n3 : l3.length ≤ 1048576) (o0 : PRow w b0 l0) (o1 : PRow w b1 l1) (o2 : PRow w b2 l2) (o3 : PRow w b3 l3)
    (hQ : ∀ (W : World) (hS : ownS w (.slice b0 l0.length c0) (.slice b1 l1.length c1) (.slice b2 l2.length c2) (.slice b3 l3.length c3) W) (z0 z1 z2 z3 : Nat) (a0 : Option Addr) (e0 m1 : Nat) (t0 : RoomIn W (w.heap.size + 2) m1 a0 l0.length e0 l0) (g1 : m1 ≤ W.heap.size) (k1 : (w.heap.size + 2) ≤ m1) (a1 : Option Addr) (e1 m2 : Nat) (t1 : RoomIn W m1 m2 a1 l1.length e1 l1) (g2 : m2 ≤ W.heap.size) (k2 : m1 ≤ m2) (a2 : Option Addr) (e2 m3 : Nat) (t2 : RoomIn W m2 m3 a2 l2.length e2 l2) (g3 : m3 ≤ W.heap.size) (k3 : m2 ≤ m3) (a3 : Option Addr) (e3 m4 : Nat) (t3 : RoomIn W m3 m4 a3 l3.length e3 l3) (g4 : m4 ≤ W.heap.size) (k4 : m3 ≤ m4), Q .normal { tmps := #[.agg #[.slice b0 l0.length c0, .slice b1 l1.length c1, .slice b2 l2.length c2, .slice b3 l3.length c3], .pointer (some ⟨w.heap.size, 0, none⟩), .pointer (some ⟨w.heap.size + 1, 0, none⟩), .slice (some ⟨z0, 0, none⟩) 0 0, .pointer (some ⟨w.heap.size, 0, none⟩), .slice b0 l0.length c0, .slice a0 l0.length e0, .slice (some ⟨z1, 0, none⟩) 0 0, .pointer (some ⟨w.heap.size, 1, none⟩), .slice b1 l1.length c1, .slice a1 l1.length e1, .slice (some ⟨z2, 0, none⟩) 0 0, .pointer (some ⟨w.heap.size, 2, none⟩), .slice b2 l2.length c2, .slice a2 l2.length e2, .slice (some ⟨z3, 0, none⟩) 0 0, .pointer (some ⟨w.heap.size, 3, none⟩), .slice b3 l3.length c3, .slice a3 l3.length e3, .agg #[.slice a0 l0.length e0, .slice a1 l1.length e1, .slice a2 l2.length e2, .slice a3 l3.length e3]], defers := [] } ((((W.setCell ⟨w.heap.size + 1, 0, none⟩ (.slice a0 l0.length e0)).setCell ⟨w.heap.size + 1, 1, none⟩ (.slice a1 l1.length e1)).setCell ⟨w.heap.size + 1, 2, none⟩ (.slice a2 l2.length e2)).setCell ⟨w.heap.size + 1, 3, none⟩ (.slice a3 l3.length e3)))
    (W : World) (hS : ownS w (.slice b0 l0.length c0) (.slice b1 l1.length c1) (.slice b2 l2.length c2) (.slice b3 l3.length c3) W) (z0 z1 z2 z3 : Nat) (a0 : Option Addr) (e0 m1 : Nat) (t0 : RoomIn W (w.heap.size + 2) m1 a0 l0.length e0 l0) (g1 : m1 ≤ W.heap.size) (k1 : (w.heap.size + 2) ≤ m1) (a1 : Option Addr) (e1 m2 : Nat) (t1 : RoomIn W m1 m2 a1 l1.length e1 l1) (g2 : m2 ≤ W.heap.size) (k2 : m1 ≤ m2) (a2 : Option Addr) (e2 m3 : Nat) (t2 : RoomIn W m2 m3 a2 l2.length e2 l2) (g3 : m3 ≤ W.heap.size) (k3 : m2 ≤ m3) (a3 : Option Addr) (e3 m4 : Nat) (t3 : RoomIn W m3 m4 a3 l3.length e3 l3) (g4 : m4 ≤ W.heap.size) (k4 : m3 ≤ m4) :
    wpAnyH Try.prog .any ownOps Q (ownS w (.slice b0 l0.length c0) (.slice b1 l1.length c1) (.slice b2 l2.length c2) (.slice b3 l3.length c3)) 2 #[true, true, true, true, true, true, true, true, true, true, true, true, true, true, true, true, false, false] { tmps := #[.agg #[.slice b0 l0.length c0, .slice b1 l1.length c1, .slice b2 l2.length c2, .slice b3 l3.length c3], .pointer (some ⟨w.heap.size, 0, none⟩), .pointer (some ⟨w.heap.size + 1, 0, none⟩), .slice (some ⟨z0, 0, none⟩) 0 0, .pointer (some ⟨w.heap.size, 0, none⟩), .slice b0 l0.length c0, .slice a0 l0.length e0, .slice (some ⟨z1, 0, none⟩) 0 0, .pointer (some ⟨w.heap.size, 1, none⟩), .slice b1 l1.length c1, .slice a1 l1.length e1, .slice (some ⟨z2, 0, none⟩) 0 0, .pointer (some ⟨w.heap.size, 2, none⟩), .slice b2 l2.length c2, .slice a2 l2.length e2, .slice (some ⟨z3, 0, none⟩) 0 0, .pointer (some ⟨w.heap.size, 3, none⟩), .slice b3 l3.length c3, .slice a3 l3.length e3, undef], defers := [] } W := by
  refine wpAnyH_ready (rs := [16]) (by kernel_rfl) (by simp) ?_
  refine AllReadyH.cons (o := { dst := some 19, op := Op.build 28 #[(0, Operand.tmp 6), (1, Operand.tmp 10), (2, Operand.tmp 14), (3, Operand.tmp 18)], type := 28, pos := "l01_asn.go:137", after := #[{ on := 3, ground := Ground.data }, { on := 7, ground := Ground.data }, { on := 11, ground := Ground.data }, { on := 15, ground := Ground.data }], guard := none }) rfl (fun K hK => ?_) AllReadyH.nil
  go_simp
  refine hK.out _ _ hS (fun _ => ?_)
  show wpAnyH Try.prog .any ownOps Q (ownS w (.slice b0 l0.length c0) (.slice b1 l1.length c1) (.slice b2 l2.length c2) (.slice b3 l3.length c3)) 1 #[true, true, true, true, true, true, true, true, true, true, true, true, true, true, true, true, true, false] { tmps := #[.agg #[.slice b0 l0.length c0, .slice b1 l1.length c1, .slice b2 l2.length c2, .slice b3 l3.length c3], .pointer (some ⟨w.heap.size, 0, none⟩), .pointer (some ⟨w.heap.size + 1, 0, none⟩), .slice (some ⟨z0, 0, none⟩) 0 0, .pointer (some ⟨w.heap.size, 0, none⟩), .slice b0 l0.length c0, .slice a0 l0.length e0, .slice (some ⟨z1, 0, none⟩) 0 0, .pointer (some ⟨w.heap.size, 1, none⟩), .slice b1 l1.length c1, .slice a1 l1.length e1, .slice (some ⟨z2, 0, none⟩) 0 0, .pointer (some ⟨w.heap.size, 2, none⟩), .slice b2 l2.length c2, .slice a2 l2.length e2, .slice (some ⟨z3, 0, none⟩) 0 0, .pointer (some ⟨w.heap.size, 3, none⟩), .slice b3 l3.length c3, .slice a3 l3.length e3, .agg #[.slice a0 l0.length e0, .slice a1 l1.length e1, .slice a2 l2.length e2, .slice a3 l3.length e3]], defers := [] } W
  refine wpAnyH_ready (rs := [17]) (by kernel_rfl) (by simp) ?_
  refine AllReadyH.cons (o := { dst := none, op := Op.store 28 (Operand.tmp 2) (Operand.tmp 19), type := 0, pos := "l01_asn.go:137", after := #[{ on := 16, ground := Ground.data }, { on := 15, ground := Ground.chain }, { on := 0, ground := Ground.phase }, { on := 1, ground := Ground.phase }, { on := 2, ground := Ground.phase }, { on := 3, ground := Ground.phase }, { on := 4, ground := Ground.phase }, { on := 5, ground := Ground.phase }, { on := 6, ground := Ground.phase }, { on := 7, ground := Ground.phase }, { on := 8, ground := Ground.phase }, { on := 9, ground := Ground.phase }, { on := 10, ground := Ground.phase }, { on := 11, ground := Ground.phase }, { on := 12, ground := Ground.phase }, { on := 13, ground := Ground.phase }, { on := 14, ground := Ground.phase }, { on := 15, ground := Ground.phase }, { on := 16, ground := Ground.phase }], guard := none }) rfl (fun K hK => ?_) AllReadyH.nil
  obtain ⟨x0, hx0⟩ := (hS.2.1.2.1 0 (by omega)).1; obtain ⟨x1, hx1⟩ := (hS.2.1.2.1 1 (by omega)).1; obtain ⟨x2, hx2⟩ := (hS.2.1.2.1 2 (by omega)).1; obtain ⟨x3, hx3⟩ := (hS.2.1.2.1 3 (by omega)).1
  have f0 := (hS.2.1.2.1 0 (by omega)).2; have f1 := (hS.2.1.2.1 1 (by omega)).2; have f2 := (hS.2.1.2.1 2 (by omega)).2; have f3 := (hS.2.1.2.1 3 (by omega)).2
  go_simp
  refine hK.out _ _ (ownS_store _ _ _ _ hS) (fun _ => ?_)
  refine wpAnyH_done (by kernel_rfl) ?_ _
  exact hQ W hS z0 z1 z2 z3 a0 e0 m1 t0 g1 k1 a1 e1 m2 t1 g2 k2 a2 e2 m3 t2 g3 k3 a3 e3 m4 t3 g4 k4

set_option maxRecDepth 20000 in
set_option maxHeartbeats 4000000 in
theorem owno_nd3_3 {b0 b1 b2 b3 : Option Addr} {c0 c1 c2 c3 : Nat} {l0 l1 l2 l3 : List (Int × Int)} {w : World} {Q : Exit → Act → World → Prop} (n0 : l0.length ≤ 1048576) (n1 : l1.length ≤ 1048576) (n2 : l2.length ≤ 1048576) (n3 : l3.length ≤ 1048576) (o0 : PRow w b0 l0) (o1 : PRow w b1 l1) (o2 : PRow w b2 l2) (o3 : PRow w b3 l3)
    (hQ : ∀ (W : World) (hS : ownS w (.slice b0 l0.length c0) (.slice b1 l1.length c1) (.slice b2 l2.length c2) (.slice b3 l3.length c3) W) (z0 z1 z2 z3 : Nat) (a0 : Option Addr) (e0 m1 : Nat) (t0 : RoomIn W (w.heap.size + 2) m1 a0 l0.length e0 l0) (g1 : m1 ≤ W.heap.size) (k1 : (w.heap.size + 2) ≤ m1) (a1 : Option Addr) (e1 m2 : Nat) (t1 : RoomIn W m1 m2 a1 l1.length e1 l1) (g2 : m2 ≤ W.heap.size) (k2 : m1 ≤ m2) (a2 : Option Addr) (e2 m3 : Nat) (t2 : RoomIn W m2 m3 a2 l2.length e2 l2) (g3 : m3 ≤ W.heap.size) (k3 : m2 ≤ m3) (a3 : Option Addr) (e3 m4 : Nat) (t3 : RoomIn W m3 m4 a3 l3.length e3 l3) (g4 : m4 ≤ W.heap.size) (k4 : m3 ≤ m4), Q .normal { tmps := #[.agg #[.slice b0 l0.length c0, .slice b1 l1.length c1, .slice b2 l2.length c2, .slice b3 l3.length c3], .pointer (some ⟨w.heap.size, 0, none⟩), .pointer (some ⟨w.heap.size + 1, 0, none⟩), .slice (some ⟨z0, 0, none⟩) 0 0, .pointer (some ⟨w.heap.size, 0, none⟩), .slice b0 l0.length c0, .slice a0 l0.length e0, .slice (some ⟨z1, 0, none⟩) 0 0, .pointer (some ⟨w.heap.size, 1, none⟩), .slice b1 l1.length c1, .slice a1 l1.length e1, .slice (some ⟨z2, 0, none⟩) 0 0, .pointer (some ⟨w.heap.size, 2, none⟩), .slice b2 l2.length c2, .slice a2 l2.length e2, .slice (some ⟨z3, 0, none⟩) 0 0, .pointer (some ⟨w.heap.size, 3, none⟩), .slice b3 l3.length c3, .slice a3 l3.length e3, .agg #[.slice a0 l0.length e0, .slice a1 l1.length e1, .slice a2 l2.length e2, .slice a3 l3.length e3]], defers := [] } ((((W.setCell ⟨w.heap.size + 1, 0, none⟩ (.slice a0 l0.length e0)).setCell ⟨w.heap.size + 1, 1, none⟩ (.slice a1 l1.length e1)).setCell ⟨w.heap.size + 1, 2, none⟩ (.slice a2 l2.length e2)).setCell ⟨w.heap.size + 1, 3, none⟩ (.slice a3 l3.length e3)))
    (W : World) (hS : ownS w (.slice b0 l0.length c0) (.slice b1 l1.length c1) (.slice b2 l2.length c2) (.slice b3 l3.length c3) W) (z0 z1 z2 z3 : Nat) (a0 : Option Addr) (e0 m1 : Nat) (t0 : RoomIn W (w.heap.size + 2) m1 a0 l0.length e0 l0) (g1 : m1 ≤ W.heap.size) (k1 : (w.heap.size + 2) ≤ m1) (a1 : Option Addr) (e1 m2 : Nat) (t1 : RoomIn W m1 m2 a1 l1.length e1 l1) (g2 : m2 ≤ W.heap.size) (k2 : m1 ≤ m2) (a2 : Option Addr) (e2 m3 : Nat) (t2 : RoomIn W m2 m3 a2 l2.length e2 l2) (g3 : m3 ≤ W.heap.size) (k3 : m2 ≤ m3) :
    wpAnyH Try.prog .any ownOps Q (ownS w (.slice b0 l0.length c0) (.slice b1 l1.length c1) (.slice b2 l2.length c2) (.slice b3 l3.length c3)) 3 #[true, true, true, true, true, true, true, true, true, true, true, true, true, true, true, false, false, false] { tmps := #[.agg #[.slice b0 l0.length c0, .slice b1 l1.length c1, .slice b2 l2.length c2, .slice b3 l3.length c3], .pointer (some ⟨w.heap.size, 0, none⟩), .pointer (some ⟨w.heap.size + 1, 0, none⟩), .slice (some ⟨z0, 0, none⟩) 0 0, .pointer (some ⟨w.heap.size, 0, none⟩), .slice b0 l0.length c0, .slice a0 l0.length e0, .slice (some ⟨z1, 0, none⟩) 0 0, .pointer (some ⟨w.heap.size, 1, none⟩), .slice b1 l1.length c1, .slice a1 l1.length e1, .slice (some ⟨z2, 0, none⟩) 0 0, .pointer (some ⟨w.heap.size, 2, none⟩), .slice b2 l2.length c2, .slice a2 l2.length e2, .slice (some ⟨z3, 0, none⟩) 0 0, .pointer (some ⟨w.heap.size, 3, none⟩), .slice b3 l3.length c3, undef, undef], defers := [] } W := by
  refine wpAnyH_ready (rs := [15]) (by kernel_rfl) (by simp) ?_
  refine AllReadyH.cons (o := ownOp15) rfl (fun K hK => ?_) ?_
  · refine step_freshO (by rfl) (Operand.tmp 15) (Operand.tmp 17) (by rfl) z3 b3 l3.length c3 l3 (by rfl) (by rfl) rfl (o3.below hS.1 (Nat.le_refl _)) n3 ?_
    intro a3 e3 W' hr hb
    have hS' := ownS_keep hS hb
    refine hK.out _ _ hS' (fun _ => ?_)
    exact owno_nd4_n n0 n1 n2 n3 o0 o1 o2 o3 hQ W' hS' z0 z1 z2 z3 a0 e0 m1 (t0.below hb g1) (Nat.le_trans g1 hb.size) k1 a1 e1 m2 (t1.below hb g2) (Nat.le_trans g2 hb.size) k2 a2 e2 m3 (t2.below hb g3) (Nat.le_trans g3 hb.size) k3 a3 e3 W'.heap.size (hr.mono g3 (Nat.le_refl _)) (Nat.le_refl _) (Nat.le_trans g3 hb.size)
  exact AllReadyH.nil

set_option maxRecDepth 20000 in
set_option maxHeartbeats 4000000 in
theorem owno_nd3_n {b0 b1 b2 b3 : Option Addr} {c0 c1 c2 c3 : Nat} {l0 l1 l2 l3 : List (Int × Int)} {w : World} {Q : Exit → Act → World → Prop} (n0 : l0.length ≤ 1048576) (n1 : l1.length ≤ 1048576) (n2 : l2.length ≤ 1048576) (n3 : l3.length ≤ 1048576) (o0 : PRow w b0 l0) (o1 : PRow w b1 l1) (o2 : PRow w b2 l2) (o3 : PRow w b3 l3)
    (hQ : ∀ (W : World) (hS : ownS w (.slice b0 l0.length c0) (.slice b1 l1.length c1) (.slice b2 l2.length c2) (.slice b3 l3.length c3) W) (z0 z1 z2 z3 : Nat) (a0 : Option Addr) (e0 m1 : Nat) (t0 : RoomIn W (w.heap.size + 2) m1 a0 l0.length e0 l0) (g1 : m1 ≤ W.heap.size) (k1 : (w.heap.size + 2) ≤ m1) (a1 : Option Addr) (e1 m2 : Nat) (t1 : RoomIn W m1 m2 a1 l1.length e1 l1) (g2 : m2 ≤ W.heap.size) (k2 : m1 ≤ m2) (a2 : Option Addr) (e2 m3 : Nat) (t2 : RoomIn W m2 m3 a2 l2.length e2 l2) (g3 : m3 ≤ W.heap.size) (k3 : m2 ≤ m3) (a3 : Option Addr) (e3 m4 : Nat) (t3 : RoomIn W m3 m4 a3 l3.length e3 l3) (g4 : m4 ≤ W.heap.size) (k4 : m3 ≤ m4), Q .normal { tmps := #[.agg #[.slice b0 l0.length c0, .slice b1 l1.length c1, .slice b2 l2.length c2, .slice b3 l3.length c3], .pointer (some ⟨w.heap.size, 0, none⟩), .pointer (some ⟨w.heap.size + 1, 0, none⟩), .slice (some ⟨z0, 0, none⟩) 0 0, .pointer (some ⟨w.heap.size, 0, none⟩), .slice b0 l0.length c0, .slice a0 l0.length e0, .slice (some ⟨z1, 0, none⟩) 0 0, .pointer (some ⟨w.heap.size, 1, none⟩), .slice b1 l1.length c1, .slice a1 l1.length e1, .slice (some ⟨z2, 0, none⟩) 0 0, .pointer (some ⟨w.heap.size, 2, none⟩), .slice b2 l2.length c2, .slice a2 l2.length e2, .slice (some ⟨z3, 0, none⟩) 0 0, .pointer (some ⟨w.heap.size, 3, none⟩), .slice b3 l3.length c3, .slice a3 l3.length e3, .agg #[.slice a0 l0.length e0, .slice a1 l1.length e1, .slice a2 l2.length e2, .slice a3 l3.length e3]], defers := [] } ((((W.setCell ⟨w.heap.size + 1, 0, none⟩ (.slice a0 l0.length e0)).setCell ⟨w.heap.size + 1, 1, none⟩ (.slice a1 l1.length e1)).setCell ⟨w.heap.size + 1, 2, none⟩ (.slice a2 l2.length e2)).setCell ⟨w.heap.size + 1, 3, none⟩ (.slice a3 l3.length e3)))
    (W : World) (hS : ownS w (.slice b0 l0.length c0) (.slice b1 l1.length c1) (.slice b2 l2.length c2) (.slice b3 l3.length c3) W) (z0 z1 z2 : Nat) (a0 : Option Addr) (e0 m1 : Nat) (t0 : RoomIn W (w.heap.size + 2) m1 a0 l0.length e0 l0) (g1 : m1 ≤ W.heap.size) (k1 : (w.heap.size + 2) ≤ m1) (a1 : Option Addr) (e1 m2 : Nat) (t1 : RoomIn W m1 m2 a1 l1.length e1 l1) (g2 : m2 ≤ W.heap.size) (k2 : m1 ≤ m2) (a2 : Option Addr) (e2 m3 : Nat) (t2 : RoomIn W m2 m3 a2 l2.length e2 l2) (g3 : m3 ≤ W.heap.size) (k3 : m2 ≤ m3) :
    wpAnyH Try.prog .any ownOps Q (ownS w (.slice b0 l0.length c0) (.slice b1 l1.length c1) (.slice b2 l2.length c2) (.slice b3 l3.length c3)) 4 #[true, true, true, true, true, true, true, true, true, true, true, true, false, true, true, false, false, false] { tmps := #[.agg #[.slice b0 l0.length c0, .slice b1 l1.length c1, .slice b2 l2.length c2, .slice b3 l3.length c3], .pointer (some ⟨w.heap.size, 0, none⟩), .pointer (some ⟨w.heap.size + 1, 0, none⟩), .slice (some ⟨z0, 0, none⟩) 0 0, .pointer (some ⟨w.heap.size, 0, none⟩), .slice b0 l0.length c0, .slice a0 l0.length e0, .slice (some ⟨z1, 0, none⟩) 0 0, .pointer (some ⟨w.heap.size, 1, none⟩), .slice b1 l1.length c1, .slice a1 l1.length e1, .slice (some ⟨z2, 0, none⟩) 0 0, .pointer (some ⟨w.heap.size, 2, none⟩), .slice b2 l2.length c2, .slice a2 l2.length e2, undef, .pointer (some ⟨w.heap.size, 3, none⟩), .slice b3 l3.length c3, undef, undef], defers := [] } W := by
  refine wpAnyH_ready (rs := [12]) (by kernel_rfl) (by simp) ?_
  refine AllReadyH.cons (o := ownOp12) rfl (fun K hK => ?_) ?_
  · refine step_lit (by rfl) (by rfl) ?_
    intro z3 W' hb
    have hS' := ownS_keep hS hb
    refine hK.out _ _ hS' (fun _ => ?_)
    exact owno_nd3_3 n0 n1 n2 n3 o0 o1 o2 o3 hQ W' hS' z0 z1 z2 z3 a0 e0 m1 (t0.below hb g1) (Nat.le_trans g1 hb.size) k1 a1 e1 m2 (t1.below hb g2) (Nat.le_trans g2 hb.size) k2 a2 e2 m3 (t2.below hb g3) (Nat.le_trans g3 hb.size) k3
  exact AllReadyH.nil

set_option maxRecDepth 20000 in
set_option maxHeartbeats 4000000 in
theorem owno_nd2_23 {b0 b1 b2 b3 : Option Addr} {c0 c1 c2 c3 : Nat} {l0 l1 l2 l3 : List (Int × Int)} {w : World} {Q : Exit → Act → World → Prop} (n0 : l0.length ≤ 1048576) (n1 : l1.length ≤ 1048576) (n2 : l2.length ≤ 1048576) (n3 : l3.length ≤ 1048576) (o0 : PRow w b0 l0) (o1 : PRow w b1 l1) (o2 : PRow w b2 l2) (o3 : PRow w b3 l3)
    (hQ : ∀ (W : World) (hS : ownS w (.slice b0 l0.length c0) (.slice b1 l1.length c1) (.slice b2 l2.length c2) (.slice b3 l3.length c3) W) (z0 z1 z2 z3 : Nat) (a0 : Option Addr) (e0 m1 : Nat) (t0 : RoomIn W (w.heap.size + 2) m1 a0 l0.length e0 l0) (g1 : m1 ≤ W.heap.size) (k1 : (w.heap.size + 2) ≤ m1) (a1 : Option Addr) (e1 m2 : Nat) (t1 : RoomIn W m1 m2 a1 l1.length e1 l1) (g2 : m2 ≤ W.heap.size) (k2 : m1 ≤ m2) (a2 : Option Addr) (e2 m3 : Nat) (t2 : RoomIn W m2 m3 a2 l2.length e2 l2) (g3 : m3 ≤ W.heap.size) (k3 : m2 ≤ m3) (a3 : Option Addr) (e3 m4 : Nat) (t3 : RoomIn W m3 m4 a3 l3.length e3 l3) (g4 : m4 ≤ W.heap.size) (k4 : m3 ≤ m4), Q .normal { tmps := #[.agg #[.slice b0 l0.length c0, .slice b1 l1.length c1, .slice b2 l2.length c2, .slice b3 l3.length c3], .pointer (some ⟨w.heap.size, 0, none⟩), .pointer (some ⟨w.heap.size + 1, 0, none⟩), .slice (some ⟨z0, 0, none⟩) 0 0, .pointer (some ⟨w.heap.size, 0, none⟩), .slice b0 l0.length c0, .slice a0 l0.length e0, .slice (some ⟨z1, 0, none⟩) 0 0, .pointer (some ⟨w.heap.size, 1, none⟩), .slice b1 l1.length c1, .slice a1 l1.length e1, .slice (some ⟨z2, 0, none⟩) 0 0, .pointer (some ⟨w.heap.size, 2, none⟩), .slice b2 l2.length c2, .slice a2 l2.length e2, .slice (some ⟨z3, 0, none⟩) 0 0, .pointer (some ⟨w.heap.size, 3, none⟩), .slice b3 l3.length c3, .slice a3 l3.length e3, .agg #[.slice a0 l0.length e0, .slice a1 l1.length e1, .slice a2 l2.length e2, .slice a3 l3.length e3]], defers := [] } ((((W.setCell ⟨w.heap.size + 1, 0, none⟩ (.slice a0 l0.length e0)).setCell ⟨w.heap.size + 1, 1, none⟩ (.slice a1 l1.length e1)).setCell ⟨w.heap.size + 1, 2, none⟩ (.slice a2 l2.length e2)).setCell ⟨w.heap.size + 1, 3, none⟩ (.slice a3 l3.length e3)))
    (W : World) (hS : ownS w (.slice b0 l0.length c0) (.slice b1 l1.length c1) (.slice b2 l2.length c2) (.slice b3 l3.length c3) W) (z0 z1 z2 z3 : Nat) (a0 : Option Addr) (e0 m1 : Nat) (t0 : RoomIn W (w.heap.size + 2) m1 a0 l0.length e0 l0) (g1 : m1 ≤ W.heap.size) (k1 : (w.heap.size + 2) ≤ m1) (a1 : Option Addr) (e1 m2 : Nat) (t1 : RoomIn W m1 m2 a1 l1.length e1 l1) (g2 : m2 ≤ W.heap.size) (k2 : m1 ≤ m2) :
    wpAnyH Try.prog .any ownOps Q (ownS w (.slice b0 l0.length c0) (.slice b1 l1.length c1) (.slice b2 l2.length c2) (.slice b3 l3.length c3)) 4 #[true, true, true, true, true, true, true, true, true, true, true, false, true, true, true, false, false, false] { tmps := #[.agg #[.slice b0 l0.length c0, .slice b1 l1.length c1, .slice b2 l2.length c2, .slice b3 l3.length c3], .pointer (some ⟨w.heap.size, 0, none⟩), .pointer (some ⟨w.heap.size + 1, 0, none⟩), .slice (some ⟨z0, 0, none⟩) 0 0, .pointer (some ⟨w.heap.size, 0, none⟩), .slice b0 l0.length c0, .slice a0 l0.length e0, .slice (some ⟨z1, 0, none⟩) 0 0, .pointer (some ⟨w.heap.size, 1, none⟩), .slice b1 l1.length c1, .slice a1 l1.length e1, .slice (some ⟨z2, 0, none⟩) 0 0, .pointer (some ⟨w.heap.size, 2, none⟩), .slice b2 l2.length c2, undef, .slice (some ⟨z3, 0, none⟩) 0 0, .pointer (some ⟨w.heap.size, 3, none⟩), .slice b3 l3.length c3, undef, undef], defers := [] } W := by
  refine wpAnyH_ready (rs := [11]) (by kernel_rfl) (by simp) ?_
  refine AllReadyH.cons (o := ownOp11) rfl (fun K hK => ?_) ?_
  · refine step_freshO (by rfl) (Operand.tmp 11) (Operand.tmp 13) (by rfl) z2 b2 l2.length c2 l2 (by rfl) (by rfl) rfl (o2.below hS.1 (Nat.le_refl _)) n2 ?_
    intro a2 e2 W' hr hb
    have hS' := ownS_keep hS hb
    refine hK.out _ _ hS' (fun _ => ?_)
    exact owno_nd3_3 n0 n1 n2 n3 o0 o1 o2 o3 hQ W' hS' z0 z1 z2 z3 a0 e0 m1 (t0.below hb g1) (Nat.le_trans g1 hb.size) k1 a1 e1 m2 (t1.below hb g2) (Nat.le_trans g2 hb.size) k2 a2 e2 W'.heap.size (hr.mono g2 (Nat.le_refl _)) (Nat.le_refl _) (Nat.le_trans g2 hb.size)
  exact AllReadyH.nil

set_option maxRecDepth 20000 in
set_option maxHeartbeats 4000000 in
theorem owno_nd2_2 {b0 b1 b2 b3 : Option Addr} {c0 c1 c2 c3 : Nat} {l0 l1 l2 l3 : List (Int × Int)} {w : World} {Q : Exit → Act → World → Prop} (n0 : l0.length ≤ 1048576) (n1 : l1.length ≤ 1048576) (n2 : l2.length ≤ 1048576) (n3 : l3.length ≤ 1048576) (o0 : PRow w b0 l0) (o1 : PRow w b1 l1) (o2 : PRow w b2 l2) (o3 : PRow w b3 l3)
    (hQ : ∀ (W : World) (hS : ownS w (.slice b0 l0.length c0) (.slice b1 l1.length c1) (.slice b2 l2.length c2) (.slice b3 l3.length c3) W) (z0 z1 z2 z3 : Nat) (a0 : Option Addr) (e0 m1 : Nat) (t0 : RoomIn W (w.heap.size + 2) m1 a0 l0.length e0 l0) (g1 : m1 ≤ W.heap.size) (k1 : (w.heap.size + 2) ≤ m1) (a1 : Option Addr) (e1 m2 : Nat) (t1 : RoomIn W m1 m2 a1 l1.length e1 l1) (g2 : m2 ≤ W.heap.size) (k2 : m1 ≤ m2) (a2 : Option Addr) (e2 m3 : Nat) (t2 : RoomIn W m2 m3 a2 l2.length e2 l2) (g3 : m3 ≤ W.heap.size) (k3 : m2 ≤ m3) (a3 : Option Addr) (e3 m4 : Nat) (t3 : RoomIn W m3 m4 a3 l3.length e3 l3) (g4 : m4 ≤ W.heap.size) (k4 : m3 ≤ m4), Q .normal { tmps := #[.agg #[.slice b0 l0.length c0, .slice b1 l1.length c1, .slice b2 l2.length c2, .slice b3 l3.length c3], .pointer (some ⟨w.heap.size, 0, none⟩), .pointer (some ⟨w.heap.size + 1, 0, none⟩), .slice (some ⟨z0, 0, none⟩) 0 0, .pointer (some ⟨w.heap.size, 0, none⟩), .slice b0 l0.length c0, .slice a0 l0.length e0, .slice (some ⟨z1, 0, none⟩) 0 0, .pointer (some ⟨w.heap.size, 1, none⟩), .slice b1 l1.length c1, .slice a1 l1.length e1, .slice (some ⟨z2, 0, none⟩) 0 0, .pointer (some ⟨w.heap.size, 2, none⟩), .slice b2 l2.length c2, .slice a2 l2.length e2, .slice (some ⟨z3, 0, none⟩) 0 0, .pointer (some ⟨w.heap.size, 3, none⟩), .slice b3 l3.length c3, .slice a3 l3.length e3, .agg #[.slice a0 l0.length e0, .slice a1 l1.length e1, .slice a2 l2.length e2, .slice a3 l3.length e3]], defers := [] } ((((W.setCell ⟨w.heap.size + 1, 0, none⟩ (.slice a0 l0.length e0)).setCell ⟨w.heap.size + 1, 1, none⟩ (.slice a1 l1.length e1)).setCell ⟨w.heap.size + 1, 2, none⟩ (.slice a2 l2.length e2)).setCell ⟨w.heap.size + 1, 3, none⟩ (.slice a3 l3.length e3)))
    (W : World) (hS : ownS w (.slice b0 l0.length c0) (.slice b1 l1.length c1) (.slice b2 l2.length c2) (.slice b3 l3.length c3) W) (z0 z1 z2 : Nat) (a0 : Option Addr) (e0 m1 : Nat) (t0 : RoomIn W (w.heap.size + 2) m1 a0 l0.length e0 l0) (g1 : m1 ≤ W.heap.size) (k1 : (w.heap.size + 2) ≤ m1) (a1 : Option Addr) (e1 m2 : Nat) (t1 : RoomIn W m1 m2 a1 l1.length e1 l1) (g2 : m2 ≤ W.heap.size) (k2 : m1 ≤ m2) :
    wpAnyH Try.prog .any ownOps Q (ownS w (.slice b0 l0.length c0) (.slice b1 l1.length c1) (.slice b2 l2.length c2) (.slice b3 l3.length c3)) 5 #[true, true, true, true, true, true, true, true, true, true, true, false, false, true, true, false, false, false] { tmps := #[.agg #[.slice b0 l0.length c0, .slice b1 l1.length c1, .slice b2 l2.length c2, .slice b3 l3.length c3], .pointer (some ⟨w.heap.size, 0, none⟩), .pointer (some ⟨w.heap.size + 1, 0, none⟩), .slice (some ⟨z0, 0, none⟩) 0 0, .pointer (some ⟨w.heap.size, 0, none⟩), .slice b0 l0.length c0, .slice a0 l0.length e0, .slice (some ⟨z1, 0, none⟩) 0 0, .pointer (some ⟨w.heap.size, 1, none⟩), .slice b1 l1.length c1, .slice a1 l1.length e1, .slice (some ⟨z2, 0, none⟩) 0 0, .pointer (some ⟨w.heap.size, 2, none⟩), .slice b2 l2.length c2, undef, undef, .pointer (some ⟨w.heap.size, 3, none⟩), .slice b3 l3.length c3, undef, undef], defers := [] } W := by
  refine wpAnyH_ready (rs := [11, 12]) (by kernel_rfl) (by simp) ?_
  refine AllReadyH.cons (o := ownOp11) rfl (fun K hK => ?_) ?_
  · refine step_freshO (by rfl) (Operand.tmp 11) (Operand.tmp 13) (by rfl) z2 b2 l2.length c2 l2 (by rfl) (by rfl) rfl (o2.below hS.1 (Nat.le_refl _)) n2 ?_
    intro a2 e2 W' hr hb
    have hS' := ownS_keep hS hb
    refine hK.out _ _ hS' (fun _ => ?_)
    exact owno_nd3_n n0 n1 n2 n3 o0 o1 o2 o3 hQ W' hS' z0 z1 z2 a0 e0 m1 (t0.below hb g1) (Nat.le_trans g1 hb.size) k1 a1 e1 m2 (t1.below hb g2) (Nat.le_trans g2 hb.size) k2 a2 e2 W'.heap.size (hr.mono g2 (Nat.le_refl _)) (Nat.le_refl _) (Nat.le_trans g2 hb.size)
  refine AllReadyH.cons (o := ownOp12) rfl (fun K hK => ?_) ?_
  · refine step_lit (by rfl) (by rfl) ?_
    intro z3 W' hb
    have hS' := ownS_keep hS hb
    refine hK.out _ _ hS' (fun _ => ?_)
    exact owno_nd2_23 n0 n1 n2 n3 o0 o1 o2 o3 hQ W' hS' z0 z1 z2 z3 a0 e0 m1 (t0.below hb g1) (Nat.le_trans g1 hb.size) k1 a1 e1 m2 (t1.below hb g2) (Nat.le_trans g2 hb.size) k2
  exact AllReadyH.nil

set_option maxRecDepth 20000 in
set_option maxHeartbeats 4000000 in
theorem owno_nd2_3 {b0 b1 b2 b3 : Option Addr} {c0 c1 c2 c3 : Nat} {l0 l1 l2 l3 : List (Int × Int)} {w : World} {Q : Exit → Act → World → Prop} (n0 : l0.length ≤ 1048576) (n1 : l1.length ≤ 1048576) (n2 : l2.length ≤ 1048576) (n3 : l3.length ≤ 1048576) (o0 : PRow w b0 l0) (o1 : PRow w b1 l1) (o2 : PRow w b2 l2) (o3 : PRow w b3 l3)
    (hQ : ∀ (W : World) (hS : ownS w (.slice b0 l0.length c0) (.slice b1 l1.length c1) (.slice b2 l2.length c2) (.slice b3 l3.length c3) W) (z0 z1 z2 z3 : Nat) (a0 : Option Addr) (e0 m1 : Nat) (t0 : RoomIn W (w.heap.size + 2) m1 a0 l0.length e0 l0) (g1 : m1 ≤ W.heap.size) (k1 : (w.heap.size + 2) ≤ m1) (a1 : Option Addr) (e1 m2 : Nat) (t1 : RoomIn W m1 m2 a1 l1.length e1 l1) (g2 : m2 ≤ W.heap.size) (k2 : m1 ≤ m2) (a2 : Option Addr) (e2 m3 : Nat) (t2 : RoomIn W m2 m3 a2 l2.length e2 l2) (g3 : m3 ≤ W.heap.size) (k3 : m2 ≤ m3) (a3 : Option Addr) (e3 m4 : Nat) (t3 : RoomIn W m3 m4 a3 l3.length e3 l3) (g4 : m4 ≤ W.heap.size) (k4 : m3 ≤ m4), Q .normal { tmps := #[.agg #[.slice b0 l0.length c0, .slice b1 l1.length c1, .slice b2 l2.length c2, .slice b3 l3.length c3], .pointer (some ⟨w.heap.size, 0, none⟩), .pointer (some ⟨w.heap.size + 1, 0, none⟩), .slice (some ⟨z0, 0, none⟩) 0 0, .pointer (some ⟨w.heap.size, 0, none⟩), .slice b0 l0.length c0, .slice a0 l0.length e0, .slice (some ⟨z1, 0, none⟩) 0 0, .pointer (some ⟨w.heap.size, 1, none⟩), .slice b1 l1.length c1, .slice a1 l1.length e1, .slice (some ⟨z2, 0, none⟩) 0 0, .pointer (some ⟨w.heap.size, 2, none⟩), .slice b2 l2.length c2, .slice a2 l2.length e2, .slice (some ⟨z3, 0, none⟩) 0 0, .pointer (some ⟨w.heap.size, 3, none⟩), .slice b3 l3.length c3, .slice a3 l3.length e3, .agg #[.slice a0 l0.length e0, .slice a1 l1.length e1, .slice a2 l2.length e2, .slice a3 l3.length e3]], defers := [] } ((((W.setCell ⟨w.heap.size + 1, 0, none⟩ (.slice a0 l0.length e0)).setCell ⟨w.heap.size + 1, 1, none⟩ (.slice a1 l1.length e1)).setCell ⟨w.heap.size + 1, 2, none⟩ (.slice a2 l2.length e2)).setCell ⟨w.heap.size + 1, 3, none⟩ (.slice a3 l3.length e3)))
    (W : World) (hS : ownS w (.slice b0 l0.length c0) (.slice b1 l1.length c1) (.slice b2 l2.length c2) (.slice b3 l3.length c3) W) (z0 z1 z3 : Nat) (a0 : Option Addr) (e0 m1 : Nat) (t0 : RoomIn W (w.heap.size + 2) m1 a0 l0.length e0 l0) (g1 : m1 ≤ W.heap.size) (k1 : (w.heap.size + 2) ≤ m1) (a1 : Option Addr) (e1 m2 : Nat) (t1 : RoomIn W m1 m2 a1 l1.length e1 l1) (g2 : m2 ≤ W.heap.size) (k2 : m1 ≤ m2) :
    wpAnyH Try.prog .any ownOps Q (ownS w (.slice b0 l0.length c0) (.slice b1 l1.length c1) (.slice b2 l2.length c2) (.slice b3 l3.length c3)) 5 #[true, true, true, true, true, true, true, true, false, true, true, false, true, true, true, false, false, false] { tmps := #[.agg #[.slice b0 l0.length c0, .slice b1 l1.length c1, .slice b2 l2.length c2, .slice b3 l3.length c3], .pointer (some ⟨w.heap.size, 0, none⟩), .pointer (some ⟨w.heap.size + 1, 0, none⟩), .slice (some ⟨z0, 0, none⟩) 0 0, .pointer (some ⟨w.heap.size, 0, none⟩), .slice b0 l0.length c0, .slice a0 l0.length e0, .slice (some ⟨z1, 0, none⟩) 0 0, .pointer (some ⟨w.heap.size, 1, none⟩), .slice b1 l1.length c1, .slice a1 l1.length e1, undef, .pointer (some ⟨w.heap.size, 2, none⟩), .slice b2 l2.length c2, undef, .slice (some ⟨z3, 0, none⟩) 0 0, .pointer (some ⟨w.heap.size, 3, none⟩), .slice b3 l3.length c3, undef, undef], defers := [] } W := by
  refine wpAnyH_ready (rs := [8]) (by kernel_rfl) (by simp) ?_
  refine AllReadyH.cons (o := ownOp8) rfl (fun K hK => ?_) ?_
  · refine step_lit (by rfl) (by rfl) ?_
    intro z2 W' hb
    have hS' := ownS_keep hS hb
    refine hK.out _ _ hS' (fun _ => ?_)
    exact owno_nd2_23 n0 n1 n2 n3 o0 o1 o2 o3 hQ W' hS' z0 z1 z2 z3 a0 e0 m1 (t0.below hb g1) (Nat.le_trans g1 hb.size) k1 a1 e1 m2 (t1.below hb g2) (Nat.le_trans g2 hb.size) k2
  exact AllReadyH.nil

set_option maxRecDepth 20000 in
set_option maxHeartbeats 4000000 in
theorem owno_nd2_n {b0 b1 b2 b3 : Option Addr} {c0 c1 c2 c3 : Nat} {l0 l1 l2 l3 : List (Int × Int)} {w : World} {Q : Exit → Act → World → Prop} (n0 : l0.length ≤ 1048576) (n1 : l1.length ≤ 1048576) (n2 : l2.length ≤ 1048576) (n3 : l3.length ≤ 1048576) (o0 : PRow w b0 l0) (o1 : PRow w b1 l1) (o2 : PRow w b2 l2) (o3 : PRow w b3 l3)
    (hQ : ∀ (W : World) (hS : ownS w (.slice b0 l0.length c0) (.slice b1 l1.length c1) (.slice b2 l2.length c2) (.slice b3 l3.length c3) W) (z0 z1 z2 z3 : Nat) (a0 : Option Addr) (e0 m1 : Nat) (t0 : RoomIn W (w.heap.size + 2) m1 a0 l0.length e0 l0) (g1 : m1 ≤ W.heap.size) (k1 : (w.heap.size + 2) ≤ m1) (a1 : Option Addr) (e1 m2 : Nat) (t1 : RoomIn W m1 m2 a1 l1.length e1 l1) (g2 : m2 ≤ W.heap.size) (k2 : m1 ≤ m2) (a2 : Option Addr) (e2 m3 : Nat) (t2 : RoomIn W m2 m3 a2 l2.length e2 l2) (g3 : m3 ≤ W.heap.size) (k3 : m2 ≤ m3) (a3 : Option Addr) (e3 m4 : Nat) (t3 : RoomIn W m3 m4 a3 l3.length e3 l3) (g4 : m4 ≤ W.heap.size) (k4 : m3 ≤ m4), Q .normal { tmps := #[.agg #[.slice b0 l0.length c0, .slice b1 l1.length c1, .slice b2 l2.length c2, .slice b3 l3.length c3], .pointer (some ⟨w.heap.size, 0, none⟩), .pointer (some ⟨w.heap.size + 1, 0, none⟩), .slice (some ⟨z0, 0, none⟩) 0 0, .pointer (some ⟨w.heap.size, 0, none⟩), .slice b0 l0.length c0, .slice a0 l0.length e0, .slice (some ⟨z1, 0, none⟩) 0 0, .pointer (some ⟨w.heap.size, 1, none⟩), .slice b1 l1.length c1, .slice a1 l1.length e1, .slice (some ⟨z2, 0, none⟩) 0 0, .pointer (some ⟨w.heap.size, 2, none⟩), .slice b2 l2.length c2, .slice a2 l2.length e2, .slice (some ⟨z3, 0, none⟩) 0 0, .pointer (some ⟨w.heap.size, 3, none⟩), .slice b3 l3.length c3, .slice a3 l3.length e3, .agg #[.slice a0 l0.length e0, .slice a1 l1.length e1, .slice a2 l2.length e2, .slice a3 l3.length e3]], defers := [] } ((((W.setCell ⟨w.heap.size + 1, 0, none⟩ (.slice a0 l0.length e0)).setCell ⟨w.heap.size + 1, 1, none⟩ (.slice a1 l1.length e1)).setCell ⟨w.heap.size + 1, 2, none⟩ (.slice a2 l2.length e2)).setCell ⟨w.heap.size + 1, 3, none⟩ (.slice a3 l3.length e3)))
    (W : World) (hS : ownS w (.slice b0 l0.length c0) (.slice b1 l1.length c1) (.slice b2 l2.length c2) (.slice b3 l3.length c3) W) (z0 z1 : Nat) (a0 : Option Addr) (e0 m1 : Nat) (t0 : RoomIn W (w.heap.size + 2) m1 a0 l0.length e0 l0) (g1 : m1 ≤ W.heap.size) (k1 : (w.heap.size + 2) ≤ m1) (a1 : Option Addr) (e1 m2 : Nat) (t1 : RoomIn W m1 m2 a1 l1.length e1 l1) (g2 : m2 ≤ W.heap.size) (k2 : m1 ≤ m2) :
    wpAnyH Try.prog .any ownOps Q (ownS w (.slice b0 l0.length c0) (.slice b1 l1.length c1) (.slice b2 l2.length c2) (.slice b3 l3.length c3)) 6 #[true, true, true, true, true, true, true, true, false, true, true, false, false, true, true, false, false, false] { tmps := #[.agg #[.slice b0 l0.length c0, .slice b1 l1.length c1, .slice b2 l2.length c2, .slice b3 l3.length c3], .pointer (some ⟨w.heap.size, 0, none⟩), .pointer (some ⟨w.heap.size + 1, 0, none⟩), .slice (some ⟨z0, 0, none⟩) 0 0, .pointer (some ⟨w.heap.size, 0, none⟩), .slice b0 l0.length c0, .slice a0 l0.length e0, .slice (some ⟨z1, 0, none⟩) 0 0, .pointer (some ⟨w.heap.size, 1, none⟩), .slice b1 l1.length c1, .slice a1 l1.length e1, undef, .pointer (some ⟨w.heap.size, 2, none⟩), .slice b2 l2.length c2, undef, undef, .pointer (some ⟨w.heap.size, 3, none⟩), .slice b3 l3.length c3, undef, undef], defers := [] } W := by
  refine wpAnyH_ready (rs := [8, 12]) (by kernel_rfl) (by simp) ?_
  refine AllReadyH.cons (o := ownOp8) rfl (fun K hK => ?_) ?_
  · refine step_lit (by rfl) (by rfl) ?_
    intro z2 W' hb
    have hS' := ownS_keep hS hb
    refine hK.out _ _ hS' (fun _ => ?_)
    exact owno_nd2_2 n0 n1 n2 n3 o0 o1 o2 o3 hQ W' hS' z0 z1 z2 a0 e0 m1 (t0.below hb g1) (Nat.le_trans g1 hb.size) k1 a1 e1 m2 (t1.below hb g2) (Nat.le_trans g2 hb.size) k2
  refine AllReadyH.cons (o := ownOp12) rfl (fun K hK => ?_) ?_
  · refine step_lit (by rfl) (by rfl) ?_
    intro z3 W' hb
    have hS' := ownS_keep hS hb
    refine hK.out _ _ hS' (fun _ => ?_)
    exact owno_nd2_3 n0 n1 n2 n3 o0 o1 o2 o3 hQ W' hS' z0 z1 z3 a0 e0 m1 (t0.below hb g1) (Nat.le_trans g1 hb.size) k1 a1 e1 m2 (t1.below hb g2) (Nat.le_trans g2 hb.size) k2
  exact AllReadyH.nil

set_option maxRecDepth 20000 in
set_option maxHeartbeats 4000000 in
theorem owno_nd1_123 {b0 b1 b2 b3 : Option Addr} {c0 c1 c2 c3 : Nat} {l0 l1 l2 l3 : List (Int × Int)} {w : World} {Q : Exit → Act → World → Prop} (n0 : l0.length ≤ 1048576) (n1 : l1.length ≤ 1048576) (n2 : l2.length ≤ 1048576) (n3 : l3.length ≤ 1048576) (o0 : PRow w b0 l0) (o1 : PRow w b1 l1) (o2 : PRow w b2 l2) (o3 : PRow w b3 l3)
    (hQ : ∀ (W : World) (hS : ownS w (.slice b0 l0.length c0) (.slice b1 l1.length c1) (.slice b2 l2.length c2) (.slice b3 l3.length c3) W) (z0 z1 z2 z3 : Nat) (a0 : Option Addr) (e0 m1 : Nat) (t0 : RoomIn W (w.heap.size + 2) m1 a0 l0.length e0 l0) (g1 : m1 ≤ W.heap.size) (k1 : (w.heap.size + 2) ≤ m1) (a1 : Option Addr) (e1 m2 : Nat) (t1 : RoomIn W m1 m2 a1 l1.length e1 l1) (g2 : m2 ≤ W.heap.size) (k2 : m1 ≤ m2) (a2 : Option Addr) (e2 m3 : Nat) (t2 : RoomIn W m2 m3 a2 l2.length e2 l2) (g3 : m3 ≤ W.heap.size) (k3 : m2 ≤ m3) (a3 : Option Addr) (e3 m4 : Nat) (t3 : RoomIn W m3 m4 a3 l3.length e3 l3) (g4 : m4 ≤ W.heap.size) (k4 : m3 ≤ m4), Q .normal { tmps := #[.agg #[.slice b0 l0.length c0, .slice b1 l1.length c1, .slice b2 l2.length c2, .slice b3 l3.length c3], .pointer (some ⟨w.heap.size, 0, none⟩), .pointer (some ⟨w.heap.size + 1, 0, none⟩), .slice (some ⟨z0, 0, none⟩) 0 0, .pointer (some ⟨w.heap.size, 0, none⟩), .slice b0 l0.length c0, .slice a0 l0.length e0, .slice (some ⟨z1, 0, none⟩) 0 0, .pointer (some ⟨w.heap.size, 1, none⟩), .slice b1 l1.length c1, .slice a1 l1.length e1, .slice (some ⟨z2, 0, none⟩) 0 0, .pointer (some ⟨w.heap.size, 2, none⟩), .slice b2 l2.length c2, .slice a2 l2.length e2, .slice (some ⟨z3, 0, none⟩) 0 0, .pointer (some ⟨w.heap.size, 3, none⟩), .slice b3 l3.length c3, .slice a3 l3.length e3, .agg #[.slice a0 l0.length e0, .slice a1 l1.length e1, .slice a2 l2.length e2, .slice a3 l3.length e3]], defers := [] } ((((W.setCell ⟨w.heap.size + 1, 0, none⟩ (.slice a0 l0.length e0)).setCell ⟨w.heap.size + 1, 1, none⟩ (.slice a1 l1.length e1)).setCell ⟨w.heap.size + 1, 2, none⟩ (.slice a2 l2.length e2)).setCell ⟨w.heap.size + 1, 3, none⟩ (.slice a3 l3.length e3)))
    (W : World) (hS : ownS w (.slice b0 l0.length c0) (.slice b1 l1.length c1) (.slice b2 l2.length c2) (.slice b3 l3.length c3) W) (z0 z1 z2 z3 : Nat) (a0 : Option Addr) (e0 m1 : Nat) (t0 : RoomIn W (w.heap.size + 2) m1 a0 l0.length e0 l0) (g1 : m1 ≤ W.heap.size) (k1 : (w.heap.size + 2) ≤ m1) :
    wpAnyH Try.prog .any ownOps Q (ownS w (.slice b0 l0.length c0) (.slice b1 l1.length c1) (.slice b2 l2.length c2) (.slice b3 l3.length c3)) 5 #[true, true, true, true, true, true, true, false, true, true, true, false, true, true, true, false, false, false] { tmps := #[.agg #[.slice b0 l0.length c0, .slice b1 l1.length c1, .slice b2 l2.length c2, .slice b3 l3.length c3], .pointer (some ⟨w.heap.size, 0, none⟩), .pointer (some ⟨w.heap.size + 1, 0, none⟩), .slice (some ⟨z0, 0, none⟩) 0 0, .pointer (some ⟨w.heap.size, 0, none⟩), .slice b0 l0.length c0, .slice a0 l0.length e0, .slice (some ⟨z1, 0, none⟩) 0 0, .pointer (some ⟨w.heap.size, 1, none⟩), .slice b1 l1.length c1, undef, .slice (some ⟨z2, 0, none⟩) 0 0, .pointer (some ⟨w.heap.size, 2, none⟩), .slice b2 l2.length c2, undef, .slice (some ⟨z3, 0, none⟩) 0 0, .pointer (some ⟨w.heap.size, 3, none⟩), .slice b3 l3.length c3, undef, undef], defers := [] } W := by
  refine wpAnyH_ready (rs := [7]) (by kernel_rfl) (by simp) ?_
  refine AllReadyH.cons (o := ownOp7) rfl (fun K hK => ?_) ?_
  · refine step_freshO (by rfl) (Operand.tmp 7) (Operand.tmp 9) (by rfl) z1 b1 l1.length c1 l1 (by rfl) (by rfl) rfl (o1.below hS.1 (Nat.le_refl _)) n1 ?_
    intro a1 e1 W' hr hb
    have hS' := ownS_keep hS hb
    refine hK.out _ _ hS' (fun _ => ?_)
    exact owno_nd2_23 n0 n1 n2 n3 o0 o1 o2 o3 hQ W' hS' z0 z1 z2 z3 a0 e0 m1 (t0.below hb g1) (Nat.le_trans g1 hb.size) k1 a1 e1 W'.heap.size (hr.mono g1 (Nat.le_refl _)) (Nat.le_refl _) (Nat.le_trans g1 hb.size)
  exact AllReadyH.nil

set_option maxRecDepth 20000 in
set_option maxHeartbeats 4000000 in
theorem owno_nd1_12 {b0 b1 b2 b3 : Option Addr} {c0 c1 c2 c3 : Nat} {l0 l1 l2 l3 : List (Int × Int)} {w : World} {Q : Exit → Act → World → Prop} (n0 : l0.length ≤ 1048576) (n1 : l1.length ≤ 1048576) (n2 : l2.length ≤ 1048576) (n3 : l3.length ≤ 1048576) (o0 : PRow w b0 l0) (o1 : PRow w b1 l1) (o2 : PRow w b2 l2) (o3 : PRow w b3 l3)
    (hQ : ∀ (W : World) (hS : ownS w (.slice b0 l0.length c0) (.slice b1 l1.length c1) (.slice b2 l2.length c2) (.slice b3 l3.length c3) W) (z0 z1 z2 z3 : Nat) (a0 : Option Addr) (e0 m1 : Nat) (t0 : RoomIn W (w.heap.size + 2) m1 a0 l0.length e0 l0) (g1 : m1 ≤ W.heap.size) (k1 : (w.heap.size + 2) ≤ m1) (a1 : Option Addr) (e1 m2 : Nat) (t1 : RoomIn W m1 m2 a1 l1.length e1 l1) (g2 : m2 ≤ W.heap.size) (k2 : m1 ≤ m2) (a2 : Option Addr) (e2 m3 : Nat) (t2 : RoomIn W m2 m3 a2 l2.length e2 l2) (g3 : m3 ≤ W.heap.size) (k3 : m2 ≤ m3) (a3 : Option Addr) (e3 m4 : Nat) (t3 : RoomIn W m3 m4 a3 l3.length e3 l3) (g4 : m4 ≤ W.heap.size) (k4 : m3 ≤ m4), Q .normal { tmps := #[.agg #[.slice b0 l0.length c0, .slice b1 l1.length c1, .slice b2 l2.length c2, .slice b3 l3.length c3], .pointer (some ⟨w.heap.size, 0, none⟩), .pointer (some ⟨w.heap.size + 1, 0, none⟩), .slice (some ⟨z0, 0, none⟩) 0 0, .pointer (some ⟨w.heap.size, 0, none⟩), .slice b0 l0.length c0, .slice a0 l0.length e0, .slice (some ⟨z1, 0, none⟩) 0 0, .pointer (some ⟨w.heap.size, 1, none⟩), .slice b1 l1.length c1, .slice a1 l1.length e1, .slice (some ⟨z2, 0, none⟩) 0 0, .pointer (some ⟨w.heap.size, 2, none⟩), .slice b2 l2.length c2, .slice a2 l2.length e2, .slice (some ⟨z3, 0, none⟩) 0 0, .pointer (some ⟨w.heap.size, 3, none⟩), .slice b3 l3.length c3, .slice a3 l3.length e3, .agg #[.slice a0 l0.length e0, .slice a1 l1.length e1, .slice a2 l2.length e2, .slice a3 l3.length e3]], defers := [] } ((((W.setCell ⟨w.heap.size + 1, 0, none⟩ (.slice a0 l0.length e0)).setCell ⟨w.heap.size + 1, 1, none⟩ (.slice a1 l1.length e1)).setCell ⟨w.heap.size + 1, 2, none⟩ (.slice a2 l2.length e2)).setCell ⟨w.heap.size + 1, 3, none⟩ (.slice a3 l3.length e3)))
    (W : World) (hS : ownS w (.slice b0 l0.length c0) (.slice b1 l1.length c1) (.slice b2 l2.length c2) (.slice b3 l3.length c3) W) (z0 z1 z2 : Nat) (a0 : Option Addr) (e0 m1 : Nat) (t0 : RoomIn W (w.heap.size + 2) m1 a0 l0.length e0 l0) (g1 : m1 ≤ W.heap.size) (k1 : (w.heap.size + 2) ≤ m1) :
    wpAnyH Try.prog .any ownOps Q (ownS w (.slice b0 l0.length c0) (.slice b1 l1.length c1) (.slice b2 l2.length c2) (.slice b3 l3.length c3)) 6 #[true, true, true, true, true, true, true, false, true, true, true, false, false, true, true, false, false, false] { tmps := #[.agg #[.slice b0 l0.length c0, .slice b1 l1.length c1, .slice b2 l2.length c2, .slice b3 l3.length c3], .pointer (some ⟨w.heap.size, 0, none⟩), .pointer (some ⟨w.heap.size + 1, 0, none⟩), .slice (some ⟨z0, 0, none⟩) 0 0, .pointer (some ⟨w.heap.size, 0, none⟩), .slice b0 l0.length c0, .slice a0 l0.length e0, .slice (some ⟨z1, 0, none⟩) 0 0, .pointer (some ⟨w.heap.size, 1, none⟩), .slice b1 l1.length c1, undef, .slice (some ⟨z2, 0, none⟩) 0 0, .pointer (some ⟨w.heap.size, 2, none⟩), .slice b2 l2.length c2, undef, undef, .pointer (some ⟨w.heap.size, 3, none⟩), .slice b3 l3.length c3, undef, undef], defers := [] } W := by
  refine wpAnyH_ready (rs := [7, 12]) (by kernel_rfl) (by simp) ?_
  refine AllReadyH.cons (o := ownOp7) rfl (fun K hK => ?_) ?_
  · refine step_freshO (by rfl) (Operand.tmp 7) (Operand.tmp 9) (by rfl) z1 b1 l1.length c1 l1 (by rfl) (by rfl) rfl (o1.below hS.1 (Nat.le_refl _)) n1 ?_
    intro a1 e1 W' hr hb
    have hS' := ownS_keep hS hb
    refine hK.out _ _ hS' (fun _ => ?_)
    exact owno_nd2_2 n0 n1 n2 n3 o0 o1 o2 o3 hQ W' hS' z0 z1 z2 a0 e0 m1 (t0.below hb g1) (Nat.le_trans g1 hb.size) k1 a1 e1 W'.heap.size (hr.mono g1 (Nat.le_refl _)) (Nat.le_refl _) (Nat.le_trans g1 hb.size)
  refine AllReadyH.cons (o := ownOp12) rfl (fun K hK => ?_) ?_
  · refine step_lit (by rfl) (by rfl) ?_
    intro z3 W' hb
    have hS' := ownS_keep hS hb
    refine hK.out _ _ hS' (fun _ => ?_)
    exact owno_nd1_123 n0 n1 n2 n3 o0 o1 o2 o3 hQ W' hS' z0 z1 z2 z3 a0 e0 m1 (t0.below hb g1) (Nat.le_trans g1 hb.size) k1
  exact AllReadyH.nil

set_option maxRecDepth 20000 in
set_option maxHeartbeats 4000000 in
theorem owno_nd1_13 {b0 b1 b2 b3 : Option Addr} {c0 c1 c2 c3 : Nat} {l0 l1 l2 l3 : List (Int × Int)} {w : World} {Q : Exit → Act → World → Prop} (n0 : l0.length ≤ 1048576) (n1 : l1.length ≤ 1048576) (n2 : l2.length ≤ 1048576) (n3 : l3.length ≤ 1048576) (o0 : PRow w b0 l0) (o1 : PRow w b1 l1) (o2 : PRow w b2 l2) (o3 : PRow w b3 l3)
    (hQ : ∀ (W : World) (hS : ownS w (.slice b0 l0.length c0) (.slice b1 l1.length c1) (.slice b2 l2.length c2) (.slice b3 l3.length c3) W) (z0 z1 z2 z3 : Nat) (a0 : Option Addr) (e0 m1 : Nat) (t0 : RoomIn W (w.heap.size + 2) m1 a0 l0.length e0 l0) (g1 : m1 ≤ W.heap.size) (k1 : (w.heap.size + 2) ≤ m1) (a1 : Option Addr) (e1 m2 : Nat) (t1 : RoomIn W m1 m2 a1 l1.length e1 l1) (g2 : m2 ≤ W.heap.size) (k2 : m1 ≤ m2) (a2 : Option Addr) (e2 m3 : Nat) (t2 : RoomIn W m2 m3 a2 l2.length e2 l2) (g3 : m3 ≤ W.heap.size) (k3 : m2 ≤ m3) (a3 : Option Addr) (e3 m4 : Nat) (t3 : RoomIn W m3 m4 a3 l3.length e3 l3) (g4 : m4 ≤ W.heap.size) (k4 : m3 ≤ m4), Q .normal { tmps := #[.agg #[.slice b0 l0.length c0, .slice b1 l1.length c1, .slice b2 l2.length c2, .slice b3 l3.length c3], .pointer (some ⟨w.heap.size, 0, none⟩), .pointer (some ⟨w.heap.size + 1, 0, none⟩), .slice (some ⟨z0, 0, none⟩) 0 0, .pointer (some ⟨w.heap.size, 0, none⟩), .slice b0 l0.length c0, .slice a0 l0.length e0, .slice (some ⟨z1, 0, none⟩) 0 0, .pointer (some ⟨w.heap.size, 1, none⟩), .slice b1 l1.length c1, .slice a1 l1.length e1, .slice (some ⟨z2, 0, none⟩) 0 0, .pointer (some ⟨w.heap.size, 2, none⟩), .slice b2 l2.length c2, .slice a2 l2.length e2, .slice (some ⟨z3, 0, none⟩) 0 0, .pointer (some ⟨w.heap.size, 3, none⟩), .slice b3 l3.length c3, .slice a3 l3.length e3, .agg #[.slice a0 l0.length e0, .slice a1 l1.length e1, .slice a2 l2.length e2, .slice a3 l3.length e3]], defers := [] } ((((W.setCell ⟨w.heap.size + 1, 0, none⟩ (.slice a0 l0.length e0)).setCell ⟨w.heap.size + 1, 1, none⟩ (.slice a1 l1.length e1)).setCell ⟨w.heap.size + 1, 2, none⟩ (.slice a2 l2.length e2)).setCell ⟨w.heap.size + 1, 3, none⟩ (.slice a3 l3.length e3)))
    (W : World) (hS : ownS w (.slice b0 l0.length c0) (.slice b1 l1.length c1) (.slice b2 l2.length c2) (.slice b3 l3.length c3) W) (z0 z1 z3 : Nat) (a0 : Option Addr) (e0 m1 : Nat) (t0 : RoomIn W (w.heap.size + 2) m1 a0 l0.length e0 l0) (g1 : m1 ≤ W.heap.size) (k1 : (w.heap.size + 2) ≤ m1) :
    wpAnyH Try.prog .any ownOps Q (ownS w (.slice b0 l0.length c0) (.slice b1 l1.length c1) (.slice b2 l2.length c2) (.slice b3 l3.length c3)) 6 #[true, true, true, true, true, true, true, false, false, true, true, false, true, true, true, false, false, false] { tmps := #[.agg #[.slice b0 l0.length c0, .slice b1 l1.length c1, .slice b2 l2.length c2, .slice b3 l3.length c3], .pointer (some ⟨w.heap.size, 0, none⟩), .pointer (some ⟨w.heap.size + 1, 0, none⟩), .slice (some ⟨z0, 0, none⟩) 0 0, .pointer (some ⟨w.heap.size, 0, none⟩), .slice b0 l0.length c0, .slice a0 l0.length e0, .slice (some ⟨z1, 0, none⟩) 0 0, .pointer (some ⟨w.heap.size, 1, none⟩), .slice b1 l1.length c1, undef, undef, .pointer (some ⟨w.heap.size, 2, none⟩), .slice b2 l2.length c2, undef, .slice (some ⟨z3, 0, none⟩) 0 0, .pointer (some ⟨w.heap.size, 3, none⟩), .slice b3 l3.length c3, undef, undef], defers := [] } W := by
  refine wpAnyH_ready (rs := [7, 8]) (by kernel_rfl) (by simp) ?_
  refine AllReadyH.cons (o := ownOp7) rfl (fun K hK => ?_) ?_
  · refine step_freshO (by rfl) (Operand.tmp 7) (Operand.tmp 9) (by rfl) z1 b1 l1.length c1 l1 (by rfl) (by rfl) rfl (o1.below hS.1 (Nat.le_refl _)) n1 ?_
    intro a1 e1 W' hr hb
    have hS' := ownS_keep hS hb
    refine hK.out _ _ hS' (fun _ => ?_)
    exact owno_nd2_3 n0 n1 n2 n3 o0 o1 o2 o3 hQ W' hS' z0 z1 z3 a0 e0 m1 (t0.below hb g1) (Nat.le_trans g1 hb.size) k1 a1 e1 W'.heap.size (hr.mono g1 (Nat.le_refl _)) (Nat.le_refl _) (Nat.le_trans g1 hb.size)
  refine AllReadyH.cons (o := ownOp8) rfl (fun K hK => ?_) ?_
  · refine step_lit (by rfl) (by rfl) ?_
    intro z2 W' hb
    have hS' := ownS_keep hS hb
    refine hK.out _ _ hS' (fun _ => ?_)
    exact owno_nd1_123 n0 n1 n2 n3 o0 o1 o2 o3 hQ W' hS' z0 z1 z2 z3 a0 e0 m1 (t0.below hb g1) (Nat.le_trans g1 hb.size) k1
  exact AllReadyH.nil

set_option maxRecDepth 20000 in
set_option maxHeartbeats 4000000 in
theorem owno_nd1_23 {b0 b1 b2 b3 : Option Addr} {c0 c1 c2 c3 : Nat} {l0 l1 l2 l3 : List (Int × Int)} {w : World} {Q : Exit → Act → World → Prop} (n0 : l0.length ≤ 1048576) (n1 : l1.length ≤ 1048576) (n2 : l2.length ≤ 1048576) (n3 : l3.length ≤ 1048576) (o0 : PRow w b0 l0) (o1 : PRow w b1 l1) (o2 : PRow w b2 l2) (o3 : PRow w b3 l3)
    (hQ : ∀ (W : World) (hS : ownS w (.slice b0 l0.length c0) (.slice b1 l1.length c1) (.slice b2 l2.length c2) (.slice b3 l3.length c3) W) (z0 z1 z2 z3 : Nat) (a0 : Option Addr) (e0 m1 : Nat) (t0 : RoomIn W (w.heap.size + 2) m1 a0 l0.length e0 l0) (g1 : m1 ≤ W.heap.size) (k1 : (w.heap.size + 2) ≤ m1) (a1 : Option Addr) (e1 m2 : Nat) (t1 : RoomIn W m1 m2 a1 l1.length e1 l1) (g2 : m2 ≤ W.heap.size) (k2 : m1 ≤ m2) (a2 : Option Addr) (e2 m3 : Nat) (t2 : RoomIn W m2 m3 a2 l2.length e2 l2) (g3 : m3 ≤ W.heap.size) (k3 : m2 ≤ m3) (a3 : Option Addr) (e3 m4 : Nat) (t3 : RoomIn W m3 m4 a3 l3.length e3 l3) (g4 : m4 ≤ W.heap.size) (k4 : m3 ≤ m4), Q .normal { tmps := #[.agg #[.slice b0 l0.length c0, .slice b1 l1.length c1, .slice b2 l2.length c2, .slice b3 l3.length c3], .pointer (some ⟨w.heap.size, 0, none⟩), .pointer (some ⟨w.heap.size + 1, 0, none⟩), .slice (some ⟨z0, 0, none⟩) 0 0, .pointer (some ⟨w.heap.size, 0, none⟩), .slice b0 l0.length c0, .slice a0 l0.length e0, .slice (some ⟨z1, 0, none⟩) 0 0, .pointer (some ⟨w.heap.size, 1, none⟩), .slice b1 l1.length c1, .slice a1 l1.length e1, .slice (some ⟨z2, 0, none⟩) 0 0, .pointer (some ⟨w.heap.size, 2, none⟩), .slice b2 l2.length c2, .slice a2 l2.length e2, .slice (some ⟨z3, 0, none⟩) 0 0, .pointer (some ⟨w.heap.size, 3, none⟩), .slice b3 l3.length c3, .slice a3 l3.length e3, .agg #[.slice a0 l0.length e0, .slice a1 l1.length e1, .slice a2 l2.length e2, .slice a3 l3.length e3]], defers := [] } ((((W.setCell ⟨w.heap.size + 1, 0, none⟩ (.slice a0 l0.length e0)).setCell ⟨w.heap.size + 1, 1, none⟩ (.slice a1 l1.length e1)).setCell ⟨w.heap.size + 1, 2, none⟩ (.slice a2 l2.length e2)).setCell ⟨w.heap.size + 1, 3, none⟩ (.slice a3 l3.length e3)))
    (W : World) (hS : ownS w (.slice b0 l0.length c0) (.slice b1 l1.length c1) (.slice b2 l2.length c2) (.slice b3 l3.length c3) W) (z0 z2 z3 : Nat) (a0 : Option Addr) (e0 m1 : Nat) (t0 : RoomIn W (w.heap.size + 2) m1 a0 l0.length e0 l0) (g1 : m1 ≤ W.heap.size) (k1 : (w.heap.size + 2) ≤ m1) :
    wpAnyH Try.prog .any ownOps Q (ownS w (.slice b0 l0.length c0) (.slice b1 l1.length c1) (.slice b2 l2.length c2) (.slice b3 l3.length c3)) 6 #[true, true, true, true, false, true, true, false, true, true, true, false, true, true, true, false, false, false] { tmps := #[.agg #[.slice b0 l0.length c0, .slice b1 l1.length c1, .slice b2 l2.length c2, .slice b3 l3.length c3], .pointer (some ⟨w.heap.size, 0, none⟩), .pointer (some ⟨w.heap.size + 1, 0, none⟩), .slice (some ⟨z0, 0, none⟩) 0 0, .pointer (some ⟨w.heap.size, 0, none⟩), .slice b0 l0.length c0, .slice a0 l0.length e0, undef, .pointer (some ⟨w.heap.size, 1, none⟩), .slice b1 l1.length c1, undef, .slice (some ⟨z2, 0, none⟩) 0 0, .pointer (some ⟨w.heap.size, 2, none⟩), .slice b2 l2.length c2, undef, .slice (some ⟨z3, 0, none⟩) 0 0, .pointer (some ⟨w.heap.size, 3, none⟩), .slice b3 l3.length c3, undef, undef], defers := [] } W := by
  refine wpAnyH_ready (rs := [4]) (by kernel_rfl) (by simp) ?_
  refine AllReadyH.cons (o := ownOp4) rfl (fun K hK => ?_) ?_
  · refine step_lit (by rfl) (by rfl) ?_
    intro z1 W' hb
    have hS' := ownS_keep hS hb
    refine hK.out _ _ hS' (fun _ => ?_)
    exact owno_nd1_123 n0 n1 n2 n3 o0 o1 o2 o3 hQ W' hS' z0 z1 z2 z3 a0 e0 m1 (t0.below hb g1) (Nat.le_trans g1 hb.size) k1
  exact AllReadyH.nil

set_option maxRecDepth 20000 in
set_option maxHeartbeats 4000000 in
theorem owno_nd1_1 {b0 b1 b2 b3 : Option Addr} {c0 c1 c2 c3 : Nat} {l0 l1 l2 l3 : List (Int × Int)} {w : World} {Q : Exit → Act → World → Prop} (n0 : l0.length ≤ 1048576) (n1 : l1.length ≤ 1048576) (n2 : l2.length ≤ 1048576) (n3 : l3.length ≤ 1048576) (o0 : PRow w b0 l0) (o1 : PRow w b1 l1) (o2 : PRow w b2 l2) (o3 : PRow w b3 l3)
    (hQ : ∀ (W : World) (hS : ownS w (.slice b0 l0.length c0) (.slice b1 l1.length c1) (.slice b2 l2.length c2) (.slice b3 l3.length c3) W) (z0 z1 z2 z3 : Nat) (a0 : Option Addr) (e0 m1 : Nat) (t0 : RoomIn W (w.heap.size + 2) m1 a0 l0.length e0 l0) (g1 : m1 ≤ W.heap.size) (k1 : (w.heap.size + 2) ≤ m1) (a1 : Option Addr) (e1 m2 : Nat) (t1 : RoomIn W m1 m2 a1 l1.length e1 l1) (g2 : m2 ≤ W.heap.size) (k2 : m1 ≤ m2) (a2 : Option Addr) (e2 m3 : Nat) (t2 : RoomIn W m2 m3 a2 l2.length e2 l2) (g3 : m3 ≤ W.heap.size) (k3 : m2 ≤ m3) (a3 : Option Addr) (e3 m4 : Nat) (t3 : RoomIn W m3 m4 a3 l3.length e3 l3) (g4 : m4 ≤ W.heap.size) (k4 : m3 ≤ m4), Q .normal { tmps := #[.agg #[.slice b0 l0.length c0, .slice b1 l1.length c1, .slice b2 l2.length c2, .slice b3 l3.length c3], .pointer (some ⟨w.heap.size, 0, none⟩), .pointer (some ⟨w.heap.size + 1, 0, none⟩), .slice (some ⟨z0, 0, none⟩) 0 0, .pointer (some ⟨w.heap.size, 0, none⟩), .slice b0 l0.length c0, .slice a0 l0.length e0, .slice (some ⟨z1, 0, none⟩) 0 0, .pointer (some ⟨w.heap.size, 1, none⟩), .slice b1 l1.length c1, .slice a1 l1.length e1, .slice (some ⟨z2, 0, none⟩) 0 0, .pointer (some ⟨w.heap.size, 2, none⟩), .slice b2 l2.length c2, .slice a2 l2.length e2, .slice (some ⟨z3, 0, none⟩) 0 0, .pointer (some ⟨w.heap.size, 3, none⟩), .slice b3 l3.length c3, .slice a3 l3.length e3, .agg #[.slice a0 l0.length e0, .slice a1 l1.length e1, .slice a2 l2.length e2, .slice a3 l3.length e3]], defers := [] } ((((W.setCell ⟨w.heap.size + 1, 0, none⟩ (.slice a0 l0.length e0)).setCell ⟨w.heap.size + 1, 1, none⟩ (.slice a1 l1.length e1)).setCell ⟨w.heap.size + 1, 2, none⟩ (.slice a2 l2.length e2)).setCell ⟨w.heap.size + 1, 3, none⟩ (.slice a3 l3.length e3)))
    (W : World) (hS : ownS w (.slice b0 l0.length c0) (.slice b1 l1.length c1) (.slice b2 l2.length c2) (.slice b3 l3.length c3) W) (z0 z1 : Nat) (a0 : Option Addr) (e0 m1 : Nat) (t0 : RoomIn W (w.heap.size + 2) m1 a0 l0.length e0 l0) (g1 : m1 ≤ W.heap.size) (k1 : (w.heap.size + 2) ≤ m1) :
    wpAnyH Try.prog .any ownOps Q (ownS w (.slice b0 l0.length c0) (.slice b1 l1.length c1) (.slice b2 l2.length c2) (.slice b3 l3.length c3)) 7 #[true, true, true, true, true, true, true, false, false, true, true, false, false, true, true, false, false, false] { tmps := #[.agg #[.slice b0 l0.length c0, .slice b1 l1.length c1, .slice b2 l2.length c2, .slice b3 l3.length c3], .pointer (some ⟨w.heap.size, 0, none⟩), .pointer (some ⟨w.heap.size + 1, 0, none⟩), .slice (some ⟨z0, 0, none⟩) 0 0, .pointer (some ⟨w.heap.size, 0, none⟩), .slice b0 l0.length c0, .slice a0 l0.length e0, .slice (some ⟨z1, 0, none⟩) 0 0, .pointer (some ⟨w.heap.size, 1, none⟩), .slice b1 l1.length c1, undef, undef, .pointer (some ⟨w.heap.size, 2, none⟩), .slice b2 l2.length c2, undef, undef, .pointer (some ⟨w.heap.size, 3, none⟩), .slice b3 l3.length c3, undef, undef], defers := [] } W := by
  refine wpAnyH_ready (rs := [7, 8, 12]) (by kernel_rfl) (by simp) ?_
  refine AllReadyH.cons (o := ownOp7) rfl (fun K hK => ?_) ?_
  · refine step_freshO (by rfl) (Operand.tmp 7) (Operand.tmp 9) (by rfl) z1 b1 l1.length c1 l1 (by rfl) (by rfl) rfl (o1.below hS.1 (Nat.le_refl _)) n1 ?_
    intro a1 e1 W' hr hb
    have hS' := ownS_keep hS hb
    refine hK.out _ _ hS' (fun _ => ?_)
    exact owno_nd2_n n0 n1 n2 n3 o0 o1 o2 o3 hQ W' hS' z0 z1 a0 e0 m1 (t0.below hb g1) (Nat.le_trans g1 hb.size) k1 a1 e1 W'.heap.size (hr.mono g1 (Nat.le_refl _)) (Nat.le_refl _) (Nat.le_trans g1 hb.size)
  refine AllReadyH.cons (o := ownOp8) rfl (fun K hK => ?_) ?_
  · refine step_lit (by rfl) (by rfl) ?_
    intro z2 W' hb
    have hS' := ownS_keep hS hb
    refine hK.out _ _ hS' (fun _ => ?_)
    exact owno_nd1_12 n0 n1 n2 n3 o0 o1 o2 o3 hQ W' hS' z0 z1 z2 a0 e0 m1 (t0.below hb g1) (Nat.le_trans g1 hb.size) k1
  refine AllReadyH.cons (o := ownOp12) rfl (fun K hK => ?_) ?_
  · refine step_lit (by rfl) (by rfl) ?_
    intro z3 W' hb
    have hS' := ownS_keep hS hb
    refine hK.out _ _ hS' (fun _ => ?_)
    exact owno_nd1_13 n0 n1 n2 n3 o0 o1 o2 o3 hQ W' hS' z0 z1 z3 a0 e0 m1 (t0.below hb g1) (Nat.le_trans g1 hb.size) k1
  exact AllReadyH.nil

set_option maxRecDepth 20000 in
set_option maxHeartbeats 4000000 in
theorem owno_nd1_2 {b0 b1 b2 b3 : Option Addr} {c0 c1 c2 c3 : Nat} {l0 l1 l2 l3 : List (Int × Int)} {w : World} {Q : Exit → Act → World → Prop} (n0 : l0.length ≤ 1048576) (n1 : l1.length ≤ 1048576) (n2 : l2.length ≤ 1048576) (n3 : l3.length ≤ 1048576) (o0 : PRow w b0 l0) (o1 : PRow w b1 l1) (o2 : PRow w b2 l2) (o3 : PRow w b3 l3)
    (hQ : ∀ (W : World) (hS : ownS w (.slice b0 l0.length c0) (.slice b1 l1.length c1) (.slice b2 l2.length c2) (.slice b3 l3.length c3) W) (z0 z1 z2 z3 : Nat) (a0 : Option Addr) (e0 m1 : Nat) (t0 : RoomIn W (w.heap.size + 2) m1 a0 l0.length e0 l0) (g1 : m1 ≤ W.heap.size) (k1 : (w.heap.size + 2) ≤ m1) (a1 : Option Addr) (e1 m2 : Nat) (t1 : RoomIn W m1 m2 a1 l1.length e1 l1) (g2 : m2 ≤ W.heap.size) (k2 : m1 ≤ m2) (a2 : Option Addr) (e2 m3 : Nat) (t2 : RoomIn W m2 m3 a2 l2.length e2 l2) (g3 : m3 ≤ W.heap.size) (k3 : m2 ≤ m3) (a3 : Option Addr) (e3 m4 : Nat) (t3 : RoomIn W m3 m4 a3 l3.length e3 l3) (g4 : m4 ≤ W.heap.size) (k4 : m3 ≤ m4), Q .normal { tmps := #[.agg #[.slice b0 l0.length c0, .slice b1 l1.length c1, .slice b2 l2.length c2, .slice b3 l3.length c3], .pointer (some ⟨w.heap.size, 0, none⟩), .pointer (some ⟨w.heap.size + 1, 0, none⟩), .slice (some ⟨z0, 0, none⟩) 0 0, .pointer (some ⟨w.heap.size, 0, none⟩), .slice b0 l0.length c0, .slice a0 l0.length e0, .slice (some ⟨z1, 0, none⟩) 0 0, .pointer (some ⟨w.heap.size, 1, none⟩), .slice b1 l1.length c1, .slice a1 l1.length e1, .slice (some ⟨z2, 0, none⟩) 0 0, .pointer (some ⟨w.heap.size, 2, none⟩), .slice b2 l2.length c2, .slice a2 l2.length e2, .slice (some ⟨z3, 0, none⟩) 0 0, .pointer (some ⟨w.heap.size, 3, none⟩), .slice b3 l3.length c3, .slice a3 l3.length e3, .agg #[.slice a0 l0.length e0, .slice a1 l1.length e1, .slice a2 l2.length e2, .slice a3 l3.length e3]], defers := [] } ((((W.setCell ⟨w.heap.size + 1, 0, none⟩ (.slice a0 l0.length e0)).setCell ⟨w.heap.size + 1, 1, none⟩ (.slice a1 l1.length e1)).setCell ⟨w.heap.size + 1, 2, none⟩ (.slice a2 l2.length e2)).setCell ⟨w.heap.size + 1, 3, none⟩ (.slice a3 l3.length e3)))
    (W : World) (hS : ownS w (.slice b0 l0.length c0) (.slice b1 l1.length c1) (.slice b2 l2.length c2) (.slice b3 l3.length c3) W) (z0 z2 : Nat) (a0 : Option Addr) (e0 m1 : Nat) (t0 : RoomIn W (w.heap.size + 2) m1 a0 l0.length e0 l0) (g1 : m1 ≤ W.heap.size) (k1 : (w.heap.size + 2) ≤ m1) :
    wpAnyH Try.prog .any ownOps Q (ownS w (.slice b0 l0.length c0) (.slice b1 l1.length c1) (.slice b2 l2.length c2) (.slice b3 l3.length c3)) 7 #[true, true, true, true, false, true, true, false, true, true, true, false, false, true, true, false, false, false] { tmps := #[.agg #[.slice b0 l0.length c0, .slice b1 l1.length c1, .slice b2 l2.length c2, .slice b3 l3.length c3], .pointer (some ⟨w.heap.size, 0, none⟩), .pointer (some ⟨w.heap.size + 1, 0, none⟩), .slice (some ⟨z0, 0, none⟩) 0 0, .pointer (some ⟨w.heap.size, 0, none⟩), .slice b0 l0.length c0, .slice a0 l0.length e0, undef, .pointer (some ⟨w.heap.size, 1, none⟩), .slice b1 l1.length c1, undef, .slice (some ⟨z2, 0, none⟩) 0 0, .pointer (some ⟨w.heap.size, 2, none⟩), .slice b2 l2.length c2, undef, undef, .pointer (some ⟨w.heap.size, 3, none⟩), .slice b3 l3.length c3, undef, undef], defers := [] } W := by
  refine wpAnyH_ready (rs := [4, 12]) (by kernel_rfl) (by simp) ?_
  refine AllReadyH.cons (o := ownOp4) rfl (fun K hK => ?_) ?_
  · refine step_lit (by rfl) (by rfl) ?_
    intro z1 W' hb
    have hS' := ownS_keep hS hb
    refine hK.out _ _ hS' (fun _ => ?_)
    exact owno_nd1_12 n0 n1 n2 n3 o0 o1 o2 o3 hQ W' hS' z0 z1 z2 a0 e0 m1 (t0.below hb g1) (Nat.le_trans g1 hb.size) k1
  refine AllReadyH.cons (o := ownOp12) rfl (fun K hK => ?_) ?_
  · refine step_lit (by rfl) (by rfl) ?_
    intro z3 W' hb
    have hS' := ownS_keep hS hb
    refine hK.out _ _ hS' (fun _ => ?_)
    exact owno_nd1_23 n0 n1 n2 n3 o0 o1 o2 o3 hQ W' hS' z0 z2 z3 a0 e0 m1 (t0.below hb g1) (Nat.le_trans g1 hb.size) k1
  exact AllReadyH.nil

set_option maxRecDepth 20000 in
set_option maxHeartbeats 4000000 in
theorem owno_nd1_3 {b0 b1 b2 b3 : Option Addr} {c0 c1 c2 c3 : Nat} {l0 l1 l2 l3 : List (Int × Int)} {w : World} {Q : Exit → Act → World → Prop} (n0 : l0.length ≤ 1048576) (n1 : l1.length ≤ 1048576) (n2 : l2.length ≤ 1048576) (n3 : l3.length ≤ 1048576) (o0 : PRow w b0 l0) (o1 : PRow w b1 l1) (o2 : PRow w b2 l2) (o3 : PRow w b3 l3)
    (hQ : ∀ (W : World) (hS : ownS w (.slice b0 l0.length c0) (.slice b1 l1.length c1) (.slice b2 l2.length c2) (.slice b3 l3.length c3) W) (z0 z1 z2 z3 : Nat) (a0 : Option Addr) (e0 m1 : Nat) (t0 : RoomIn W (w.heap.size + 2) m1 a0 l0.length e0 l0) (g1 : m1 ≤ W.heap.size) (k1 : (w.heap.size + 2) ≤ m1) (a1 : Option Addr) (e1 m2 : Nat) (t1 : RoomIn W m1 m2 a1 l1.length e1 l1) (g2 : m2 ≤ W.heap.size) (k2 : m1 ≤ m2) (a2 : Option Addr) (e2 m3 : Nat) (t2 : RoomIn W m2 m3 a2 l2.length e2 l2) (g3 : m3 ≤ W.heap.size) (k3 : m2 ≤ m3) (a3 : Option Addr) (e3 m4 : Nat) (t3 : RoomIn W m3 m4 a3 l3.length e3 l3) (g4 : m4 ≤ W.heap.size) (k4 : m3 ≤ m4), Q .normal { tmps := #[.agg #[.slice b0 l0.length c0, .slice b1 l1.length c1, .slice b2 l2.length c2, .slice b3 l3.length c3], .pointer (some ⟨w.heap.size, 0, none⟩), .pointer (some ⟨w.heap.size + 1, 0, none⟩), .slice (some ⟨z0, 0, none⟩) 0 0, .pointer (some ⟨w.heap.size, 0, none⟩), .slice b0 l0.length c0, .slice a0 l0.length e0, .slice (some ⟨z1, 0, none⟩) 0 0, .pointer (some ⟨w.heap.size, 1, none⟩), .slice b1 l1.length c1, .slice a1 l1.length e1, .slice (some ⟨z2, 0, none⟩) 0 0, .pointer (some ⟨w.heap.size, 2, none⟩), .slice b2 l2.length c2, .slice a2 l2.length e2, .slice (some ⟨z3, 0, none⟩) 0 0, .pointer (some ⟨w.heap.size, 3, none⟩), .slice b3 l3.length c3, .slice a3 l3.length e3, .agg #[.slice a0 l0.length e0, .slice a1 l1.length e1, .slice a2 l2.length e2, .slice a3 l3.length e3]], defers := [] } ((((W.setCell ⟨w.heap.size + 1, 0, none⟩ (.slice a0 l0.length e0)).setCell ⟨w.heap.size + 1, 1, none⟩ (.slice a1 l1.length e1)).setCell ⟨w.heap.size + 1, 2, none⟩ (.slice a2 l2.length e2)).setCell ⟨w.heap.size + 1, 3, none⟩ (.slice a3 l3.length e3)))
    (W : World) (hS : ownS w (.slice b0 l0.length c0) (.slice b1 l1.length c1) (.slice b2 l2.length c2) (.slice b3 l3.length c3) W) (z0 z3 : Nat) (a0 : Option Addr) (e0 m1 : Nat) (t0 : RoomIn W (w.heap.size + 2) m1 a0 l0.length e0 l0) (g1 : m1 ≤ W.heap.size) (k1 : (w.heap.size + 2) ≤ m1) :
    wpAnyH Try.prog .any ownOps Q (ownS w (.slice b0 l0.length c0) (.slice b1 l1.length c1) (.slice b2 l2.length c2) (.slice b3 l3.length c3)) 7 #[true, true, true, true, false, true, true, false, false, true, true, false, true, true, true, false, false, false] { tmps := #[.agg #[.slice b0 l0.length c0, .slice b1 l1.length c1, .slice b2 l2.length c2, .slice b3 l3.length c3], .pointer (some ⟨w.heap.size, 0, none⟩), .pointer (some ⟨w.heap.size + 1, 0, none⟩), .slice (some ⟨z0, 0, none⟩) 0 0, .pointer (some ⟨w.heap.size, 0, none⟩), .slice b0 l0.length c0, .slice a0 l0.length e0, undef, .pointer (some ⟨w.heap.size, 1, none⟩), .slice b1 l1.length c1, undef, undef, .pointer (some ⟨w.heap.size, 2, none⟩), .slice b2 l2.length c2, undef, .slice (some ⟨z3, 0, none⟩) 0 0, .pointer (some ⟨w.heap.size, 3, none⟩), .slice b3 l3.length c3, undef, undef], defers := [] } W := by
  refine wpAnyH_ready (rs := [4, 8]) (by kernel_rfl) (by simp) ?_
  refine AllReadyH.cons (o := ownOp4) rfl (fun K hK => ?_) ?_
  · refine step_lit (by rfl) (by rfl) ?_
    intro z1 W' hb
    have hS' := ownS_keep hS hb
    refine hK.out _ _ hS' (fun _ => ?_)
    exact owno_nd1_13 n0 n1 n2 n3 o0 o1 o2 o3 hQ W' hS' z0 z1 z3 a0 e0 m1 (t0.below hb g1) (Nat.le_trans g1 hb.size) k1
  refine AllReadyH.cons (o := ownOp8) rfl (fun K hK => ?_) ?_
  · refine step_lit (by rfl) (by rfl) ?_
    intro z2 W' hb
    have hS' := ownS_keep hS hb
    refine hK.out _ _ hS' (fun _ => ?_)
    exact owno_nd1_23 n0 n1 n2 n3 o0 o1 o2 o3 hQ W' hS' z0 z2 z3 a0 e0 m1 (t0.below hb g1) (Nat.le_trans g1 hb.size) k1
  exact AllReadyH.nil

set_option maxRecDepth 20000 in
set_option maxHeartbeats 4000000 in
theorem owno_nd1_n {b0 b1 b2 b3 : Option Addr} {c0 c1 c2 c3 : Nat} {l0 l1 l2 l3 : List (Int × Int)} {w : World} {Q : Exit → Act → World → Prop} (n0 : l0.length ≤ 1048576) (n1 : l1.length ≤ 1048576) (n2 : l2.length ≤ 1048576) (n3 : l3.length ≤ 1048576) (o0 : PRow w b0 l0) (o1 : PRow w b1 l1) (o2 : PRow w b2 l2) (o3 : PRow w b3 l3)
    (hQ : ∀ (W : World) (hS : ownS w (.slice b0 l0.length c0) (.slice b1 l1.length c1) (.slice b2 l2.length c2) (.slice b3 l3.length c3) W) (z0 z1 z2 z3 : Nat) (a0 : Option Addr) (e0 m1 : Nat) (t0 : RoomIn W (w.heap.size + 2) m1 a0 l0.length e0 l0) (g1 : m1 ≤ W.heap.size) (k1 : (w.heap.size + 2) ≤ m1) (a1 : Option Addr) (e1 m2 : Nat) (t1 : RoomIn W m1 m2 a1 l1.length e1 l1) (g2 : m2 ≤ W.heap.size) (k2 : m1 ≤ m2) (a2 : Option Addr) (e2 m3 : Nat) (t2 : RoomIn W m2 m3 a2 l2.length e2 l2) (g3 : m3 ≤ W.heap.size) (k3 : m2 ≤ m3) (a3 : Option Addr) (e3 m4 : Nat) (t3 : RoomIn W m3 m4 a3 l3.length e3 l3) (g4 : m4 ≤ W.heap.size) (k4 : m3 ≤ m4), Q .normal { tmps := #[.agg #[.slice b0 l0.length c0, .slice b1 l1.length c1, .slice b2 l2.length c2, .slice b3 l3.length c3], .pointer (some ⟨w.heap.size, 0, none⟩), .pointer (some ⟨w.heap.size + 1, 0, none⟩), .slice (some ⟨z0, 0, none⟩) 0 0, .pointer (some ⟨w.heap.size, 0, none⟩), .slice b0 l0.length c0, .slice a0 l0.length e0, .slice (some ⟨z1, 0, none⟩) 0 0, .pointer (some ⟨w.heap.size, 1, none⟩), .slice b1 l1.length c1, .slice a1 l1.length e1, .slice (some ⟨z2, 0, none⟩) 0 0, .pointer (some ⟨w.heap.size, 2, none⟩), .slice b2 l2.length c2, .slice a2 l2.length e2, .slice (some ⟨z3, 0, none⟩) 0 0, .pointer (some ⟨w.heap.size, 3, none⟩), .slice b3 l3.length c3, .slice a3 l3.length e3, .agg #[.slice a0 l0.length e0, .slice a1 l1.length e1, .slice a2 l2.length e2, .slice a3 l3.length e3]], defers := [] } ((((W.setCell ⟨w.heap.size + 1, 0, none⟩ (.slice a0 l0.length e0)).setCell ⟨w.heap.size + 1, 1, none⟩ (.slice a1 l1.length e1)).setCell ⟨w.heap.size + 1, 2, none⟩ (.slice a2 l2.length e2)).setCell ⟨w.heap.size + 1, 3, none⟩ (.slice a3 l3.length e3)))
    (W : World) (hS : ownS w (.slice b0 l0.length c0) (.slice b1 l1.length c1) (.slice b2 l2.length c2) (.slice b3 l3.length c3) W) (z0 : Nat) (a0 : Option Addr) (e0 m1 : Nat) (t0 : RoomIn W (w.heap.size + 2) m1 a0 l0.length e0 l0) (g1 : m1 ≤ W.heap.size) (k1 : (w.heap.size + 2) ≤ m1) :
    wpAnyH Try.prog .any ownOps Q (ownS w (.slice b0 l0.length c0) (.slice b1 l1.length c1) (.slice b2 l2.length c2) (.slice b3 l3.length c3)) 8 #[true, true, true, true, false, true, true, false, false, true, true, false, false, true, true, false, false, false] { tmps := #[.agg #[.slice b0 l0.length c0, .slice b1 l1.length c1, .slice b2 l2.length c2, .slice b3 l3.length c3], .pointer (some ⟨w.heap.size, 0, none⟩), .pointer (some ⟨w.heap.size + 1, 0, none⟩), .slice (some ⟨z0, 0, none⟩) 0 0, .pointer (some ⟨w.heap.size, 0, none⟩), .slice b0 l0.length c0, .slice a0 l0.length e0, undef, .pointer (some ⟨w.heap.size, 1, none⟩), .slice b1 l1.length c1, undef, undef, .pointer (some ⟨w.heap.size, 2, none⟩), .slice b2 l2.length c2, undef, undef, .pointer (some ⟨w.heap.size, 3, none⟩), .slice b3 l3.length c3, undef, undef], defers := [] } W := by
  refine wpAnyH_ready (rs := [4, 8, 12]) (by kernel_rfl) (by simp) ?_
  refine AllReadyH.cons (o := ownOp4) rfl (fun K hK => ?_) ?_
  · refine step_lit (by rfl) (by rfl) ?_
    intro z1 W' hb
    have hS' := ownS_keep hS hb
    refine hK.out _ _ hS' (fun _ => ?_)
    exact owno_nd1_1 n0 n1 n2 n3 o0 o1 o2 o3 hQ W' hS' z0 z1 a0 e0 m1 (t0.below hb g1) (Nat.le_trans g1 hb.size) k1
  refine AllReadyH.cons (o := ownOp8) rfl (fun K hK => ?_) ?_
  · refine step_lit (by rfl) (by rfl) ?_
    intro z2 W' hb
    have hS' := ownS_keep hS hb
    refine hK.out _ _ hS' (fun _ => ?_)
    exact owno_nd1_2 n0 n1 n2 n3 o0 o1 o2 o3 hQ W' hS' z0 z2 a0 e0 m1 (t0.below hb g1) (Nat.le_trans g1 hb.size) k1
  refine AllReadyH.cons (o := ownOp12) rfl (fun K hK => ?_) ?_
  · refine step_lit (by rfl) (by rfl) ?_
    intro z3 W' hb
    have hS' := ownS_keep hS hb
    refine hK.out _ _ hS' (fun _ => ?_)
    exact owno_nd1_3 n0 n1 n2 n3 o0 o1 o2 o3 hQ W' hS' z0 z3 a0 e0 m1 (t0.below hb g1) (Nat.le_trans g1 hb.size) k1
  exact AllReadyH.nil

set_option maxRecDepth 20000 in
set_option maxHeartbeats 4000000 in
theorem owno_nd0_0123 {b0 b1 b2 b3 : Option Addr} {c0 c1 c2 c3 : Nat} {l0 l1 l2 l3 : List (Int × Int)} {w : World} {Q : Exit → Act → World → Prop} (n0 : l0.length ≤ 1048576) (n1 : l1.length ≤ 1048576) (n2 : l2.length ≤ 1048576) (n3 : l3.length ≤ 1048576) (o0 : PRow w b0 l0) (o1 : PRow w b1 l1) (o2 : PRow w b2 l2) (o3 : PRow w b3 l3)
    (hQ : ∀ (W : World) (hS : ownS w (.slice b0 l0.length c0) (.slice b1 l1.length c1) (.slice b2 l2.length c2) (.slice b3 l3.length c3) W) (z0 z1 z2 z3 : Nat) (a0 : Option Addr) (e0 m1 : Nat) (t0 : RoomIn W (w.heap.size + 2) m1 a0 l0.length e0 l0) (g1 : m1 ≤ W.heap.size) (k1 : (w.heap.size + 2) ≤ m1) (a1 : Option Addr) (e1 m2 : Nat) (t1 : RoomIn W m1 m2 a1 l1.length e1 l1) (g2 : m2 ≤ W.heap.size) (k2 : m1 ≤ m2) (a2 : Option Addr) (e2 m3 : Nat) (t2 : RoomIn W m2 m3 a2 l2.length e2 l2) (g3 : m3 ≤ W.heap.size) (k3 : m2 ≤ m3) (a3 : Option Addr) (e3 m4 : Nat) (t3 : RoomIn W m3 m4 a3 l3.length e3 l3) (g4 : m4 ≤ W.heap.size) (k4 : m3 ≤ m4), Q .normal { tmps := #[.agg #[.slice b0 l0.length c0, .slice b1 l1.length c1, .slice b2 l2.length c2, .slice b3 l3.length c3], .pointer (some ⟨w.heap.size, 0, none⟩), .pointer (some ⟨w.heap.size + 1, 0, none⟩), .slice (some ⟨z0, 0, none⟩) 0 0, .pointer (some ⟨w.heap.size, 0, none⟩), .slice b0 l0.length c0, .slice a0 l0.length e0, .slice (some ⟨z1, 0, none⟩) 0 0, .pointer (some ⟨w.heap.size, 1, none⟩), .slice b1 l1.length c1, .slice a1 l1.length e1, .slice (some ⟨z2, 0, none⟩) 0 0, .pointer (some ⟨w.heap.size, 2, none⟩), .slice b2 l2.length c2, .slice a2 l2.length e2, .slice (some ⟨z3, 0, none⟩) 0 0, .pointer (some ⟨w.heap.size, 3, none⟩), .slice b3 l3.length c3, .slice a3 l3.length e3, .agg #[.slice a0 l0.length e0, .slice a1 l1.length e1, .slice a2 l2.length e2, .slice a3 l3.length e3]], defers := [] } ((((W.setCell ⟨w.heap.size + 1, 0, none⟩ (.slice a0 l0.length e0)).setCell ⟨w.heap.size + 1, 1, none⟩ (.slice a1 l1.length e1)).setCell ⟨w.heap.size + 1, 2, none⟩ (.slice a2 l2.length e2)).setCell ⟨w.heap.size + 1, 3, none⟩ (.slice a3 l3.length e3)))
    (W : World) (hS : ownS w (.slice b0 l0.length c0) (.slice b1 l1.length c1) (.slice b2 l2.length c2) (.slice b3 l3.length c3) W) (z0 z1 z2 z3 : Nat) :
    wpAnyH Try.prog .any ownOps Q (ownS w (.slice b0 l0.length c0) (.slice b1 l1.length c1) (.slice b2 l2.length c2) (.slice b3 l3.length c3)) 6 #[true, true, true, false, true, true, true, false, true, true, true, false, true, true, true, false, false, false] { tmps := #[.agg #[.slice b0 l0.length c0, .slice b1 l1.length c1, .slice b2 l2.length c2, .slice b3 l3.length c3], .pointer (some ⟨w.heap.size, 0, none⟩), .pointer (some ⟨w.heap.size + 1, 0, none⟩), .slice (some ⟨z0, 0, none⟩) 0 0, .pointer (some ⟨w.heap.size, 0, none⟩), .slice b0 l0.length c0, undef, .slice (some ⟨z1, 0, none⟩) 0 0, .pointer (some ⟨w.heap.size, 1, none⟩), .slice b1 l1.length c1, undef, .slice (some ⟨z2, 0, none⟩) 0 0, .pointer (some ⟨w.heap.size, 2, none⟩), .slice b2 l2.length c2, undef, .slice (some ⟨z3, 0, none⟩) 0 0, .pointer (some ⟨w.heap.size, 3, none⟩), .slice b3 l3.length c3, undef, undef], defers := [] } W := by
  refine wpAnyH_ready (rs := [3]) (by kernel_rfl) (by simp) ?_
  refine AllReadyH.cons (o := ownOp3) rfl (fun K hK => ?_) ?_
  · refine step_freshO (by rfl) (Operand.tmp 3) (Operand.tmp 5) (by rfl) z0 b0 l0.length c0 l0 (by rfl) (by rfl) rfl (o0.below hS.1 (Nat.le_refl _)) n0 ?_
    intro a0 e0 W' hr hb
    have hS' := ownS_keep hS hb
    refine hK.out _ _ hS' (fun _ => ?_)
    exact owno_nd1_123 n0 n1 n2 n3 o0 o1 o2 o3 hQ W' hS' z0 z1 z2 z3  a0 e0 W'.heap.size (hr.mono (ownS_ge hS) (Nat.le_refl _)) (Nat.le_refl _) (Nat.le_trans (ownS_ge hS) hb.size)
  exact AllReadyH.nil

set_option maxRecDepth 20000 in
set_option maxHeartbeats 4000000 in
theorem owno_nd0_012 {b0 b1 b2 b3 : Option Addr} {c0 c1 c2 c3 : Nat} {l0 l1 l2 l3 : List (Int × Int)} {w : World} {Q : Exit → Act → World → Prop} (n0 : l0.length ≤ 1048576) (n1 : l1.length ≤ 1048576) (n2 : l2.length ≤ 1048576) (n3 : l3.length ≤ 1048576) (o0 : PRow w b0 l0) (o1 : PRow w b1 l1) (o2 : PRow w b2 l2) (o3 : PRow w b3 l3)
    (hQ : ∀ (W : World) (hS : ownS w (.slice b0 l0.length c0) (.slice b1 l1.length c1) (.slice b2 l2.length c2) (.slice b3 l3.length c3) W) (z0 z1 z2 z3 : Nat) (a0 : Option Addr) (e0 m1 : Nat) (t0 : RoomIn W (w.heap.size + 2) m1 a0 l0.length e0 l0) (g1 : m1 ≤ W.heap.size) (k1 : (w.heap.size + 2) ≤ m1) (a1 : Option Addr) (e1 m2 : Nat) (t1 : RoomIn W m1 m2 a1 l1.length e1 l1) (g2 : m2 ≤ W.heap.size) (k2 : m1 ≤ m2) (a2 : Option Addr) (e2 m3 : Nat) (t2 : RoomIn W m2 m3 a2 l2.length e2 l2) (g3 : m3 ≤ W.heap.size) (k3 : m2 ≤ m3) (a3 : Option Addr) (e3 m4 : Nat) (t3 : RoomIn W m3 m4 a3 l3.length e3 l3) (g4 : m4 ≤ W.heap.size) (k4 : m3 ≤ m4), Q .normal { tmps := #[.agg #[.slice b0 l0.length c0, .slice b1 l1.length c1, .slice b2 l2.length c2, .slice b3 l3.length c3], .pointer (some ⟨w.heap.size, 0, none⟩), .pointer (some ⟨w.heap.size + 1, 0, none⟩), .slice (some ⟨z0, 0, none⟩) 0 0, .pointer (some ⟨w.heap.size, 0, none⟩), .slice b0 l0.length c0, .slice a0 l0.length e0, .slice (some ⟨z1, 0, none⟩) 0 0, .pointer (some ⟨w.heap.size, 1, none⟩), .slice b1 l1.length c1, .slice a1 l1.length e1, .slice (some ⟨z2, 0, none⟩) 0 0, .pointer (some ⟨w.heap.size, 2, none⟩), .slice b2 l2.length c2, .slice a2 l2.length e2, .slice (some ⟨z3, 0, none⟩) 0 0, .pointer (some ⟨w.heap.size, 3, none⟩), .slice b3 l3.length c3, .slice a3 l3.length e3, .agg #[.slice a0 l0.length e0, .slice a1 l1.length e1, .slice a2 l2.length e2, .slice a3 l3.length e3]], defers := [] } ((((W.setCell ⟨w.heap.size + 1, 0, none⟩ (.slice a0 l0.length e0)).setCell ⟨w.heap.size + 1, 1, none⟩ (.slice a1 l1.length e1)).setCell ⟨w.heap.size + 1, 2, none⟩ (.slice a2 l2.length e2)).setCell ⟨w.heap.size + 1, 3, none⟩ (.slice a3 l3.length e3)))
    (W : World) (hS : ownS w (.slice b0 l0.length c0) (.slice b1 l1.length c1) (.slice b2 l2.length c2) (.slice b3 l3.length c3) W) (z0 z1 z2 : Nat) :
    wpAnyH Try.prog .any ownOps Q (ownS w (.slice b0 l0.length c0) (.slice b1 l1.length c1) (.slice b2 l2.length c2) (.slice b3 l3.length c3)) 7 #[true, true, true, false, true, true, true, false, true, true, true, false, false, true, true, false, false, false] { tmps := #[.agg #[.slice b0 l0.length c0, .slice b1 l1.length c1, .slice b2 l2.length c2, .slice b3 l3.length c3], .pointer (some ⟨w.heap.size, 0, none⟩), .pointer (some ⟨w.heap.size + 1, 0, none⟩), .slice (some ⟨z0, 0, none⟩) 0 0, .pointer (some ⟨w.heap.size, 0, none⟩), .slice b0 l0.length c0, undef, .slice (some ⟨z1, 0, none⟩) 0 0, .pointer (some ⟨w.heap.size, 1, none⟩), .slice b1 l1.length c1, undef, .slice (some ⟨z2, 0, none⟩) 0 0, .pointer (some ⟨w.heap.size, 2, none⟩), .slice b2 l2.length c2, undef, undef, .pointer (some ⟨w.heap.size, 3, none⟩), .slice b3 l3.length c3, undef, undef], defers := [] } W := by
  refine wpAnyH_ready (rs := [3, 12]) (by kernel_rfl) (by simp) ?_
  refine AllReadyH.cons (o := ownOp3) rfl (fun K hK => ?_) ?_
  · refine step_freshO (by rfl) (Operand.tmp 3) (Operand.tmp 5) (by rfl) z0 b0 l0.length c0 l0 (by rfl) (by rfl) rfl (o0.below hS.1 (Nat.le_refl _)) n0 ?_
    intro a0 e0 W' hr hb
    have hS' := ownS_keep hS hb
    refine hK.out _ _ hS' (fun _ => ?_)
    exact owno_nd1_12 n0 n1 n2 n3 o0 o1 o2 o3 hQ W' hS' z0 z1 z2  a0 e0 W'.heap.size (hr.mono (ownS_ge hS) (Nat.le_refl _)) (Nat.le_refl _) (Nat.le_trans (ownS_ge hS) hb.size)
  refine AllReadyH.cons (o := ownOp12) rfl (fun K hK => ?_) ?_
  · refine step_lit (by rfl) (by rfl) ?_
    intro z3 W' hb
    have hS' := ownS_keep hS hb
    refine hK.out _ _ hS' (fun _ => ?_)
    exact owno_nd0_0123 n0 n1 n2 n3 o0 o1 o2 o3 hQ W' hS' z0 z1 z2 z3 
  exact AllReadyH.nil

set_option maxRecDepth 20000 in
set_option maxHeartbeats 4000000 in
theorem owno_nd0_013 {b0 b1 b2 b3 : Option Addr} {c0 c1 c2 c3 : Nat} {l0 l1 l2 l3 : List (Int × Int)} {w : World} {Q : Exit → Act → World → Prop} (n0 : l0.length ≤ 1048576) (n1 : l1.length ≤ 1048576) (n2 : l2.length ≤ 1048576) (n3 : l3.length ≤ 1048576) (o0 : PRow w b0 l0) (o1 : PRow w b1 l1) (o2 : PRow w b2 l2) (o3 : PRow w b3 l3)
    (hQ : ∀ (W : World) (hS : ownS w (.slice b0 l0.length c0) (.slice b1 l1.length c1) (.slice b2 l2.length c2) (.slice b3 l3.length c3) W) (z0 z1 z2 z3 : Nat) (a0 : Option Addr) (e0 m1 : Nat) (t0 : RoomIn W (w.heap.size + 2) m1 a0 l0.length e0 l0) (g1 : m1 ≤ W.heap.size) (k1 : (w.heap.size + 2) ≤ m1) (a1 : Option Addr) (e1 m2 : Nat) (t1 : RoomIn W m1 m2 a1 l1.length e1 l1) (g2 : m2 ≤ W.heap.size) (k2 : m1 ≤ m2) (a2 : Option Addr) (e2 m3 : Nat) (t2 : RoomIn W m2 m3 a2 l2.length e2 l2) (g3 : m3 ≤ W.heap.size) (k3 : m2 ≤ m3) (a3 : Option Addr) (e3 m4 : Nat) (t3 : RoomIn W m3 m4 a3 l3.length e3 l3) (g4 : m4 ≤ W.heap.size) (k4 : m3 ≤ m4), Q .normal { tmps := #[.agg #[.slice b0 l0.length c0, .slice b1 l1.length c1, .slice b2 l2.length c2, .slice b3 l3.length c3], .pointer (some ⟨w.heap.size, 0, none⟩), .pointer (some ⟨w.heap.size + 1, 0, none⟩), .slice (some ⟨z0, 0, none⟩) 0 0, .pointer (some ⟨w.heap.size, 0, none⟩), .slice b0 l0.length c0, .slice a0 l0.length e0, .slice (some ⟨z1, 0, none⟩) 0 0, .pointer (some ⟨w.heap.size, 1, none⟩), .slice b1 l1.length c1, .slice a1 l1.length e1, .slice (some ⟨z2, 0, none⟩) 0 0, .pointer (some ⟨w.heap.size, 2, none⟩), .slice b2 l2.length c2, .slice a2 l2.length e2, .slice (some ⟨z3, 0, none⟩) 0 0, .pointer (some ⟨w.heap.size, 3, none⟩), .slice b3 l3.length c3, .slice a3 l3.length e3, .agg #[.slice a0 l0.length e0, .slice a1 l1.length e1, .slice a2 l2.length e2, .slice a3 l3.length e3]], defers := [] } ((((W.setCell ⟨w.heap.size + 1, 0, none⟩ (.slice a0 l0.length e0)).setCell ⟨w.heap.size + 1, 1, none⟩ (.slice a1 l1.length e1)).setCell ⟨w.heap.size + 1, 2, none⟩ (.slice a2 l2.length e2)).setCell ⟨w.heap.size + 1, 3, none⟩ (.slice a3 l3.length e3)))
    (W : World) (hS : ownS w (.slice b0 l0.length c0) (.slice b1 l1.length c1) (.slice b2 l2.length c2) (.slice b3 l3.length c3) W) (z0 z1 z3 : Nat) :
    wpAnyH Try.prog .any ownOps Q (ownS w (.slice b0 l0.length c0) (.slice b1 l1.length c1) (.slice b2 l2.length c2) (.slice b3 l3.length c3)) 7 #[true, true, true, false, true, true, true, false, false, true, true, false, true, true, true, false, false, false] { tmps := #[.agg #[.slice b0 l0.length c0, .slice b1 l1.length c1, .slice b2 l2.length c2, .slice b3 l3.length c3], .pointer (some ⟨w.heap.size, 0, none⟩), .pointer (some ⟨w.heap.size + 1, 0, none⟩), .slice (some ⟨z0, 0, none⟩) 0 0, .pointer (some ⟨w.heap.size, 0, none⟩), .slice b0 l0.length c0, undef, .slice (some ⟨z1, 0, none⟩) 0 0, .pointer (some ⟨w.heap.size, 1, none⟩), .slice b1 l1.length c1, undef, undef, .pointer (some ⟨w.heap.size, 2, none⟩), .slice b2 l2.length c2, undef, .slice (some ⟨z3, 0, none⟩) 0 0, .pointer (some ⟨w.heap.size, 3, none⟩), .slice b3 l3.length c3, undef, undef], defers := [] } W := by
  refine wpAnyH_ready (rs := [3, 8]) (by kernel_rfl) (by simp) ?_
  refine AllReadyH.cons (o := ownOp3) rfl (fun K hK => ?_) ?_
  · refine step_freshO (by rfl) (Operand.tmp 3) (Operand.tmp 5) (by rfl) z0 b0 l0.length c0 l0 (by rfl) (by rfl) rfl (o0.below hS.1 (Nat.le_refl _)) n0 ?_
    intro a0 e0 W' hr hb
    have hS' := ownS_keep hS hb
    refine hK.out _ _ hS' (fun _ => ?_)
    exact owno_nd1_13 n0 n1 n2 n3 o0 o1 o2 o3 hQ W' hS' z0 z1 z3  a0 e0 W'.heap.size (hr.mono (ownS_ge hS) (Nat.le_refl _)) (Nat.le_refl _) (Nat.le_trans (ownS_ge hS) hb.size)
  refine AllReadyH.cons (o := ownOp8) rfl (fun K hK => ?_) ?_
  · refine step_lit (by rfl) (by rfl) ?_
    intro z2 W' hb
    have hS' := ownS_keep hS hb
    refine hK.out _ _ hS' (fun _ => ?_)
    exact owno_nd0_0123 n0 n1 n2 n3 o0 o1 o2 o3 hQ W' hS' z0 z1 z2 z3 
  exact AllReadyH.nil

set_option maxRecDepth 20000 in
set_option maxHeartbeats 4000000 in
theorem owno_nd0_023 {b0 b1 b2 b3 : Option Addr} {c0 c1 c2 c3 : Nat} {l0 l1 l2 l3 : List (Int × Int)} {w : World} {Q : Exit → Act → World → Prop} (n0 : l0.length ≤ 1048576) (n1 : l1.length ≤ 1048576) (n2 : l2.length ≤ 1048576) (n3 : l3.length ≤ 1048576) (o0 : PRow w b0 l0) (o1 : PRow w b1 l1) (o2 : PRow w b2 l2) (o3 : PRow w b3 l3)
    (hQ : ∀ (W : World) (hS : ownS w (.slice b0 l0.length c0) (.slice b1 l1.length c1) (.slice b2 l2.length c2) (.slice b3 l3.length c3) W) (z0 z1 z2 z3 : Nat) (a0 : Option Addr) (e0 m1 : Nat) (t0 : RoomIn W (w.heap.size + 2) m1 a0 l0.length e0 l0) (g1 : m1 ≤ W.heap.size) (k1 : (w.heap.size + 2) ≤ m1) (a1 : Option Addr) (e1 m2 : Nat) (t1 : RoomIn W m1 m2 a1 l1.length e1 l1) (g2 : m2 ≤ W.heap.size) (k2 : m1 ≤ m2) (a2 : Option Addr) (e2 m3 : Nat) (t2 : RoomIn W m2 m3 a2 l2.length e2 l2) (g3 : m3 ≤ W.heap.size) (k3 : m2 ≤ m3) (a3 : Option Addr) (e3 m4 : Nat) (t3 : RoomIn W m3 m4 a3 l3.length e3 l3) (g4 : m4 ≤ W.heap.size) (k4 : m3 ≤ m4), Q .normal { tmps := #[.agg #[.slice b0 l0.length c0, .slice b1 l1.length c1, .slice b2 l2.length c2, .slice b3 l3.length c3], .pointer (some ⟨w.heap.size, 0, none⟩), .pointer (some ⟨w.heap.size + 1, 0, none⟩), .slice (some ⟨z0, 0, none⟩) 0 0, .pointer (some ⟨w.heap.size, 0, none⟩), .slice b0 l0.length c0, .slice a0 l0.length e0, .slice (some ⟨z1, 0, none⟩) 0 0, .pointer (some ⟨w.heap.size, 1, none⟩), .slice b1 l1.length c1, .slice a1 l1.length e1, .slice (some ⟨z2, 0, none⟩) 0 0, .pointer (some ⟨w.heap.size, 2, none⟩), .slice b2 l2.length c2, .slice a2 l2.length e2, .slice (some ⟨z3, 0, none⟩) 0 0, .pointer (some ⟨w.heap.size, 3, none⟩), .slice b3 l3.length c3, .slice a3 l3.length e3, .agg #[.slice a0 l0.length e0, .slice a1 l1.length e1, .slice a2 l2.length e2, .slice a3 l3.length e3]], defers := [] } ((((W.setCell ⟨w.heap.size + 1, 0, none⟩ (.slice a0 l0.length e0)).setCell ⟨w.heap.size + 1, 1, none⟩ (.slice a1 l1.length e1)).setCell ⟨w.heap.size + 1, 2, none⟩ (.slice a2 l2.length e2)).setCell ⟨w.heap.size + 1, 3, none⟩ (.slice a3 l3.length e3)))
    (W : World) (hS : ownS w (.slice b0 l0.length c0) (.slice b1 l1.length c1) (.slice b2 l2.length c2) (.slice b3 l3.length c3) W) (z0 z2 z3 : Nat) :
    wpAnyH Try.prog .any ownOps Q (ownS w (.slice b0 l0.length c0) (.slice b1 l1.length c1) (.slice b2 l2.length c2) (.slice b3 l3.length c3)) 7 #[true, true, true, false, false, true, true, false, true, true, true, false, true, true, true, false, false, false] { tmps := #[.agg #[.slice b0 l0.length c0, .slice b1 l1.length c1, .slice b2 l2.length c2, .slice b3 l3.length c3], .pointer (some ⟨w.heap.size, 0, none⟩), .pointer (some ⟨w.heap.size + 1, 0, none⟩), .slice (some ⟨z0, 0, none⟩) 0 0, .pointer (some ⟨w.heap.size, 0, none⟩), .slice b0 l0.length c0, undef, undef, .pointer (some ⟨w.heap.size, 1, none⟩), .slice b1 l1.length c1, undef, .slice (some ⟨z2, 0, none⟩) 0 0, .pointer (some ⟨w.heap.size, 2, none⟩), .slice b2 l2.length c2, undef, .slice (some ⟨z3, 0, none⟩) 0 0, .pointer (some ⟨w.heap.size, 3, none⟩), .slice b3 l3.length c3, undef, undef], defers := [] } W := by
  refine wpAnyH_ready (rs := [3, 4]) (by kernel_rfl) (by simp) ?_
  refine AllReadyH.cons (o := ownOp3) rfl (fun K hK => ?_) ?_
  · refine step_freshO (by rfl) (Operand.tmp 3) (Operand.tmp 5) (by rfl) z0 b0 l0.length c0 l0 (by rfl) (by rfl) rfl (o0.below hS.1 (Nat.le_refl _)) n0 ?_
    intro a0 e0 W' hr hb
    have hS' := ownS_keep hS hb
    refine hK.out _ _ hS' (fun _ => ?_)
    exact owno_nd1_23 n0 n1 n2 n3 o0 o1 o2 o3 hQ W' hS' z0 z2 z3  a0 e0 W'.heap.size (hr.mono (ownS_ge hS) (Nat.le_refl _)) (Nat.le_refl _) (Nat.le_trans (ownS_ge hS) hb.size)
  refine AllReadyH.cons (o := ownOp4) rfl (fun K hK => ?_) ?_
  · refine step_lit (by rfl) (by rfl) ?_
    intro z1 W' hb
    have hS' := ownS_keep hS hb
    refine hK.out _ _ hS' (fun _ => ?_)
    exact owno_nd0_0123 n0 n1 n2 n3 o0 o1 o2 o3 hQ W' hS' z0 z1 z2 z3 
  exact AllReadyH.nil

set_option maxRecDepth 20000 in
set_option maxHeartbeats 4000000 in
theorem owno_nd0_123 {b0 b1 b2 b3 : Option Addr} {c0 c1 c2 c3 : Nat} {l0 l1 l2 l3 : List (Int × Int)} {w : World} {Q : Exit → Act → World → Prop} (n0 : l0.length ≤ 1048576) (n1 : l1.length ≤ 1048576) (n2 : l2.length ≤ 1048576) (n3 : l3.length ≤ 1048576) (o0 : PRow w b0 l0) (o1 : PRow w b1 l1) (o2 : PRow w b2 l2) (o3 : PRow w b3 l3)
    (hQ : ∀ (W : World) (hS : ownS w (.slice b0 l0.length c0) (.slice b1 l1.length c1) (.slice b2 l2.length c2) (.slice b3 l3.length c3) W) (z0 z1 z2 z3 : Nat) (a0 : Option Addr) (e0 m1 : Nat) (t0 : RoomIn W (w.heap.size + 2) m1 a0 l0.length e0 l0) (g1 : m1 ≤ W.heap.size) (k1 : (w.heap.size + 2) ≤ m1) (a1 : Option Addr) (e1 m2 : Nat) (t1 : RoomIn W m1 m2 a1 l1.length e1 l1) (g2 : m2 ≤ W.heap.size) (k2 : m1 ≤ m2) (a2 : Option Addr) (e2 m3 : Nat) (t2 : RoomIn W m2 m3 a2 l2.length e2 l2) (g3 : m3 ≤ W.heap.size) (k3 : m2 ≤ m3) (a3 : Option Addr) (e3 m4 : Nat) (t3 : RoomIn W m3 m4 a3 l3.length e3 l3) (g4 : m4 ≤ W.heap.size) (k4 : m3 ≤ m4), Q .normal { tmps := #[.agg #[.slice b0 l0.length c0, .slice b1 l1.length c1, .slice b2 l2.length c2, .slice b3 l3.length c3], .pointer (some ⟨w.heap.size, 0, none⟩), .pointer (some ⟨w.heap.size + 1, 0, none⟩), .slice (some ⟨z0, 0, none⟩) 0 0, .pointer (some ⟨w.heap.size, 0, none⟩), .slice b0 l0.length c0, .slice a0 l0.length e0, .slice (some ⟨z1, 0, none⟩) 0 0, .pointer (some ⟨w.heap.size, 1, none⟩), .slice b1 l1.length c1, .slice a1 l1.length e1, .slice (some ⟨z2, 0, none⟩) 0 0, .pointer (some ⟨w.heap.size, 2, none⟩), .slice b2 l2.length c2, .slice a2 l2.length e2, .slice (some ⟨z3, 0, none⟩) 0 0, .pointer (some ⟨w.heap.size, 3, none⟩), .slice b3 l3.length c3, .slice a3 l3.length e3, .agg #[.slice a0 l0.length e0, .slice a1 l1.length e1, .slice a2 l2.length e2, .slice a3 l3.length e3]], defers := [] } ((((W.setCell ⟨w.heap.size + 1, 0, none⟩ (.slice a0 l0.length e0)).setCell ⟨w.heap.size + 1, 1, none⟩ (.slice a1 l1.length e1)).setCell ⟨w.heap.size + 1, 2, none⟩ (.slice a2 l2.length e2)).setCell ⟨w.heap.size + 1, 3, none⟩ (.slice a3 l3.length e3)))
    (W : World) (hS : ownS w (.slice b0 l0.length c0) (.slice b1 l1.length c1) (.slice b2 l2.length c2) (.slice b3 l3.length c3) W) (z1 z2 z3 : Nat) :
    wpAnyH Try.prog .any ownOps Q (ownS w (.slice b0 l0.length c0) (.slice b1 l1.length c1) (.slice b2 l2.length c2) (.slice b3 l3.length c3)) 7 #[false, true, true, false, true, true, true, false, true, true, true, false, true, true, true, false, false, false] { tmps := #[.agg #[.slice b0 l0.length c0, .slice b1 l1.length c1, .slice b2 l2.length c2, .slice b3 l3.length c3], .pointer (some ⟨w.heap.size, 0, none⟩), .pointer (some ⟨w.heap.size + 1, 0, none⟩), undef, .pointer (some ⟨w.heap.size, 0, none⟩), .slice b0 l0.length c0, undef, .slice (some ⟨z1, 0, none⟩) 0 0, .pointer (some ⟨w.heap.size, 1, none⟩), .slice b1 l1.length c1, undef, .slice (some ⟨z2, 0, none⟩) 0 0, .pointer (some ⟨w.heap.size, 2, none⟩), .slice b2 l2.length c2, undef, .slice (some ⟨z3, 0, none⟩) 0 0, .pointer (some ⟨w.heap.size, 3, none⟩), .slice b3 l3.length c3, undef, undef], defers := [] } W := by
  refine wpAnyH_ready (rs := [0]) (by kernel_rfl) (by simp) ?_
  refine AllReadyH.cons (o := ownOp0) rfl (fun K hK => ?_) ?_
  · refine step_lit (by rfl) (by rfl) ?_
    intro z0 W' hb
    have hS' := ownS_keep hS hb
    refine hK.out _ _ hS' (fun _ => ?_)
    exact owno_nd0_0123 n0 n1 n2 n3 o0 o1 o2 o3 hQ W' hS' z0 z1 z2 z3 
  exact AllReadyH.nil

set_option maxRecDepth 20000 in
set_option maxHeartbeats 4000000 in
theorem owno_nd0_01 {b0 b1 b2 b3 : Option Addr} {c0 c1 c2 c3 : Nat} {l0 l1 l2 l3 : List (Int × Int)} {w : World} {Q : Exit → Act → World → Prop} (n0 : l0.length ≤ 1048576) (n1 : l1.length ≤ 1048576) (n2 : l2.length ≤ 1048576) (n3 : l3.length ≤ 1048576) (o0 : PRow w b0 l0) (o1 : PRow w b1 l1) (o2 : PRow w b2 l2) (o3 : PRow w b3 l3)
    (hQ : ∀ (W : World) (hS : ownS w (.slice b0 l0.length c0) (.slice b1 l1.length c1) (.slice b2 l2.length c2) (.slice b3 l3.length c3) W) (z0 z1 z2 z3 : Nat) (a0 : Option Addr) (e0 m1 : Nat) (t0 : RoomIn W (w.heap.size + 2) m1 a0 l0.length e0 l0) (g1 : m1 ≤ W.heap.size) (k1 : (w.heap.size + 2) ≤ m1) (a1 : Option Addr) (e1 m2 : Nat) (t1 : RoomIn W m1 m2 a1 l1.length e1 l1) (g2 : m2 ≤ W.heap.size) (k2 : m1 ≤ m2) (a2 : Option Addr) (e2 m3 : Nat) (t2 : RoomIn W m2 m3 a2 l2.length e2 l2) (g3 : m3 ≤ W.heap.size) (k3 : m2 ≤ m3) (a3 : Option Addr) (e3 m4 : Nat) (t3 : RoomIn W m3 m4 a3 l3.length e3 l3) (g4 : m4 ≤ W.heap.size) (k4 : m3 ≤ m4), Q .normal { tmps := #[.agg #[.slice b0 l0.length c0, .slice b1 l1.length c1, .slice b2 l2.length c2, .slice b3 l3.length c3], .pointer (some ⟨w.heap.size, 0, none⟩), .pointer (some ⟨w.heap.size + 1, 0, none⟩), .slice (some ⟨z0, 0, none⟩) 0 0, .pointer (some ⟨w.heap.size, 0, none⟩), .slice b0 l0.length c0, .slice a0 l0.length e0, .slice (some ⟨z1, 0, none⟩) 0 0, .pointer (some ⟨w.heap.size, 1, none⟩), .slice b1 l1.length c1, .slice a1 l1.length e1, .slice (some ⟨z2, 0, none⟩) 0 0, .pointer (some ⟨w.heap.size, 2, none⟩), .slice b2 l2.length c2, .slice a2 l2.length e2, .slice (some ⟨z3, 0, none⟩) 0 0, .pointer (some ⟨w.heap.size, 3, none⟩), .slice b3 l3.length c3, .slice a3 l3.length e3, .agg #[.slice a0 l0.length e0, .slice a1 l1.length e1, .slice a2 l2.length e2, .slice a3 l3.length e3]], defers := [] } ((((W.setCell ⟨w.heap.size + 1, 0, none⟩ (.slice a0 l0.length e0)).setCell ⟨w.heap.size + 1, 1, none⟩ (.slice a1 l1.length e1)).setCell ⟨w.heap.size + 1, 2, none⟩ (.slice a2 l2.length e2)).setCell ⟨w.heap.size + 1, 3, none⟩ (.slice a3 l3.length e3)))
    (W : World) (hS : ownS w (.slice b0 l0.length c0) (.slice b1 l1.length c1) (.slice b2 l2.length c2) (.slice b3 l3.length c3) W) (z0 z1 : Nat) :
    wpAnyH Try.prog .any ownOps Q (ownS w (.slice b0 l0.length c0) (.slice b1 l1.length c1) (.slice b2 l2.length c2) (.slice b3 l3.length c3)) 8 #[true, true, true, false, true, true, true, false, false, true, true, false, false, true, true, false, false, false] { tmps := #[.agg #[.slice b0 l0.length c0, .slice b1 l1.length c1, .slice b2 l2.length c2, .slice b3 l3.length c3], .pointer (some ⟨w.heap.size, 0, none⟩), .pointer (some ⟨w.heap.size + 1, 0, none⟩), .slice (some ⟨z0, 0, none⟩) 0 0, .pointer (some ⟨w.heap.size, 0, none⟩), .slice b0 l0.length c0, undef, .slice (some ⟨z1, 0, none⟩) 0 0, .pointer (some ⟨w.heap.size, 1, none⟩), .slice b1 l1.length c1, undef, undef, .pointer (some ⟨w.heap.size, 2, none⟩), .slice b2 l2.length c2, undef, undef, .pointer (some ⟨w.heap.size, 3, none⟩), .slice b3 l3.length c3, undef, undef], defers := [] } W := by
  refine wpAnyH_ready (rs := [3, 8, 12]) (by kernel_rfl) (by simp) ?_
  refine AllReadyH.cons (o := ownOp3) rfl (fun K hK => ?_) ?_
  · refine step_freshO (by rfl) (Operand.tmp 3) (Operand.tmp 5) (by rfl) z0 b0 l0.length c0 l0 (by rfl) (by rfl) rfl (o0.below hS.1 (Nat.le_refl _)) n0 ?_
    intro a0 e0 W' hr hb
    have hS' := ownS_keep hS hb
    refine hK.out _ _ hS' (fun _ => ?_)
    exact owno_nd1_1 n0 n1 n2 n3 o0 o1 o2 o3 hQ W' hS' z0 z1  a0 e0 W'.heap.size (hr.mono (ownS_ge hS) (Nat.le_refl _)) (Nat.le_refl _) (Nat.le_trans (ownS_ge hS) hb.size)
  refine AllReadyH.cons (o := ownOp8) rfl (fun K hK => ?_) ?_
  · refine step_lit (by rfl) (by rfl) ?_
    intro z2 W' hb
    have hS' := ownS_keep hS hb
    refine hK.out _ _ hS' (fun _ => ?_)
    exact owno_nd0_012 n0 n1 n2 n3 o0 o1 o2 o3 hQ W' hS' z0 z1 z2 
  refine AllReadyH.cons (o := ownOp12) rfl (fun K hK => ?_) ?_
  · refine step_lit (by rfl) (by rfl) ?_
    intro z3 W' hb
    have hS' := ownS_keep hS hb
    refine hK.out _ _ hS' (fun _ => ?_)
    exact owno_nd0_013 n0 n1 n2 n3 o0 o1 o2 o3 hQ W' hS' z0 z1 z3 
  exact AllReadyH.nil

set_option maxRecDepth 20000 in
set_option maxHeartbeats 4000000 in
theorem owno_nd0_02 {b0 b1 b2 b3 : Option Addr} {c0 c1 c2 c3 : Nat} {l0 l1 l2 l3 : List (Int × Int)} {w : World} {Q : Exit → Act → World → Prop} (n0 : l0.length ≤ 1048576) (n1 : l1.length ≤ 1048576) (n2 : l2.length ≤ 1048576) (n3 : l3.length ≤ 1048576) (o0 : PRow w b0 l0) (o1 : PRow w b1 l1) (o2 : PRow w b2 l2) (o3 : PRow w b3 l3)
    (hQ : ∀ (W : World) (hS : ownS w (.slice b0 l0.length c0) (.slice b1 l1.length c1) (.slice b2 l2.length c2) (.slice b3 l3.length c3) W) (z0 z1 z2 z3 : Nat) (a0 : Option Addr) (e0 m1 : Nat) (t0 : RoomIn W (w.heap.size + 2) m1 a0 l0.length e0 l0) (g1 : m1 ≤ W.heap.size) (k1 : (w.heap.size + 2) ≤ m1) (a1 : Option Addr) (e1 m2 : Nat) (t1 : RoomIn W m1 m2 a1 l1.length e1 l1) (g2 : m2 ≤ W.heap.size) (k2 : m1 ≤ m2) (a2 : Option Addr) (e2 m3 : Nat) (t2 : RoomIn W m2 m3 a2 l2.length e2 l2) (g3 : m3 ≤ W.heap.size) (k3 : m2 ≤ m3) (a3 : Option Addr) (e3 m4 : Nat) (t3 : RoomIn W m3 m4 a3 l3.length e3 l3) (g4 : m4 ≤ W.heap.size) (k4 : m3 ≤ m4), Q .normal { tmps := #[.agg #[.slice b0 l0.length c0, .slice b1 l1.length c1, .slice b2 l2.length c2, .slice b3 l3.length c3], .pointer (some ⟨w.heap.size, 0, none⟩), .pointer (some ⟨w.heap.size + 1, 0, none⟩), .slice (some ⟨z0, 0, none⟩) 0 0, .pointer (some ⟨w.heap.size, 0, none⟩), .slice b0 l0.length c0, .slice a0 l0.length e0, .slice (some ⟨z1, 0, none⟩) 0 0, .pointer (some ⟨w.heap.size, 1, none⟩), .slice b1 l1.length c1, .slice a1 l1.length e1, .slice (some ⟨z2, 0, none⟩) 0 0, .pointer (some ⟨w.heap.size, 2, none⟩), .slice b2 l2.length c2, .slice a2 l2.length e2, .slice (some ⟨z3, 0, none⟩) 0 0, .pointer (some ⟨w.heap.size, 3, none⟩), .slice b3 l3.length c3, .slice a3 l3.length e3, .agg #[.slice a0 l0.length e0, .slice a1 l1.length e1, .slice a2 l2.length e2, .slice a3 l3.length e3]], defers := [] } ((((W.setCell ⟨w.heap.size + 1, 0, none⟩ (.slice a0 l0.length e0)).setCell ⟨w.heap.size + 1, 1, none⟩ (.slice a1 l1.length e1)).setCell ⟨w.heap.size + 1, 2, none⟩ (.slice a2 l2.length e2)).setCell ⟨w.heap.size + 1, 3, none⟩ (.slice a3 l3.length e3)))
    (W : World) (hS : ownS w (.slice b0 l0.length c0) (.slice b1 l1.length c1) (.slice b2 l2.length c2) (.slice b3 l3.length c3) W) (z0 z2 : Nat) :
    wpAnyH Try.prog .any ownOps Q (ownS w (.slice b0 l0.length c0) (.slice b1 l1.length c1) (.slice b2 l2.length c2) (.slice b3 l3.length c3)) 8 #[true, true, true, false, false, true, true, false, true, true, true, false, false, true, true, false, false, false] { tmps := #[.agg #[.slice b0 l0.length c0, .slice b1 l1.length c1, .slice b2 l2.length c2, .slice b3 l3.length c3], .pointer (some ⟨w.heap.size, 0, none⟩), .pointer (some ⟨w.heap.size + 1, 0, none⟩), .slice (some ⟨z0, 0, none⟩) 0 0, .pointer (some ⟨w.heap.size, 0, none⟩), .slice b0 l0.length c0, undef, undef, .pointer (some ⟨w.heap.size, 1, none⟩), .slice b1 l1.length c1, undef, .slice (some ⟨z2, 0, none⟩) 0 0, .pointer (some ⟨w.heap.size, 2, none⟩), .slice b2 l2.length c2, undef, undef, .pointer (some ⟨w.heap.size, 3, none⟩), .slice b3 l3.length c3, undef, undef], defers := [] } W := by
  refine wpAnyH_ready (rs := [3, 4, 12]) (by kernel_rfl) (by simp) ?_
  refine AllReadyH.cons (o := ownOp3) rfl (fun K hK => ?_) ?_
  · refine step_freshO (by rfl) (Operand.tmp 3) (Operand.tmp 5) (by rfl) z0 b0 l0.length c0 l0 (by rfl) (by rfl) rfl (o0.below hS.1 (Nat.le_refl _)) n0 ?_
    intro a0 e0 W' hr hb
    have hS' := ownS_keep hS hb
    refine hK.out _ _ hS' (fun _ => ?_)
    exact owno_nd1_2 n0 n1 n2 n3 o0 o1 o2 o3 hQ W' hS' z0 z2  a0 e0 W'.heap.size (hr.mono (ownS_ge hS) (Nat.le_refl _)) (Nat.le_refl _) (Nat.le_trans (ownS_ge hS) hb.size)
  refine AllReadyH.cons (o := ownOp4) rfl (fun K hK => ?_) ?_
  · refine step_lit (by rfl) (by rfl) ?_
    intro z1 W' hb
    have hS' := ownS_keep hS hb
    refine hK.out _ _ hS' (fun _ => ?_)
    exact owno_nd0_012 n0 n1 n2 n3 o0 o1 o2 o3 hQ W' hS' z0 z1 z2 
  refine AllReadyH.cons (o := ownOp12) rfl (fun K hK => ?_) ?_
  · refine step_lit (by rfl) (by rfl) ?_
    intro z3 W' hb
    have hS' := ownS_keep hS hb
    refine hK.out _ _ hS' (fun _ => ?_)
    exact owno_nd0_023 n0 n1 n2 n3 o0 o1 o2 o3 hQ W' hS' z0 z2 z3 
  exact AllReadyH.nil

set_option maxRecDepth 20000 in
set_option maxHeartbeats 4000000 in
theorem owno_nd0_03 {b0 b1 b2 b3 : Option Addr} {c0 c1 c2 c3 : Nat} {l0 l1 l2 l3 : List (Int × Int)} {w : World} {Q : Exit → Act → World → Prop} (n0 : l0.length ≤ 1048576) (n1 : l1.length ≤ 1048576) (n2 : l2.length ≤ 1048576) (n3 : l3.length ≤ 1048576) (o0 : PRow w b0 l0) (o1 : PRow w b1 l1) (o2 : PRow w b2 l2) (o3 : PRow w b3 l3)
    (hQ : ∀ (W : World) (hS : ownS w (.slice b0 l0.length c0) (.slice b1 l1.length c1) (.slice b2 l2.length c2) (.slice b3 l3.length c3) W) (z0 z1 z2 z3 : Nat) (a0 : Option Addr) (e0 m1 : Nat) (t0 : RoomIn W (w.heap.size + 2) m1 a0 l0.length e0 l0) (g1 : m1 ≤ W.heap.size) (k1 : (w.heap.size + 2) ≤ m1) (a1 : Option Addr) (e1 m2 : Nat) (t1 : RoomIn W m1 m2 a1 l1.length e1 l1) (g2 : m2 ≤ W.heap.size) (k2 : m1 ≤ m2) (a2 : Option Addr) (e2 m3 : Nat) (t2 : RoomIn W m2 m3 a2 l2.length e2 l2) (g3 : m3 ≤ W.heap.size) (k3 : m2 ≤ m3) (a3 : Option Addr) (e3 m4 : Nat) (t3 : RoomIn W m3 m4 a3 l3.length e3 l3) (g4 : m4 ≤ W.heap.size) (k4 : m3 ≤ m4), Q .normal { tmps := #[.agg #[.slice b0 l0.length c0, .slice b1 l1.length c1, .slice b2 l2.length c2, .slice b3 l3.length c3], .pointer (some ⟨w.heap.size, 0, none⟩), .pointer (some ⟨w.heap.size + 1, 0, none⟩), .slice (some ⟨z0, 0, none⟩) 0 0, .pointer (some ⟨w.heap.size, 0, none⟩), .slice b0 l0.length c0, .slice a0 l0.length e0, .slice (some ⟨z1, 0, none⟩) 0 0, .pointer (some ⟨w.heap.size, 1, none⟩), .slice b1 l1.length c1, .slice a1 l1.length e1, .slice (some ⟨z2, 0, none⟩) 0 0, .pointer (some ⟨w.heap.size, 2, none⟩), .slice b2 l2.length c2, .slice a2 l2.length e2, .slice (some ⟨z3, 0, none⟩) 0 0, .pointer (some ⟨w.heap.size, 3, none⟩), .slice b3 l3.length c3, .slice a3 l3.length e3, .agg #[.slice a0 l0.length e0, .slice a1 l1.length e1, .slice a2 l2.length e2, .slice a3 l3.length e3]], defers := [] } ((((W.setCell ⟨w.heap.size + 1, 0, none⟩ (.slice a0 l0.length e0)).setCell ⟨w.heap.size + 1, 1, none⟩ (.slice a1 l1.length e1)).setCell ⟨w.heap.size + 1, 2, none⟩ (.slice a2 l2.length e2)).setCell ⟨w.heap.size + 1, 3, none⟩ (.slice a3 l3.length e3)))
    (W : World) (hS : ownS w (.slice b0 l0.length c0) (.slice b1 l1.length c1) (.slice b2 l2.length c2) (.slice b3 l3.length c3) W) (z0 z3 : Nat) :
    wpAnyH Try.prog .any ownOps Q (ownS w (.slice b0 l0.length c0) (.slice b1 l1.length c1) (.slice b2 l2.length c2) (.slice b3 l3.length c3)) 8 #[true, true, true, false, false, true, true, false, false, true, true, false, true, true, true, false, false, false] { tmps := #[.agg #[.slice b0 l0.length c0, .slice b1 l1.length c1, .slice b2 l2.length c2, .slice b3 l3.length c3], .pointer (some ⟨w.heap.size, 0, none⟩), .pointer (some ⟨w.heap.size + 1, 0, none⟩), .slice (some ⟨z0, 0, none⟩) 0 0, .pointer (some ⟨w.heap.size, 0, none⟩), .slice b0 l0.length c0, undef, undef, .pointer (some ⟨w.heap.size, 1, none⟩), .slice b1 l1.length c1, undef, undef, .pointer (some ⟨w.heap.size, 2, none⟩), .slice b2 l2.length c2, undef, .slice (some ⟨z3, 0, none⟩) 0 0, .pointer (some ⟨w.heap.size, 3, none⟩), .slice b3 l3.length c3, undef, undef], defers := [] } W := by
  refine wpAnyH_ready (rs := [3, 4, 8]) (by kernel_rfl) (by simp) ?_
  refine AllReadyH.cons (o := ownOp3) rfl (fun K hK => ?_) ?_
  · refine step_freshO (by rfl) (Operand.tmp 3) (Operand.tmp 5) (by rfl) z0 b0 l0.length c0 l0 (by rfl) (by rfl) rfl (o0.below hS.1 (Nat.le_refl _)) n0 ?_
    intro a0 e0 W' hr hb
    have hS' := ownS_keep hS hb
    refine hK.out _ _ hS' (fun _ => ?_)
    exact owno_nd1_3 n0 n1 n2 n3 o0 o1 o2 o3 hQ W' hS' z0 z3  a0 e0 W'.heap.size (hr.mono (ownS_ge hS) (Nat.le_refl _)) (Nat.le_refl _) (Nat.le_trans (ownS_ge hS) hb.size)
  refine AllReadyH.cons (o := ownOp4) rfl (fun K hK => ?_) ?_
  · refine step_lit (by rfl) (by rfl) ?_
    intro z1 W' hb
    have hS' := ownS_keep hS hb
    refine hK.out _ _ hS' (fun _ => ?_)
    exact owno_nd0_013 n0 n1 n2 n3 o0 o1 o2 o3 hQ W' hS' z0 z1 z3 
  refine AllReadyH.cons (o := ownOp8) rfl (fun K hK => ?_) ?_
  · refine step_lit (by rfl) (by rfl) ?_
    intro z2 W' hb
    have hS' := ownS_keep hS hb
    refine hK.out _ _ hS' (fun _ => ?_)
    exact owno_nd0_023 n0 n1 n2 n3 o0 o1 o2 o3 hQ W' hS' z0 z2 z3 
  exact AllReadyH.nil

set_option maxRecDepth 20000 in
set_option maxHeartbeats 4000000 in
theorem owno_nd0_12 {b0 b1 b2 b3 : Option Addr} {c0 c1 c2 c3 : Nat} {l0 l1 l2 l3 : List (Int × Int)} {w : World} {Q : Exit → Act → World → Prop} (n0 : l0.length ≤ 1048576) (n1 : l1.length ≤ 1048576) (n2 : l2.length ≤ 1048576) (n3 : l3.length ≤ 1048576) (o0 : PRow w b0 l0) (o1 : PRow w b1 l1) (o2 : PRow w b2 l2) (o3 : PRow w b3 l3)
    (hQ : ∀ (W : World) (hS : ownS w (.slice b0 l0.length c0) (.slice b1 l1.length c1) (.slice b2 l2.length c2) (.slice b3 l3.length c3) W) (z0 z1 z2 z3 : Nat) (a0 : Option Addr) (e0 m1 : Nat) (t0 : RoomIn W (w.heap.size + 2) m1 a0 l0.length e0 l0) (g1 : m1 ≤ W.heap.size) (k1 : (w.heap.size + 2) ≤ m1) (a1 : Option Addr) (e1 m2 : Nat) (t1 : RoomIn W m1 m2 a1 l1.length e1 l1) (g2 : m2 ≤ W.heap.size) (k2 : m1 ≤ m2) (a2 : Option Addr) (e2 m3 : Nat) (t2 : RoomIn W m2 m3 a2 l2.length e2 l2) (g3 : m3 ≤ W.heap.size) (k3 : m2 ≤ m3) (a3 : Option Addr) (e3 m4 : Nat) (t3 : RoomIn W m3 m4 a3 l3.length e3 l3) (g4 : m4 ≤ W.heap.size) (k4 : m3 ≤ m4), Q .normal { tmps := #[.agg #[.slice b0 l0.length c0, .slice b1 l1.length c1, .slice b2 l2.length c2, .slice b3 l3.length c3], .pointer (some ⟨w.heap.size, 0, none⟩), .pointer (some ⟨w.heap.size + 1, 0, none⟩), .slice (some ⟨z0, 0, none⟩) 0 0, .pointer (some ⟨w.heap.size, 0, none⟩), .slice b0 l0.length c0, .slice a0 l0.length e0, .slice (some ⟨z1, 0, none⟩) 0 0, .pointer (some ⟨w.heap.size, 1, none⟩), .slice b1 l1.length c1, .slice a1 l1.length e1, .slice (some ⟨z2, 0, none⟩) 0 0, .pointer (some ⟨w.heap.size, 2, none⟩), .slice b2 l2.length c2, .slice a2 l2.length e2, .slice (some ⟨z3, 0, none⟩) 0 0, .pointer (some ⟨w.heap.size, 3, none⟩), .slice b3 l3.length c3, .slice a3 l3.length e3, .agg #[.slice a0 l0.length e0, .slice a1 l1.length e1, .slice a2 l2.length e2, .slice a3 l3.length e3]], defers := [] } ((((W.setCell ⟨w.heap.size + 1, 0, none⟩ (.slice a0 l0.length e0)).setCell ⟨w.heap.size + 1, 1, none⟩ (.slice a1 l1.length e1)).setCell ⟨w.heap.size + 1, 2, none⟩ (.slice a2 l2.length e2)).setCell ⟨w.heap.size + 1, 3, none⟩ (.slice a3 l3.length e3)))
    (W : World) (hS : ownS w (.slice b0 l0.length c0) (.slice b1 l1.length c1) (.slice b2 l2.length c2) (.slice b3 l3.length c3) W) (z1 z2 : Nat) :
    wpAnyH Try.prog .any ownOps Q (ownS w (.slice b0 l0.length c0) (.slice b1 l1.length c1) (.slice b2 l2.length c2) (.slice b3 l3.length c3)) 8 #[false, true, true, false, true, true, true, false, true, true, true, false, false, true, true, false, false, false] { tmps := #[.agg #[.slice b0 l0.length c0, .slice b1 l1.length c1, .slice b2 l2.length c2, .slice b3 l3.length c3], .pointer (some ⟨w.heap.size, 0, none⟩), .pointer (some ⟨w.heap.size + 1, 0, none⟩), undef, .pointer (some ⟨w.heap.size, 0, none⟩), .slice b0 l0.length c0, undef, .slice (some ⟨z1, 0, none⟩) 0 0, .pointer (some ⟨w.heap.size, 1, none⟩), .slice b1 l1.length c1, undef, .slice (some ⟨z2, 0, none⟩) 0 0, .pointer (some ⟨w.heap.size, 2, none⟩), .slice b2 l2.length c2, undef, undef, .pointer (some ⟨w.heap.size, 3, none⟩), .slice b3 l3.length c3, undef, undef], defers := [] } W := by
  refine wpAnyH_ready (rs := [0, 12]) (by kernel_rfl) (by simp) ?_
  refine AllReadyH.cons (o := ownOp0) rfl (fun K hK => ?_) ?_
  · refine step_lit (by rfl) (by rfl) ?_
    intro z0 W' hb
    have hS' := ownS_keep hS hb
    refine hK.out _ _ hS' (fun _ => ?_)
    exact owno_nd0_012 n0 n1 n2 n3 o0 o1 o2 o3 hQ W' hS' z0 z1 z2 
  refine AllReadyH.cons (o := ownOp12) rfl (fun K hK => ?_) ?_
  · refine step_lit (by rfl) (by rfl) ?_
    intro z3 W' hb
    have hS' := ownS_keep hS hb
    refine hK.out _ _ hS' (fun _ => ?_)
    exact owno_nd0_123 n0 n1 n2 n3 o0 o1 o2 o3 hQ W' hS' z1 z2 z3 
  exact AllReadyH.nil

set_option maxRecDepth 20000 in
set_option maxHeartbeats 4000000 in
theorem owno_nd0_13 {b0 b1 b2 b3 : Option Addr} {c0 c1 c2 c3 : Nat} {l0 l1 l2 l3 : List (Int × Int)} {w : World} {Q : Exit → Act → World → Prop} (n0 : l0.length ≤ 1048576) (n1 : l1.length ≤ 1048576) (n2 : l2.length ≤ 1048576) (n3 : l3.length ≤ 1048576) (o0 : PRow w b0 l0) (o1 : PRow w b1 l1) (o2 : PRow w b2 l2) (o3 : PRow w b3 l3)
    (hQ : ∀ (W : World) (hS : ownS w (.slice b0 l0.length c0) (.slice b1 l1.length c1) (.slice b2 l2.length c2) (.slice b3 l3.length c3) W) (z0 z1 z2 z3 : Nat) (a0 : Option Addr) (e0 m1 : Nat) (t0 : RoomIn W (w.heap.size + 2) m1 a0 l0.length e0 l0) (g1 : m1 ≤ W.heap.size) (k1 : (w.heap.size + 2) ≤ m1) (a1 : Option Addr) (e1 m2 : Nat) (t1 : RoomIn W m1 m2 a1 l1.length e1 l1) (g2 : m2 ≤ W.heap.size) (k2 : m1 ≤ m2) (a2 : Option Addr) (e2 m3 : Nat) (t2 : RoomIn W m2 m3 a2 l2.length e2 l2) (g3 : m3 ≤ W.heap.size) (k3 : m2 ≤ m3) (a3 : Option Addr) (e3 m4 : Nat) (t3 : RoomIn W m3 m4 a3 l3.length e3 l3) (g4 : m4 ≤ W.heap.size) (k4 : m3 ≤ m4), Q .normal { tmps := #[.agg #[.slice b0 l0.length c0, .slice b1 l1.length c1, .slice b2 l2.length c2, .slice b3 l3.length c3], .pointer (some ⟨w.heap.size, 0, none⟩), .pointer (some ⟨w.heap.size + 1, 0, none⟩), .slice (some ⟨z0, 0, none⟩) 0 0, .pointer (some ⟨w.heap.size, 0, none⟩), .slice b0 l0.length c0, .slice a0 l0.length e0, .slice (some ⟨z1, 0, none⟩) 0 0, .pointer (some ⟨w.heap.size, 1, none⟩), .slice b1 l1.length c1, .slice a1 l1.length e1, .slice (some ⟨z2, 0, none⟩) 0 0, .pointer (some ⟨w.heap.size, 2, none⟩), .slice b2 l2.length c2, .slice a2 l2.length e2, .slice (some ⟨z3, 0, none⟩) 0 0, .pointer (some ⟨w.heap.size, 3, none⟩), .slice b3 l3.length c3, .slice a3 l3.length e3, .agg #[.slice a0 l0.length e0, .slice a1 l1.length e1, .slice a2 l2.length e2, .slice a3 l3.length e3]], defers := [] } ((((W.setCell ⟨w.heap.size + 1, 0, none⟩ (.slice a0 l0.length e0)).setCell ⟨w.heap.size + 1, 1, none⟩ (.slice a1 l1.length e1)).setCell ⟨w.heap.size + 1, 2, none⟩ (.slice a2 l2.length e2)).setCell ⟨w.heap.size + 1, 3, none⟩ (.slice a3 l3.length e3)))
    (W : World) (hS : ownS w (.slice b0 l0.length c0) (.slice b1 l1.length c1) (.slice b2 l2.length c2) (.slice b3 l3.length c3) W) (z1 z3 : Nat) :
    wpAnyH Try.prog .any ownOps Q (ownS w (.slice b0 l0.length c0) (.slice b1 l1.length c1) (.slice b2 l2.length c2) (.slice b3 l3.length c3)) 8 #[false, true, true, false, true, true, true, false, false, true, true, false, true, true, true, false, false, false] { tmps := #[.agg #[.slice b0 l0.length c0, .slice b1 l1.length c1, .slice b2 l2.length c2, .slice b3 l3.length c3], .pointer (some ⟨w.heap.size, 0, none⟩), .pointer (some ⟨w.heap.size + 1, 0, none⟩), undef, .pointer (some ⟨w.heap.size, 0, none⟩), .slice b0 l0.length c0, undef, .slice (some ⟨z1, 0, none⟩) 0 0, .pointer (some ⟨w.heap.size, 1, none⟩), .slice b1 l1.length c1, undef, undef, .pointer (some ⟨w.heap.size, 2, none⟩), .slice b2 l2.length c2, undef, .slice (some ⟨z3, 0, none⟩) 0 0, .pointer (some ⟨w.heap.size, 3, none⟩), .slice b3 l3.length c3, undef, undef], defers := [] } W := by
  refine wpAnyH_ready (rs := [0, 8]) (by kernel_rfl) (by simp) ?_
  refine AllReadyH.cons (o := ownOp0) rfl (fun K hK => ?_) ?_
  · refine step_lit (by rfl) (by rfl) ?_
    intro z0 W' hb
    have hS' := ownS_keep hS hb
    refine hK.out _ _ hS' (fun _ => ?_)
    exact owno_nd0_013 n0 n1 n2 n3 o0 o1 o2 o3 hQ W' hS' z0 z1 z3 
  refine AllReadyH.cons (o := ownOp8) rfl (fun K hK => ?_) ?_
  · refine step_lit (by rfl) (by rfl) ?_
    intro z2 W' hb
    have hS' := ownS_keep hS hb
    refine hK.out _ _ hS' (fun _ => ?_)
    exact owno_nd0_123 n0 n1 n2 n3 o0 o1 o2 o3 hQ W' hS' z1 z2 z3 
  exact AllReadyH.nil

set_option maxRecDepth 20000 in
set_option maxHeartbeats 4000000 in
theorem owno_nd0_23 {b0 b1 b2 b3 : Option Addr} {c0 c1 c2 c3 : Nat} {l0 l1 l2 l3 : List (Int × Int)} {w : World} {Q : Exit → Act → World → Prop} (n0 : l0.length ≤ 1048576) (n1 : l1.length ≤ 1048576) (n2 : l2.length ≤ 1048576) (n3 : l3.length ≤ 1048576) (o0 : PRow w b0 l0) (o1 : PRow w b1 l1) (o2 : PRow w b2 l2) (o3 : PRow w b3 l3)
    (hQ : ∀ (W : World) (hS : ownS w (.slice b0 l0.length c0) (.slice b1 l1.length c1) (.slice b2 l2.length c2) (.slice b3 l3.length c3) W) (z0 z1 z2 z3 : Nat) (a0 : Option Addr) (e0 m1 : Nat) (t0 : RoomIn W (w.heap.size + 2) m1 a0 l0.length e0 l0) (g1 : m1 ≤ W.heap.size) (k1 : (w.heap.size + 2) ≤ m1) (a1 : Option Addr) (e1 m2 : Nat) (t1 : RoomIn W m1 m2 a1 l1.length e1 l1) (g2 : m2 ≤ W.heap.size) (k2 : m1 ≤ m2) (a2 : Option Addr) (e2 m3 : Nat) (t2 : RoomIn W m2 m3 a2 l2.length e2 l2) (g3 : m3 ≤ W.heap.size) (k3 : m2 ≤ m3) (a3 : Option Addr) (e3 m4 : Nat) (t3 : RoomIn W m3 m4 a3 l3.length e3 l3) (g4 : m4 ≤ W.heap.size) (k4 : m3 ≤ m4), Q .normal { tmps := #[.agg #[.slice b0 l0.length c0, .slice b1 l1.length c1, .slice b2 l2.length c2, .slice b3 l3.length c3], .pointer (some ⟨w.heap.size, 0, none⟩), .pointer (some ⟨w.heap.size + 1, 0, none⟩), .slice (some ⟨z0, 0, none⟩) 0 0, .pointer (some ⟨w.heap.size, 0, none⟩), .slice b0 l0.length c0, .slice a0 l0.length e0, .slice (some ⟨z1, 0, none⟩) 0 0, .pointer (some ⟨w.heap.size, 1, none⟩), .slice b1 l1.length c1, .slice a1 l1.length e1, .slice (some ⟨z2, 0, none⟩) 0 0, .pointer (some ⟨w.heap.size, 2, none⟩), .slice b2 l2.length c2, .slice a2 l2.length e2, .slice (some ⟨z3, 0, none⟩) 0 0, .pointer (some ⟨w.heap.size, 3, none⟩), .slice b3 l3.length c3, .slice a3 l3.length e3, .agg #[.slice a0 l0.length e0, .slice a1 l1.length e1, .slice a2 l2.length e2, .slice a3 l3.length e3]], defers := [] } ((((W.setCell ⟨w.heap.size + 1, 0, none⟩ (.slice a0 l0.length e0)).setCell ⟨w.heap.size + 1, 1, none⟩ (.slice a1 l1.length e1)).setCell ⟨w.heap.size + 1, 2, none⟩ (.slice a2 l2.length e2)).setCell ⟨w.heap.size + 1, 3, none⟩ (.slice a3 l3.length e3)))
    (W : World) (hS : ownS w (.slice b0 l0.length c0) (.slice b1 l1.length c1) (.slice b2 l2.length c2) (.slice b3 l3.length c3) W) (z2 z3 : Nat) :
    wpAnyH Try.prog .any ownOps Q (ownS w (.slice b0 l0.length c0) (.slice b1 l1.length c1) (.slice b2 l2.length c2) (.slice b3 l3.length c3)) 8 #[false, true, true, false, false, true, true, false, true, true, true, false, true, true, true, false, false, false] { tmps := #[.agg #[.slice b0 l0.length c0, .slice b1 l1.length c1, .slice b2 l2.length c2, .slice b3 l3.length c3], .pointer (some ⟨w.heap.size, 0, none⟩), .pointer (some ⟨w.heap.size + 1, 0, none⟩), undef, .pointer (some ⟨w.heap.size, 0, none⟩), .slice b0 l0.length c0, undef, undef, .pointer (some ⟨w.heap.size, 1, none⟩), .slice b1 l1.length c1, undef, .slice (some ⟨z2, 0, none⟩) 0 0, .pointer (some ⟨w.heap.size, 2, none⟩), .slice b2 l2.length c2, undef, .slice (some ⟨z3, 0, none⟩) 0 0, .pointer (some ⟨w.heap.size, 3, none⟩), .slice b3 l3.length c3, undef, undef], defers := [] } W := by
  refine wpAnyH_ready (rs := [0, 4]) (by kernel_rfl) (by simp) ?_
  refine AllReadyH.cons (o := ownOp0) rfl (fun K hK => ?_) ?_
  · refine step_lit (by rfl) (by rfl) ?_
    intro z0 W' hb
    have hS' := ownS_keep hS hb
    refine hK.out _ _ hS' (fun _ => ?_)
    exact owno_nd0_023 n0 n1 n2 n3 o0 o1 o2 o3 hQ W' hS' z0 z2 z3 
  refine AllReadyH.cons (o := ownOp4) rfl (fun K hK => ?_) ?_
  · refine step_lit (by rfl) (by rfl) ?_
    intro z1 W' hb
    have hS' := ownS_keep hS hb
    refine hK.out _ _ hS' (fun _ => ?_)
    exact owno_nd0_123 n0 n1 n2 n3 o0 o1 o2 o3 hQ W' hS' z1 z2 z3 
  exact AllReadyH.nil

set_option maxRecDepth 20000 in
set_option maxHeartbeats 4000000 in
theorem owno_nd0_0 {b0 b1 b2 b3 : Option Addr} {c0 c1 c2 c3 : Nat} {l0 l1 l2 l3 : List (Int × Int)} {w : World} {Q : Exit → Act → World → Prop} (n0 : l0.length ≤ 1048576) (n1 : l1.length ≤ 1048576) (n2 : l2.length ≤ 1048576) (n3 : l3.length ≤ 1048576) (o0 : PRow w b0 l0) (o1 : PRow w b1 l1) (o2 : PRow w b2 l2) (o3 : PRow w b3 l3)
    (hQ : ∀ (W : World) (hS : ownS w (.slice b0 l0.length c0) (.slice b1 l1.length c1) (.slice b2 l2.length c2) (.slice b3 l3.length c3) W) (z0 z1 z2 z3 : Nat) (a0 : Option Addr) (e0 m1 : Nat) (t0 : RoomIn W (w.heap.size + 2) m1 a0 l0.length e0 l0) (g1 : m1 ≤ W.heap.size) (k1 : (w.heap.size + 2) ≤ m1) (a1 : Option Addr) (e1 m2 : Nat) (t1 : RoomIn W m1 m2 a1 l1.length e1 l1) (g2 : m2 ≤ W.heap.size) (k2 : m1 ≤ m2) (a2 : Option Addr) (e2 m3 : Nat) (t2 : RoomIn W m2 m3 a2 l2.length e2 l2) (g3 : m3 ≤ W.heap.size) (k3 : m2 ≤ m3) (a3 : Option Addr) (e3 m4 : Nat) (t3 : RoomIn W m3 m4 a3 l3.length e3 l3) (g4 : m4 ≤ W.heap.size) (k4 : m3 ≤ m4), Q .normal { tmps := #[.agg #[.slice b0 l0.length c0, .slice b1 l1.length c1, .slice b2 l2.length c2, .slice b3 l3.length c3], .pointer (some ⟨w.heap.size, 0, none⟩), .pointer (some ⟨w.heap.size + 1, 0, none⟩), .slice (some ⟨z0, 0, none⟩) 0 0, .pointer (some ⟨w.heap.size, 0, none⟩), .slice b0 l0.length c0, .slice a0 l0.length e0, .slice (some ⟨z1, 0, none⟩) 0 0, .pointer (some ⟨w.heap.size, 1, none⟩), .slice b1 l1.length c1, .slice a1 l1.length e1, .slice (some ⟨z2, 0, none⟩) 0 0, .pointer (some ⟨w.heap.size, 2, none⟩), .slice b2 l2.length c2, .slice a2 l2.length e2, .slice (some ⟨z3, 0, none⟩) 0 0, .pointer (some ⟨w.heap.size, 3, none⟩), .slice b3 l3.length c3, .slice a3 l3.length e3, .agg #[.slice a0 l0.length e0, .slice a1 l1.length e1, .slice a2 l2.length e2, .slice a3 l3.length e3]], defers := [] } ((((W.setCell ⟨w.heap.size + 1, 0, none⟩ (.slice a0 l0.length e0)).setCell ⟨w.heap.size + 1, 1, none⟩ (.slice a1 l1.length e1)).setCell ⟨w.heap.size + 1, 2, none⟩ (.slice a2 l2.length e2)).setCell ⟨w.heap.size + 1, 3, none⟩ (.slice a3 l3.length e3)))
    (W : World) (hS : ownS w (.slice b0 l0.length c0) (.slice b1 l1.length c1) (.slice b2 l2.length c2) (.slice b3 l3.length c3) W) (z0 : Nat) :
    wpAnyH Try.prog .any ownOps Q (ownS w (.slice b0 l0.length c0) (.slice b1 l1.length c1) (.slice b2 l2.length c2) (.slice b3 l3.length c3)) 9 #[true, true, true, false, false, true, true, false, false, true, true, false, false, true, true, false, false, false] { tmps := #[.agg #[.slice b0 l0.length c0, .slice b1 l1.length c1, .slice b2 l2.length c2, .slice b3 l3.length c3], .pointer (some ⟨w.heap.size, 0, none⟩), .pointer (some ⟨w.heap.size + 1, 0, none⟩), .slice (some ⟨z0, 0, none⟩) 0 0, .pointer (some ⟨w.heap.size, 0, none⟩), .slice b0 l0.length c0, undef, undef, .pointer (some ⟨w.heap.size, 1, none⟩), .slice b1 l1.length c1, undef, undef, .pointer (some ⟨w.heap.size, 2, none⟩), .slice b2 l2.length c2, undef, undef, .pointer (some ⟨w.heap.size, 3, none⟩), .slice b3 l3.length c3, undef, undef], defers := [] } W := by
  refine wpAnyH_ready (rs := [3, 4, 8, 12]) (by kernel_rfl) (by simp) ?_
  refine AllReadyH.cons (o := ownOp3) rfl (fun K hK => ?_) ?_
  · refine step_freshO (by rfl) (Operand.tmp 3) (Operand.tmp 5) (by rfl) z0 b0 l0.length c0 l0 (by rfl) (by rfl) rfl (o0.below hS.1 (Nat.le_refl _)) n0 ?_
    intro a0 e0 W' hr hb
    have hS' := ownS_keep hS hb
    refine hK.out _ _ hS' (fun _ => ?_)
    exact owno_nd1_n n0 n1 n2 n3 o0 o1 o2 o3 hQ W' hS' z0  a0 e0 W'.heap.size (hr.mono (ownS_ge hS) (Nat.le_refl _)) (Nat.le_refl _) (Nat.le_trans (ownS_ge hS) hb.size)
  refine AllReadyH.cons (o := ownOp4) rfl (fun K hK => ?_) ?_
  · refine step_lit (by rfl) (by rfl) ?_
    intro z1 W' hb
    have hS' := ownS_keep hS hb
    refine hK.out _ _ hS' (fun _ => ?_)
    exact owno_nd0_01 n0 n1 n2 n3 o0 o1 o2 o3 hQ W' hS' z0 z1 
  refine AllReadyH.cons (o := ownOp8) rfl (fun K hK => ?_) ?_
  · refine step_lit (by rfl) (by rfl) ?_
    intro z2 W' hb
    have hS' := ownS_keep hS hb
    refine hK.out _ _ hS' (fun _ => ?_)
    exact owno_nd0_02 n0 n1 n2 n3 o0 o1 o2 o3 hQ W' hS' z0 z2 
  refine AllReadyH.cons (o := ownOp12) rfl (fun K hK => ?_) ?_
  · refine step_lit (by rfl) (by rfl) ?_
    intro z3 W' hb
    have hS' := ownS_keep hS hb
    refine hK.out _ _ hS' (fun _ => ?_)
    exact owno_nd0_03 n0 n1 n2 n3 o0 o1 o2 o3 hQ W' hS' z0 z3 
  exact AllReadyH.nil

set_option maxRecDepth 20000 in
set_option maxHeartbeats 4000000 in
theorem owno_nd0_1 {b0 b1 b2 b3 : Option Addr} {c0 c1 c2 c3 : Nat} {l0 l1 l2 l3 : List (Int × Int)} {w : World} {Q : Exit → Act → World → Prop} (n0 : l0.length ≤ 1048576) (n1 : l1.length ≤ 1048576) (n2 : l2.length ≤ 1048576) (n3 : l3.length ≤ 1048576) (o0 : PRow w b0 l0) (o1 : PRow w b1 l1) (o2 : PRow w b2 l2) (o3 : PRow w b3 l3)
    (hQ : ∀ (W : World) (hS : ownS w (.slice b0 l0.length c0) (.slice b1 l1.length c1) (.slice b2 l2.length c2) (.slice b3 l3.length c3) W) (z0 z1 z2 z3 : Nat) (a0 : Option Addr) (e0 m1 : Nat) (t0 : RoomIn W (w.heap.size + 2) m1 a0 l0.length e0 l0) (g1 : m1 ≤ W.heap.size) (k1 : (w.heap.size + 2) ≤ m1) (a1 : Option Addr) (e1 m2 : Nat) (t1 : RoomIn W m1 m2 a1 l1.length e1 l1) (g2 : m2 ≤ W.heap.size) (k2 : m1 ≤ m2) (a2 : Option Addr) (e2 m3 : Nat) (t2 : RoomIn W m2 m3 a2 l2.length e2 l2) (g3 : m3 ≤ W.heap.size) (k3 : m2 ≤ m3) (a3 : Option Addr) (e3 m4 : Nat) (t3 : RoomIn W m3 m4 a3 l3.length e3 l3) (g4 : m4 ≤ W.heap.size) (k4 : m3 ≤ m4), Q .normal { tmps := #[.agg #[.slice b0 l0.length c0, .slice b1 l1.length c1, .slice b2 l2.length c2, .slice b3 l3.length c3], .pointer (some ⟨w.heap.size, 0, none⟩), .pointer (some ⟨w.heap.size + 1, 0, none⟩), .slice (some ⟨z0, 0, none⟩) 0 0, .pointer (some ⟨w.heap.size, 0, none⟩), .slice b0 l0.length c0, .slice a0 l0.length e0, .slice (some ⟨z1, 0, none⟩) 0 0, .pointer (some ⟨w.heap.size, 1, none⟩), .slice b1 l1.length c1, .slice a1 l1.length e1, .slice (some ⟨z2, 0, none⟩) 0 0, .pointer (some ⟨w.heap.size, 2, none⟩), .slice b2 l2.length c2, .slice a2 l2.length e2, .slice (some ⟨z3, 0, none⟩) 0 0, .pointer (some ⟨w.heap.size, 3, none⟩), .slice b3 l3.length c3, .slice a3 l3.length e3, .agg #[.slice a0 l0.length e0, .slice a1 l1.length e1, .slice a2 l2.length e2, .slice a3 l3.length e3]], defers := [] } ((((W.setCell ⟨w.heap.size + 1, 0, none⟩ (.slice a0 l0.length e0)).setCell ⟨w.heap.size + 1, 1, none⟩ (.slice a1 l1.length e1)).setCell ⟨w.heap.size + 1, 2, none⟩ (.slice a2 l2.length e2)).setCell ⟨w.heap.size + 1, 3, none⟩ (.slice a3 l3.length e3)))
    (W : World) (hS : ownS w (.slice b0 l0.length c0) (.slice b1 l1.length c1) (.slice b2 l2.length c2) (.slice b3 l3.length c3) W) (z1 : Nat) :
    wpAnyH Try.prog .any ownOps Q (ownS w (.slice b0 l0.length c0) (.slice b1 l1.length c1) (.slice b2 l2.length c2) (.slice b3 l3.length c3)) 9 #[false, true, true, false, true, true, true, false, false, true, true, false, false, true, true, false, false, false] { tmps := #[.agg #[.slice b0 l0.length c0, .slice b1 l1.length c1, .slice b2 l2.length c2, .slice b3 l3.length c3], .pointer (some ⟨w.heap.size, 0, none⟩), .pointer (some ⟨w.heap.size + 1, 0, none⟩), undef, .pointer (some ⟨w.heap.size, 0, none⟩), .slice b0 l0.length c0, undef, .slice (some ⟨z1, 0, none⟩) 0 0, .pointer (some ⟨w.heap.size, 1, none⟩), .slice b1 l1.length c1, undef, undef, .pointer (some ⟨w.heap.size, 2, none⟩), .slice b2 l2.length c2, undef, undef, .pointer (some ⟨w.heap.size, 3, none⟩), .slice b3 l3.length c3, undef, undef], defers := [] } W := by
  refine wpAnyH_ready (rs := [0, 8, 12]) (by kernel_rfl) (by simp) ?_
  refine AllReadyH.cons (o := ownOp0) rfl (fun K hK => ?_) ?_
  · refine step_lit (by rfl) (by rfl) ?_
    intro z0 W' hb
    have hS' := ownS_keep hS hb
    refine hK.out _ _ hS' (fun _ => ?_)
    exact owno_nd0_01 n0 n1 n2 n3 o0 o1 o2 o3 hQ W' hS' z0 z1 
  refine AllReadyH.cons (o := ownOp8) rfl (fun K hK => ?_) ?_
  · refine step_lit (by rfl) (by rfl) ?_
    intro z2 W' hb
    have hS' := ownS_keep hS hb
    refine hK.out _ _ hS' (fun _ => ?_)
    exact owno_nd0_12 n0 n1 n2 n3 o0 o1 o2 o3 hQ W' hS' z1 z2 
  refine AllReadyH.cons (o := ownOp12) rfl (fun K hK => ?_) ?_
  · refine step_lit (by rfl) (by rfl) ?_
    intro z3 W' hb
    have hS' := ownS_keep hS hb
    refine hK.out _ _ hS' (fun _ => ?_)
    exact owno_nd0_13 n0 n1 n2 n3 o0 o1 o2 o3 hQ W' hS' z1 z3 
  exact AllReadyH.nil

set_option maxRecDepth 20000 in
set_option maxHeartbeats 4000000 in
theorem owno_nd0_2 {b0 b1 b2 b3 : Option Addr} {c0 c1 c2 c3 : Nat} {l0 l1 l2 l3 : List (Int × Int)} {w : World} {Q : Exit → Act → World → Prop} (n0 : l0.length ≤ 1048576) (n1 : l1.length ≤ 1048576) (n2 : l2.length ≤ 1048576) (n3 : l3.length ≤ 1048576) (o0 : PRow w b0 l0) (o1 : PRow w b1 l1) (o2 : PRow w b2 l2) (o3 : PRow w b3 l3)
    (hQ : ∀ (W : World) (hS : ownS w (.slice b0 l0.length c0) (.slice b1 l1.length c1) (.slice b2 l2.length c2) (.slice b3 l3.length c3) W) (z0 z1 z2 z3 : Nat) (a0 : Option Addr) (e0 m1 : Nat) (t0 : RoomIn W (w.heap.size + 2) m1 a0 l0.length e0 l0) (g1 : m1 ≤ W.heap.size) (k1 : (w.heap.size + 2) ≤ m1) (a1 : Option Addr) (e1 m2 : Nat) (t1 : RoomIn W m1 m2 a1 l1.length e1 l1) (g2 : m2 ≤ W.heap.size) (k2 : m1 ≤ m2) (a2 : Option Addr) (e2 m3 : Nat) (t2 : RoomIn W m2 m3 a2 l2.length e2 l2) (g3 : m3 ≤ W.heap.size) (k3 : m2 ≤ m3) (a3 : Option Addr) (e3 m4 : Nat) (t3 : RoomIn W m3 m4 a3 l3.length e3 l3) (g4 : m4 ≤ W.heap.size) (k4 : m3 ≤ m4), Q .normal { tmps := #[.agg #[.slice b0 l0.length c0, .slice b1 l1.length c1, .slice b2 l2.length c2, .slice b3 l3.length c3], .pointer (some ⟨w.heap.size, 0, none⟩), .pointer (some ⟨w.heap.size + 1, 0, none⟩), .slice (some ⟨z0, 0, none⟩) 0 0, .pointer (some ⟨w.heap.size, 0, none⟩), .slice b0 l0.length c0, .slice a0 l0.length e0, .slice (some ⟨z1, 0, none⟩) 0 0, .pointer (some ⟨w.heap.size, 1, none⟩), .slice b1 l1.length c1, .slice a1 l1.length e1, .slice (some ⟨z2, 0, none⟩) 0 0, .pointer (some ⟨w.heap.size, 2, none⟩), .slice b2 l2.length c2, .slice a2 l2.length e2, .slice (some ⟨z3, 0, none⟩) 0 0, .pointer (some ⟨w.heap.size, 3, none⟩), .slice b3 l3.length c3, .slice a3 l3.length e3, .agg #[.slice a0 l0.length e0, .slice a1 l1.length e1, .slice a2 l2.length e2, .slice a3 l3.length e3]], defers := [] } ((((W.setCell ⟨w.heap.size + 1, 0, none⟩ (.slice a0 l0.length e0)).setCell ⟨w.heap.size + 1, 1, none⟩ (.slice a1 l1.length e1)).setCell ⟨w.heap.size + 1, 2, none⟩ (.slice a2 l2.length e2)).setCell ⟨w.heap.size + 1, 3, none⟩ (.slice a3 l3.length e3)))
    (W : World) (hS : ownS w (.slice b0 l0.length c0) (.slice b1 l1.length c1) (.slice b2 l2.length c2) (.slice b3 l3.length c3) W) (z2 : Nat) :
    wpAnyH Try.prog .any ownOps Q (ownS w (.slice b0 l0.length c0) (.slice b1 l1.length c1) (.slice b2 l2.length c2) (.slice b3 l3.length c3)) 9 #[false, true, true, false, false, true, true, false, true, true, true, false, false, true, true, false, false, false] { tmps := #[.agg #[.slice b0 l0.length c0, .slice b1 l1.length c1, .slice b2 l2.length c2, .slice b3 l3.length c3], .pointer (some ⟨w.heap.size, 0, none⟩), .pointer (some ⟨w.heap.size + 1, 0, none⟩), undef, .pointer (some ⟨w.heap.size, 0, none⟩), .slice b0 l0.length c0, undef, undef, .pointer (some ⟨w.heap.size, 1, none⟩), .slice b1 l1.length c1, undef, .slice (some ⟨z2, 0, none⟩) 0 0, .pointer (some ⟨w.heap.size, 2, none⟩), .slice b2 l2.length c2, undef, undef, .pointer (some ⟨w.heap.size, 3, none⟩), .slice b3 l3.length c3, undef, undef], defers := [] } W := by
  refine wpAnyH_ready (rs := [0, 4, 12]) (by kernel_rfl) (by simp) ?_
  refine AllReadyH.cons (o := ownOp0) rfl (fun K hK => ?_) ?_
  · refine step_lit (by rfl) (by rfl) ?_
    intro z0 W' hb
    have hS' := ownS_keep hS hb
    refine hK.out _ _ hS' (fun _ => ?_)
    exact owno_nd0_02 n0 n1 n2 n3 o0 o1 o2 o3 hQ W' hS' z0 z2 
  refine AllReadyH.cons (o := ownOp4) rfl (fun K hK => ?_) ?_
  · refine step_lit (by rfl) (by rfl) ?_
    intro z1 W' hb
    have hS' := ownS_keep hS hb
    refine hK.out _ _ hS' (fun _ => ?_)
    exact owno_nd0_12 n0 n1 n2 n3 o0 o1 o2 o3 hQ W' hS' z1 z2 
  refine AllReadyH.cons (o := ownOp12) rfl (fun K hK => ?_) ?_
  · refine step_lit (by rfl) (by rfl) ?_
    intro z3 W' hb
    have hS' := ownS_keep hS hb
    refine hK.out _ _ hS' (fun _ => ?_)
    exact owno_nd0_23 n0 n1 n2 n3 o0 o1 o2 o3 hQ W' hS' z2 z3 
  exact AllReadyH.nil

set_option maxRecDepth 20000 in
set_option maxHeartbeats 4000000 in
theorem owno_nd0_3 {b0 b1 b2 b3 : Option Addr} {c0 c1 c2 c3 : Nat} {l0 l1 l2 l3 : List (Int × Int)} {w : World} {Q : Exit → Act → World → Prop} (n0 : l0.length ≤ 1048576) (n1 : l1.length ≤ 1048576) (n2 : l2.length ≤ 1048576) (n3 : l3.length ≤ 1048576) (o0 : PRow w b0 l0) (o1 : PRow w b1 l1) (o2 : PRow w b2 l2) (o3 : PRow w b3 l3)
    (hQ : ∀ (W : World) (hS : ownS w (.slice b0 l0.length c0) (.slice b1 l1.length c1) (.slice b2 l2.length c2) (.slice b3 l3.length c3) W) (z0 z1 z2 z3 : Nat) (a0 : Option Addr) (e0 m1 : Nat) (t0 : RoomIn W (w.heap.size + 2) m1 a0 l0.length e0 l0) (g1 : m1 ≤ W.heap.size) (k1 : (w.heap.size + 2) ≤ m1) (a1 : Option Addr) (e1 m2 : Nat) (t1 : RoomIn W m1 m2 a1 l1.length e1 l1) (g2 : m2 ≤ W.heap.size) (k2 : m1 ≤ m2) (a2 : Option Addr) (e2 m3 : Nat) (t2 : RoomIn W m2 m3 a2 l2.length e2 l2) (g3 : m3 ≤ W.heap.size) (k3 : m2 ≤ m3) (a3 : Option Addr) (e3 m4 : Nat) (t3 : RoomIn W m3 m4 a3 l3.length e3 l3) (g4 : m4 ≤ W.heap.size) (k4 : m3 ≤ m4), Q .normal { tmps := #[.agg #[.slice b0 l0.length c0, .slice b1 l1.length c1, .slice b2 l2.length c2, .slice b3 l3.length c3], .pointer (some ⟨w.heap.size, 0, none⟩), .pointer (some ⟨w.heap.size + 1, 0, none⟩), .slice (some ⟨z0, 0, none⟩) 0 0, .pointer (some ⟨w.heap.size, 0, none⟩), .slice b0 l0.length c0, .slice a0 l0.length e0, .slice (some ⟨z1, 0, none⟩) 0 0, .pointer (some ⟨w.heap.size, 1, none⟩), .slice b1 l1.length c1, .slice a1 l1.length e1, .slice (some ⟨z2, 0, none⟩) 0 0, .pointer (some ⟨w.heap.size, 2, none⟩), .slice b2 l2.length c2, .slice a2 l2.length e2, .slice (some ⟨z3, 0, none⟩) 0 0, .pointer (some ⟨w.heap.size, 3, none⟩), .slice b3 l3.length c3, .slice a3 l3.length e3, .agg #[.slice a0 l0.length e0, .slice a1 l1.length e1, .slice a2 l2.length e2, .slice a3 l3.length e3]], defers := [] } ((((W.setCell ⟨w.heap.size + 1, 0, none⟩ (.slice a0 l0.length e0)).setCell ⟨w.heap.size + 1, 1, none⟩ (.slice a1 l1.length e1)).setCell ⟨w.heap.size + 1, 2, none⟩ (.slice a2 l2.length e2)).setCell ⟨w.heap.size + 1, 3, none⟩ (.slice a3 l3.length e3)))
    (W : World) (hS : ownS w (.slice b0 l0.length c0) (.slice b1 l1.length c1) (.slice b2 l2.length c2) (.slice b3 l3.length c3) W) (z3 : Nat) :
    wpAnyH Try.prog .any ownOps Q (ownS w (.slice b0 l0.length c0) (.slice b1 l1.length c1) (.slice b2 l2.length c2) (.slice b3 l3.length c3)) 9 #[false, true, true, false, false, true, true, false, false, true, true, false, true, true, true, false, false, false] { tmps := #[.agg #[.slice b0 l0.length c0, .slice b1 l1.length c1, .slice b2 l2.length c2, .slice b3 l3.length c3], .pointer (some ⟨w.heap.size, 0, none⟩), .pointer (some ⟨w.heap.size + 1, 0, none⟩), undef, .pointer (some ⟨w.heap.size, 0, none⟩), .slice b0 l0.length c0, undef, undef, .pointer (some ⟨w.heap.size, 1, none⟩), .slice b1 l1.length c1, undef, undef, .pointer (some ⟨w.heap.size, 2, none⟩), .slice b2 l2.length c2, undef, .slice (some ⟨z3, 0, none⟩) 0 0, .pointer (some ⟨w.heap.size, 3, none⟩), .slice b3 l3.length c3, undef, undef], defers := [] } W := by
  refine wpAnyH_ready (rs := [0, 4, 8]) (by kernel_rfl) (by simp) ?_
  refine AllReadyH.cons (o := ownOp0) rfl (fun K hK => ?_) ?_
  · refine step_lit (by rfl) (by rfl) ?_
    intro z0 W' hb
    have hS' := ownS_keep hS hb
    refine hK.out _ _ hS' (fun _ => ?_)
    exact owno_nd0_03 n0 n1 n2 n3 o0 o1 o2 o3 hQ W' hS' z0 z3 
  refine AllReadyH.cons (o := ownOp4) rfl (fun K hK => ?_) ?_
  · refine step_lit (by rfl) (by rfl) ?_
    intro z1 W' hb
    have hS' := ownS_keep hS hb
    refine hK.out _ _ hS' (fun _ => ?_)
    exact owno_nd0_13 n0 n1 n2 n3 o0 o1 o2 o3 hQ W' hS' z1 z3 
  refine AllReadyH.cons (o := ownOp8) rfl (fun K hK => ?_) ?_
  · refine step_lit (by rfl) (by rfl) ?_
    intro z2 W' hb
    have hS' := ownS_keep hS hb
    refine hK.out _ _ hS' (fun _ => ?_)
    exact owno_nd0_23 n0 n1 n2 n3 o0 o1 o2 o3 hQ W' hS' z2 z3 
  exact AllReadyH.nil

set_option maxRecDepth 20000 in
set_option maxHeartbeats 4000000 in
theorem owno_nd0_n {b0 b1 b2 b3 : Option Addr} {c0 c1 c2 c3 : Nat} {l0 l1 l2 l3 : List (Int × Int)} {w : World} {Q : Exit → Act → World → Prop} (n0 : l0.length ≤ 1048576) (n1 : l1.length ≤ 1048576) (n2 : l2.length ≤ 1048576) (n3 : l3.length ≤ 1048576) (o0 : PRow w b0 l0) (o1 : PRow w b1 l1) (o2 : PRow w b2 l2) (o3 : PRow w b3 l3)
    (hQ : ∀ (W : World) (hS : ownS w (.slice b0 l0.length c0) (.slice b1 l1.length c1) (.slice b2 l2.length c2) (.slice b3 l3.length c3) W) (z0 z1 z2 z3 : Nat) (a0 : Option Addr) (e0 m1 : Nat) (t0 : RoomIn W (w.heap.size + 2) m1 a0 l0.length e0 l0) (g1 : m1 ≤ W.heap.size) (k1 : (w.heap.size + 2) ≤ m1) (a1 : Option Addr) (e1 m2 : Nat) (t1 : RoomIn W m1 m2 a1 l1.length e1 l1) (g2 : m2 ≤ W.heap.size) (k2 : m1 ≤ m2) (a2 : Option Addr) (e2 m3 : Nat) (t2 : RoomIn W m2 m3 a2 l2.length e2 l2) (g3 : m3 ≤ W.heap.size) (k3 : m2 ≤ m3) (a3 : Option Addr) (e3 m4 : Nat) (t3 : RoomIn W m3 m4 a3 l3.length e3 l3) (g4 : m4 ≤ W.heap.size) (k4 : m3 ≤ m4), Q .normal { tmps := #[.agg #[.slice b0 l0.length c0, .slice b1 l1.length c1, .slice b2 l2.length c2, .slice b3 l3.length c3], .pointer (some ⟨w.heap.size, 0, none⟩), .pointer (some ⟨w.heap.size + 1, 0, none⟩), .slice (some ⟨z0, 0, none⟩) 0 0, .pointer (some ⟨w.heap.size, 0, none⟩), .slice b0 l0.length c0, .slice a0 l0.length e0, .slice (some ⟨z1, 0, none⟩) 0 0, .pointer (some ⟨w.heap.size, 1, none⟩), .slice b1 l1.length c1, .slice a1 l1.length e1, .slice (some ⟨z2, 0, none⟩) 0 0, .pointer (some ⟨w.heap.size, 2, none⟩), .slice b2 l2.length c2, .slice a2 l2.length e2, .slice (some ⟨z3, 0, none⟩) 0 0, .pointer (some ⟨w.heap.size, 3, none⟩), .slice b3 l3.length c3, .slice a3 l3.length e3, .agg #[.slice a0 l0.length e0, .slice a1 l1.length e1, .slice a2 l2.length e2, .slice a3 l3.length e3]], defers := [] } ((((W.setCell ⟨w.heap.size + 1, 0, none⟩ (.slice a0 l0.length e0)).setCell ⟨w.heap.size + 1, 1, none⟩ (.slice a1 l1.length e1)).setCell ⟨w.heap.size + 1, 2, none⟩ (.slice a2 l2.length e2)).setCell ⟨w.heap.size + 1, 3, none⟩ (.slice a3 l3.length e3)))
    (W : World) (hS : ownS w (.slice b0 l0.length c0) (.slice b1 l1.length c1) (.slice b2 l2.length c2) (.slice b3 l3.length c3) W) :
    wpAnyH Try.prog .any ownOps Q (ownS w (.slice b0 l0.length c0) (.slice b1 l1.length c1) (.slice b2 l2.length c2) (.slice b3 l3.length c3)) 10 #[false, true, true, false, false, true, true, false, false, true, true, false, false, true, true, false, false, false] { tmps := #[.agg #[.slice b0 l0.length c0, .slice b1 l1.length c1, .slice b2 l2.length c2, .slice b3 l3.length c3], .pointer (some ⟨w.heap.size, 0, none⟩), .pointer (some ⟨w.heap.size + 1, 0, none⟩), undef, .pointer (some ⟨w.heap.size, 0, none⟩), .slice b0 l0.length c0, undef, undef, .pointer (some ⟨w.heap.size, 1, none⟩), .slice b1 l1.length c1, undef, undef, .pointer (some ⟨w.heap.size, 2, none⟩), .slice b2 l2.length c2, undef, undef, .pointer (some ⟨w.heap.size, 3, none⟩), .slice b3 l3.length c3, undef, undef], defers := [] } W := by
  refine wpAnyH_ready (rs := [0, 4, 8, 12]) (by kernel_rfl) (by simp) ?_
  refine AllReadyH.cons (o := ownOp0) rfl (fun K hK => ?_) ?_
  · refine step_lit (by rfl) (by rfl) ?_
    intro z0 W' hb
    have hS' := ownS_keep hS hb
    refine hK.out _ _ hS' (fun _ => ?_)
    exact owno_nd0_0 n0 n1 n2 n3 o0 o1 o2 o3 hQ W' hS' z0 
  refine AllReadyH.cons (o := ownOp4) rfl (fun K hK => ?_) ?_
  · refine step_lit (by rfl) (by rfl) ?_
    intro z1 W' hb
    have hS' := ownS_keep hS hb
    refine hK.out _ _ hS' (fun _ => ?_)
    exact owno_nd0_1 n0 n1 n2 n3 o0 o1 o2 o3 hQ W' hS' z1 
  refine AllReadyH.cons (o := ownOp8) rfl (fun K hK => ?_) ?_
  · refine step_lit (by rfl) (by rfl) ?_
    intro z2 W' hb
    have hS' := ownS_keep hS hb
    refine hK.out _ _ hS' (fun _ => ?_)
    exact owno_nd0_2 n0 n1 n2 n3 o0 o1 o2 o3 hQ W' hS' z2 
  refine AllReadyH.cons (o := ownOp12) rfl (fun K hK => ?_) ?_
  · refine step_lit (by rfl) (by rfl) ?_
    intro z3 W' hb
    have hS' := ownS_keep hS hb
    refine hK.out _ _ hS' (fun _ => ?_)
    exact owno_nd0_3 n0 n1 n2 n3 o0 o1 o2 o3 hQ W' hS' z3 
  exact AllReadyH.nil

set_option maxHeartbeats 4000000 in
theorem l1owno_any (b0 b1 b2 b3 : Option Addr) (c0 c1 c2 c3 : Nat) (l0 l1 l2 l3 : List (Int × Int)) (w : World) (n0 : l0.length ≤ 1048576) (n1 : l1.length ≤ 1048576) (n2 : l2.length ≤ 1048576) (n3 : l3.length ≤ 1048576) (o0 : PRow w b0 l0) (o1 : PRow w b1 l1) (o2 : PRow w b2 l2) (o3 : PRow w b3 l3) :
    Calls Try.prog 150 #[.agg #[.slice b0 l0.length c0, .slice b1 l1.length c1, .slice b2 l2.length c2, .slice b3 l3.length c3]] w fun e w' => ∃ a0 a1 a2 a3 e0 e1 e2 e3 m1 m2 m3 m4,
      e = .returned (.agg #[.slice a0 l0.length e0, .slice a1 l1.length e1, .slice a2 l2.length e2, .slice a3 l3.length e3]) ∧
      RoomIn w' (w.heap.size + 2) m1 a0 l0.length e0 l0 ∧ RoomIn w' m1 m2 a1 l1.length e1 l1 ∧ RoomIn w' m2 m3 a2 l2.length e2 l2 ∧ RoomIn w' m3 m4 a3 l3.length e3 l3 ∧ w.heap.size + 2 ≤ m1 ∧ m1 ≤ m2 ∧ m2 ≤ m3 ∧ m3 ≤ m4 ∧ m4 ≤ w'.heap.size ∧ Below w.heap.size w w' := by
  have B0 := (Box.new w (.slice b0 l0.length c0) (.slice b1 l1.length c1) (.slice b2 l2.length c2) (.slice b3 l3.length c3) 28).below ((Below.refl _ _).alloc (Nat.le_refl _) (.cells #[.slice none 0 0, .slice none 0 0, .slice none 0 0, .slice none 0 0] 28)) (by simp)
  have R0 := Box.new (w.alloc (.cells #[.slice b0 l0.length c0, .slice b1 l1.length c1, .slice b2 l2.length c2, .slice b3 l3.length c3] 28)) (.slice none 0 0) (.slice none 0 0) (.slice none 0 0) (.slice none 0 0) 28
  have L0 : Below w.heap.size w ((w.alloc (.cells #[.slice b0 l0.length c0, .slice b1 l1.length c1, .slice b2 l2.length c2, .slice b3 l3.length c3] 28)).alloc (.cells #[.slice none 0 0, .slice none 0 0, .slice none 0 0, .slice none 0 0] 28)) := ((Below.refl _ _).alloc (Nat.le_refl _) _).alloc (by simp) _
  rw [World.size_alloc] at R0
  go_enter Try.func150, Try.ntmps150
  go_wp2
  generalize (w.alloc (.cells #[.slice b0 l0.length c0, .slice b1 l1.length c1, .slice b2 l2.length c2, .slice b3 l3.length c3] 28)).alloc (.cells #[.slice none 0 0, .slice none 0 0, .slice none 0 0, .slice none 0 0] 28) = W0 at *
  have O0 : Own W0.drew (w.heap.size + 1) 2 [] 0 := ⟨R0.lt, fun j hj => by
    have : j = 0 ∨ j = 1 ∨ j = 2 ∨ j = 3 := by omega
    rcases this with rfl | rfl | rfl | rfl
    · exact ⟨⟨_, R0.c0⟩, R0.f0⟩
    · exact ⟨⟨_, R0.c1⟩, R0.f1⟩
    · exact ⟨⟨_, R0.c2⟩, R0.f2⟩
    · exact ⟨⟨_, R0.c3⟩, R0.f3⟩, fun i hi => by omega⟩
  have hS0 : ownS w (.slice b0 l0.length c0) (.slice b1 l1.length c1) (.slice b2 l2.length c2) (.slice b3 l3.length c3) W0.drew := ⟨L0.drew, O0, B0.c0, B0.c1, B0.c2, B0.c3⟩
  clear R0 B0 O0
  refine wp_region_held_drew (S := ownS w (.slice b0 l0.length c0) (.slice b1 l1.length c1) (.slice b2 l2.length c2) (.slice b3 l3.length c3)) (by kernel_rfl) hS0 (fun _ => ?_)
  show wpAnyH Try.prog .any ownOps _ (ownS w (.slice b0 l0.length c0) (.slice b1 l1.length c1) (.slice b2 l2.length c2) (.slice b3 l3.length c3)) 18 #[false, false, false, false, false, false, false, false, false, false, false, false, false, false, false, false, false, false] { tmps := #[.agg #[.slice b0 l0.length c0, .slice b1 l1.length c1, .slice b2 l2.length c2, .slice b3 l3.length c3], .pointer (some ⟨w.heap.size, 0, none⟩), .pointer (some ⟨w.heap.size + 1, 0, none⟩), undef, undef, undef, undef, undef, undef, undef, undef, undef, undef, undef, undef, undef, undef, undef, undef, undef], defers := [] } W0.drew
  refine wpAnyH_take (i := 1) (oi := { dst := some 4, op := Op.fieldAddr 28 (Operand.tmp 1) 0, type := 0, pos := "l01_asn.go:137", after := #[], guard := none }) (v := .pointer (some ⟨w.heap.size, 0, none⟩)) rfl (by kernel_rfl) (by kernel_rfl) (by kernel_rfl) (fun _ _ _ h => h) (Or.inl ⟨by rfl, ?_⟩) hS0 ?_
  · intro W hSw; unfold ownS at hSw; obtain ⟨-, -, s0, s1, s2, s3⟩ := hSw; go_simp
  show wpAnyH Try.prog .any ownOps _ (ownS w (.slice b0 l0.length c0) (.slice b1 l1.length c1) (.slice b2 l2.length c2) (.slice b3 l3.length c3)) 17 #[false, true, false, false, false, false, false, false, false, false, false, false, false, false, false, false, false, false] { tmps := #[.agg #[.slice b0 l0.length c0, .slice b1 l1.length c1, .slice b2 l2.length c2, .slice b3 l3.length c3], .pointer (some ⟨w.heap.size, 0, none⟩), .pointer (some ⟨w.heap.size + 1, 0, none⟩), undef, .pointer (some ⟨w.heap.size, 0, none⟩), undef, undef, undef, undef, undef, undef, undef, undef, undef, undef, undef, undef, undef, undef, undef], defers := [] } W0.drew
  refine wpAnyH_take (i := 2) (oi := { dst := some 5, op := Op.load 26 (Operand.tmp 4), type := 26, pos := "l01_asn.go:137", after := #[{ on := 1, ground := Ground.data }], guard := none }) (v := .slice b0 l0.length c0) rfl (by kernel_rfl) (by kernel_rfl) (by kernel_rfl) (fun _ _ _ h => h) (Or.inl ⟨by rfl, ?_⟩) hS0 ?_
  · intro W hSw; unfold ownS at hSw; obtain ⟨-, -, s0, s1, s2, s3⟩ := hSw; go_simp
  show wpAnyH Try.prog .any ownOps _ (ownS w (.slice b0 l0.length c0) (.slice b1 l1.length c1) (.slice b2 l2.length c2) (.slice b3 l3.length c3)) 16 #[false, true, true, false, false, false, false, false, false, false, false, false, false, false, false, false, false, false] { tmps := #[.agg #[.slice b0 l0.length c0, .slice b1 l1.length c1, .slice b2 l2.length c2, .slice b3 l3.length c3], .pointer (some ⟨w.heap.size, 0, none⟩), .pointer (some ⟨w.heap.size + 1, 0, none⟩), undef, .pointer (some ⟨w.heap.size, 0, none⟩), .slice b0 l0.length c0, undef, undef, undef, undef, undef, undef, undef, undef, undef, undef, undef, undef, undef, undef], defers := [] } W0.drew
  refine wpAnyH_take (i := 5) (oi := { dst := some 8, op := Op.fieldAddr 28 (Operand.tmp 1) 1, type := 0, pos := "l01_asn.go:137", after := #[], guard := none }) (v := .pointer (some ⟨w.heap.size, 1, none⟩)) rfl (by kernel_rfl) (by kernel_rfl) (by kernel_rfl) (fun _ _ _ h => h) (Or.inl ⟨by rfl, ?_⟩) hS0 ?_
  · intro W hSw; unfold ownS at hSw; obtain ⟨-, -, s0, s1, s2, s3⟩ := hSw; go_simp
  show wpAnyH Try.prog .any ownOps _ (ownS w (.slice b0 l0.length c0) (.slice b1 l1.length c1) (.slice b2 l2.length c2) (.slice b3 l3.length c3)) 15 #[false, true, true, false, false, true, false, false, false, false, false, false, false, false, false, false, false, false] { tmps := #[.agg #[.slice b0 l0.length c0, .slice b1 l1.length c1, .slice b2 l2.length c2, .slice b3 l3.length c3], .pointer (some ⟨w.heap.size, 0, none⟩), .pointer (some ⟨w.heap.size + 1, 0, none⟩), undef, .pointer (some ⟨w.heap.size, 0, none⟩), .slice b0 l0.length c0, undef, undef, .pointer (some ⟨w.heap.size, 1, none⟩), undef, undef, undef, undef, undef, undef, undef, undef, undef, undef, undef], defers := [] } W0.drew
  refine wpAnyH_take (i := 6) (oi := { dst := some 9, op := Op.load 26 (Operand.tmp 8), type := 26, pos := "l01_asn.go:137", after := #[{ on := 5, ground := Ground.data }], guard := none }) (v := .slice b1 l1.length c1) rfl (by kernel_rfl) (by kernel_rfl) (by kernel_rfl) (fun _ _ _ h => h) (Or.inl ⟨by rfl, ?_⟩) hS0 ?_
  · intro W hSw; unfold ownS at hSw; obtain ⟨-, -, s0, s1, s2, s3⟩ := hSw; go_simp
  show wpAnyH Try.prog .any ownOps _ (ownS w (.slice b0 l0.length c0) (.slice b1 l1.length c1) (.slice b2 l2.length c2) (.slice b3 l3.length c3)) 14 #[false, true, true, false, false, true, true, false, false, false, false, false, false, false, false, false, false, false] { tmps := #[.agg #[.slice b0 l0.length c0, .slice b1 l1.length c1, .slice b2 l2.length c2, .slice b3 l3.length c3], .pointer (some ⟨w.heap.size, 0, none⟩), .pointer (some ⟨w.heap.size + 1, 0, none⟩), undef, .pointer (some ⟨w.heap.size, 0, none⟩), .slice b0 l0.length c0, undef, undef, .pointer (some ⟨w.heap.size, 1, none⟩), .slice b1 l1.length c1, undef, undef, undef, undef, undef, undef, undef, undef, undef, undef], defers := [] } W0.drew
  refine wpAnyH_take (i := 9) (oi := { dst := some 12, op := Op.fieldAddr 28 (Operand.tmp 1) 2, type := 0, pos := "l01_asn.go:137", after := #[], guard := none }) (v := .pointer (some ⟨w.heap.size, 2, none⟩)) rfl (by kernel_rfl) (by kernel_rfl) (by kernel_rfl) (fun _ _ _ h => h) (Or.inl ⟨by rfl, ?_⟩) hS0 ?_
  · intro W hSw; unfold ownS at hSw; obtain ⟨-, -, s0, s1, s2, s3⟩ := hSw; go_simp
  show wpAnyH Try.prog .any ownOps _ (ownS w (.slice b0 l0.length c0) (.slice b1 l1.length c1) (.slice b2 l2.length c2) (.slice b3 l3.length c3)) 13 #[false, true, true, false, false, true, true, false, false, true, false, false, false, false, false, false, false, false] { tmps := #[.agg #[.slice b0 l0.length c0, .slice b1 l1.length c1, .slice b2 l2.length c2, .slice b3 l3.length c3], .pointer (some ⟨w.heap.size, 0, none⟩), .pointer (some ⟨w.heap.size + 1, 0, none⟩), undef, .pointer (some ⟨w.heap.size, 0, none⟩), .slice b0 l0.length c0, undef, undef, .pointer (some ⟨w.heap.size, 1, none⟩), .slice b1 l1.length c1, undef, undef, .pointer (some ⟨w.heap.size, 2, none⟩), undef, undef, undef, undef, undef, undef, undef], defers := [] } W0.drew
  refine wpAnyH_take (i := 10) (oi := { dst := some 13, op := Op.load 26 (Operand.tmp 12), type := 26, pos := "l01_asn.go:137", after := #[{ on := 9, ground := Ground.data }], guard := none }) (v := .slice b2 l2.length c2) rfl (by kernel_rfl) (by kernel_rfl) (by kernel_rfl) (fun _ _ _ h => h) (Or.inl ⟨by rfl, ?_⟩) hS0 ?_
  · intro W hSw; unfold ownS at hSw; obtain ⟨-, -, s0, s1, s2, s3⟩ := hSw; go_simp
  show wpAnyH Try.prog .any ownOps _ (ownS w (.slice b0 l0.length c0) (.slice b1 l1.length c1) (.slice b2 l2.length c2) (.slice b3 l3.length c3)) 12 #[false, true, true, false, false, true, true, false, false, true, true, false, false, false, false, false, false, false] { tmps := #[.agg #[.slice b0 l0.length c0, .slice b1 l1.length c1, .slice b2 l2.length c2, .slice b3 l3.length c3], .pointer (some ⟨w.heap.size, 0, none⟩), .pointer (some ⟨w.heap.size + 1, 0, none⟩), undef, .pointer (some ⟨w.heap.size, 0, none⟩), .slice b0 l0.length c0, undef, undef, .pointer (some ⟨w.heap.size, 1, none⟩), .slice b1 l1.length c1, undef, undef, .pointer (some ⟨w.heap.size, 2, none⟩), .slice b2 l2.length c2, undef, undef, undef, undef, undef, undef], defers := [] } W0.drew
  refine wpAnyH_take (i := 13) (oi := { dst := some 16, op := Op.fieldAddr 28 (Operand.tmp 1) 3, type := 0, pos := "l01_asn.go:137", after := #[], guard := none }) (v := .pointer (some ⟨w.heap.size, 3, none⟩)) rfl (by kernel_rfl) (by kernel_rfl) (by kernel_rfl) (fun _ _ _ h => h) (Or.inl ⟨by rfl, ?_⟩) hS0 ?_
  · intro W hSw; unfold ownS at hSw; obtain ⟨-, -, s0, s1, s2, s3⟩ := hSw; go_simp
  show wpAnyH Try.prog .any ownOps _ (ownS w (.slice b0 l0.length c0) (.slice b1 l1.length c1) (.slice b2 l2.length c2) (.slice b3 l3.length c3)) 11 #[false, true, true, false, false, true, true, false, false, true, true, false, false, true, false, false, false, false] { tmps := #[.agg #[.slice b0 l0.length c0, .slice b1 l1.length c1, .slice b2 l2.length c2, .slice b3 l3.length c3], .pointer (some ⟨w.heap.size, 0, none⟩), .pointer (some ⟨w.heap.size + 1, 0, none⟩), undef, .pointer (some ⟨w.heap.size, 0, none⟩), .slice b0 l0.length c0, undef, undef, .pointer (some ⟨w.heap.size, 1, none⟩), .slice b1 l1.length c1, undef, undef, .pointer (some ⟨w.heap.size, 2, none⟩), .slice b2 l2.length c2, undef, undef, .pointer (some ⟨w.heap.size, 3, none⟩), undef, undef, undef], defers := [] } W0.drew
  refine wpAnyH_take (i := 14) (oi := { dst := some 17, op := Op.load 26 (Operand.tmp 16), type := 26, pos := "l01_asn.go:137", after := #[{ on := 13, ground := Ground.data }], guard := none }) (v := .slice b3 l3.length c3) rfl (by kernel_rfl) (by kernel_rfl) (by kernel_rfl) (fun _ _ _ h => h) (Or.inl ⟨by rfl, ?_⟩) hS0 ?_
  · intro W hSw; unfold ownS at hSw; obtain ⟨-, -, s0, s1, s2, s3⟩ := hSw; go_simp
  show wpAnyH Try.prog .any ownOps _ (ownS w (.slice b0 l0.length c0) (.slice b1 l1.length c1) (.slice b2 l2.length c2) (.slice b3 l3.length c3)) 10 #[false, true, true, false, false, true, true, false, false, true, true, false, false, true, true, false, false, false] { tmps := #[.agg #[.slice b0 l0.length c0, .slice b1 l1.length c1, .slice b2 l2.length c2, .slice b3 l3.length c3], .pointer (some ⟨w.heap.size, 0, none⟩), .pointer (some ⟨w.heap.size + 1, 0, none⟩), undef, .pointer (some ⟨w.heap.size, 0, none⟩), .slice b0 l0.length c0, undef, undef, .pointer (some ⟨w.heap.size, 1, none⟩), .slice b1 l1.length c1, undef, undef, .pointer (some ⟨w.heap.size, 2, none⟩), .slice b2 l2.length c2, undef, undef, .pointer (some ⟨w.heap.size, 3, none⟩), .slice b3 l3.length c3, undef, undef], defers := [] } W0.drew
  refine owno_nd0_n n0 n1 n2 n3 o0 o1 o2 o3 ?_ _ hS0
  intro W hS z0 z1 z2 z3 a0 e0 m1 t0 g1 k1 a1 e1 m2 t1 g2 k2 a2 e2 m3 t2 g3 k3 a3 e3 m4 t3 g4 k4
  obtain ⟨F, FO⟩ := Own.fill hS.2.1 (.slice a0 l0.length e0) (.slice a1 l1.length e1) (.slice a2 l2.length e2) (.slice a3 l3.length e3)
  have hz := FO.size
  have hB := hS.1
  have q0 := t0.out FO (by omega); have q1 := t1.out FO (by omega); have q2 := t2.out FO (by omega); have q3 := t3.out FO (by omega)
  clear hS
  go_wp2
  have i0 := F.c0; have i1 := F.c1; have i2 := F.c2; have i3 := F.c3
  refine bodyPost_ret (v := .agg #[.slice a0 l0.length e0, .slice a1 l1.length e1, .slice a2 l2.length e2, .slice a3 l3.length e3]) ?_ rfl ⟨a0, a1, a2, a3, e0, e1, e2, e3, m1, m2, m3, m4, rfl, ?_, ?_, ?_, ?_, k1, k2, k3, k4, ?_, ?_⟩
  · simp [results, Try.results150, go_sem, i0, i1, i2, i3]
  · exact q0
  · exact q1
  · exact q2
  · exact q3
  · omega
  · exact hB.trans (FO.below (by omega) hB.size)

end Go.Proofs.Ytphchdjbhbmnbaa
namespace Go.Proofs.Ytphchdjbhbmnbaa
open Go.RowKit
set_option linter.unusedVariables false

def roomB (l0 l1 l2 l3 : List (Int × Int)) : Bool := asnB l0 l1 l2 l3 && decide (l0.length + l3.length ≤ 12) && decide (l1.length + l3.length ≤ 12)

set_option maxRecDepth 20000 in
set_option maxHeartbeats 2000000 in
theorem l4room_any (a0 a1 a2 a3 : Option Addr) (c0 c1 c2 c3 : Nat) (l0 l1 l2 l3 : List (Int × Int)) (w : World) (n0 : l0.length ≤ 1048576) (n1 : l1.length ≤ 1048576) (n2 : l2.length ≤ 1048576) (n3 : l3.length ≤ 1048576) (r0 : PRow w a0 l0) (r1 : PRow w a1 l1) (r2 : PRow w a2 l2) (r3 : PRow w a3 l3) :
    Calls Try.prog 170 #[.agg #[.slice a0 l0.length c0, .slice a1 l1.length c1, .slice a2 l2.length c2, .slice a3 l3.length c3]] w fun e w' => e = .returned (.bool (roomB l0 l1 l2 l3)) ∧ Below w.heap.size w w' := by
  have A0 := Box.new w (.slice a0 l0.length c0) (.slice a1 l1.length c1) (.slice a2 l2.length c2) (.slice a3 l3.length c3) 28
  have L0 : Below w.heap.size w (w.alloc (.cells #[.slice a0 l0.length c0, .slice a1 l1.length c1, .slice a2 l2.length c2, .slice a3 l3.length c3] 28)) := (Below.refl _ _).alloc (Nat.le_refl _) _
  have A0c0 := A0.c0; have A0c1 := A0.c1; have A0c2 := A0.c2; have A0c3 := A0.c3
  go_enter Try.func170, Try.ntmps170
  go_wp2_with fail
  clear A0c0 A0c1 A0c2 A0c3
  refine (sAsnOk_any _ _ _ _ _ _ _ _ l0 l1 l2 l3 _ n0 n1 n2 n3 (r0.below L0 (Nat.le_refl _)) (r1.below L0 (Nat.le_refl _)) (r2.below L0 (Nat.le_refl _)) (r3.below L0 (Nat.le_refl _))).mono ?_
  rintro e w1 ⟨rfl, hb⟩
  replace A0 := A0.below hb A0.lt; replace L0 := L0.trans (hb.mono L0.size)
  have A0c0 := A0.c0; have A0c1 := A0.c1; have A0c3 := A0.c3
  clear hb r0 r1 r2 r3 A0
  obtain ⟨ok, hok⟩ : ∃ ok, Hid (asnB l0 l1 l2 l3 = ok) := ⟨_, rfl⟩
  rw [hok.out]
  cases ok
  · have HE : Hid (roomB l0 l1 l2 l3 = false) := by show roomB _ _ _ _ = _; unfold roomB; rw [hok.out]; rfl
    go_wp2
    go_ret
    exact ⟨ret_bool (by rw [HE.out]), L0⟩
  by_cases h1 : (l0.length : Int) + (l3.length : Int) ≤ 12
  · by_cases h2 : (l1.length : Int) + (l3.length : Int) ≤ 12
    · have HE : Hid (roomB l0 l1 l2 l3 = true) := by show roomB _ _ _ _ = _; unfold roomB; rw [hok.out, decide_eq_true (by omega), decide_eq_true (by omega)]; rfl
      go_wp2
      go_ret
      exact ⟨ret_bool (by rw [HE.out]), L0⟩
    · have HE : Hid (roomB l0 l1 l2 l3 = false) := by show roomB _ _ _ _ = _; unfold roomB; rw [decide_eq_false (p := l1.length + l3.length ≤ 12) (by omega)]; simp
      go_wp2
      go_ret
      exact ⟨ret_bool (by rw [HE.out]; exact decide_eq_false (by omega)), L0⟩
  · have HE : Hid (roomB l0 l1 l2 l3 = false) := by show roomB _ _ _ _ = _; unfold roomB; rw [decide_eq_false (p := l0.length + l3.length ≤ 12) (by omega)]; simp
    go_wp2
    go_ret
    exact ⟨ret_bool (by rw [HE.out]), L0⟩

set_option maxRecDepth 20000 in
set_option maxHeartbeats 2000000 in
theorem hasRoom_any (a0 a1 a2 a3 : Option Addr) (c0 c1 c2 c3 : Nat) (l0 l1 l2 l3 : List (Int × Int)) (w : World) (n0 : l0.length ≤ 1048576) (n1 : l1.length ≤ 1048576) (n2 : l2.length ≤ 1048576) (n3 : l3.length ≤ 1048576) (r0 : PRow w a0 l0) (r1 : PRow w a1 l1) (r2 : PRow w a2 l2) (r3 : PRow w a3 l3) :
    Calls Try.prog 172 #[.agg #[.slice a0 l0.length c0, .slice a1 l1.length c1, .slice a2 l2.length c2, .slice a3 l3.length c3]] w fun e w' => e = .returned (.bool (roomB l0 l1 l2 l3)) ∧ Below w.heap.size w w' := by
  have A0 := Box.new w (.slice a0 l0.length c0) (.slice a1 l1.length c1) (.slice a2 l2.length c2) (.slice a3 l3.length c3) 28
  have L0 : Below w.heap.size w (w.alloc (.cells #[.slice a0 l0.length c0, .slice a1 l1.length c1, .slice a2 l2.length c2, .slice a3 l3.length c3] 28)) := (Below.refl _ _).alloc (Nat.le_refl _) _
  have A0c0 := A0.c0; have A0c1 := A0.c1; have A0c2 := A0.c2; have A0c3 := A0.c3
  go_enter Try.func172, Try.ntmps172
  go_wp2_with fail
  clear A0c0 A0c1 A0c2 A0c3
  refine (iAsnOk_any _ _ _ _ _ _ _ _ l0 l1 l2 l3 _ n0 n1 n2 n3 (r0.below L0 (Nat.le_refl _)) (r1.below L0 (Nat.le_refl _)) (r2.below L0 (Nat.le_refl _)) (r3.below L0 (Nat.le_refl _))).mono ?_
  rintro e w1 ⟨rfl, hb⟩
  replace A0 := A0.below hb A0.lt; replace L0 := L0.trans (hb.mono L0.size)
  have A0c0 := A0.c0; have A0c1 := A0.c1; have A0c3 := A0.c3
  clear hb r0 r1 r2 r3 A0
  obtain ⟨ok, hok⟩ : ∃ ok, Hid (asnB l0 l1 l2 l3 = ok) := ⟨_, rfl⟩
  rw [hok.out]
  cases ok
  · have HE : Hid (roomB l0 l1 l2 l3 = false) := by show roomB _ _ _ _ = _; unfold roomB; rw [hok.out]; rfl
    go_wp2
    go_ret
    exact ⟨ret_bool (by rw [HE.out]), L0⟩
  by_cases h1 : (l0.length : Int) + (l3.length : Int) ≤ 12
  · by_cases h2 : (l1.length : Int) + (l3.length : Int) ≤ 12
    · have HE : Hid (roomB l0 l1 l2 l3 = true) := by show roomB _ _ _ _ = _; unfold roomB; rw [hok.out, decide_eq_true (by omega), decide_eq_true (by omega)]; rfl
      go_wp2
      go_ret
      exact ⟨ret_bool (by rw [HE.out]), L0⟩
    · have HE : Hid (roomB l0 l1 l2 l3 = false) := by show roomB _ _ _ _ = _; unfold roomB; rw [decide_eq_false (p := l1.length + l3.length ≤ 12) (by omega)]; simp
      go_wp2
      go_ret
      exact ⟨ret_bool (by rw [HE.out]; exact decide_eq_false (by omega)), L0⟩
  · have HE : Hid (roomB l0 l1 l2 l3 = false) := by show roomB _ _ _ _ = _; unfold roomB; rw [decide_eq_false (p := l0.length + l3.length ≤ 12) (by omega)]; simp
    go_wp2
    go_ret
    exact ⟨ret_bool (by rw [HE.out]), L0⟩

end Go.Proofs.Ytphchdjbhbmnbaa
namespace Go.Proofs.Ytphchdjbhbmnbaa
open Go.RowKit

/-- Block b of w is a row of n integers of the call's own, the first k of which are those of l. -/
def OwnI (w : World) (b n : Nat) (l : List Int) (k : Nat) : Prop :=
  b < w.heap.size ∧ (∀ j, j < n → (∃ v, w.cell? ⟨b, j, none⟩ = some v) ∧ w.frozen? ⟨b, j, none⟩ = false) ∧ ∀ i, i < k → w.cell? ⟨b, i, none⟩ = some (.int .i64 (l.getD i 0))

theorem OwnI.below {B : Nat} {w w' : World} {b n k : Nat} {l : List Int} (h : OwnI w b n l k) (hb : Below B w w') (hB : b < B) : OwnI w' b n l k := by
  obtain ⟨h1, h2, h3⟩ := h
  refine ⟨Nat.lt_of_lt_of_le h1 hb.size, fun j hj => ?_, fun i hi => ?_⟩
  · rw [hb.cell (p := ⟨b, j, none⟩) hB, hb.frozen (p := ⟨b, j, none⟩) hB]; exact h2 j hj
  · rw [hb.cell (p := ⟨b, _, none⟩) hB]; exact h3 i hi

theorem OwnI.out {lo hi : Nat} {w w' : World} {b n k : Nat} {l : List Int} (h : OwnI w b n l k) (ho : Out lo hi w w') (hr : b < lo ∨ hi ≤ b) : OwnI w' b n l k := by
  obtain ⟨h1, h2, h3⟩ := h
  have e : ∀ o, w'.cell? ⟨b, o, none⟩ = w.cell? ⟨b, o, none⟩ := fun o => World.cell?_of_block (w := w) (ho.block b h1 hr)
  have f : ∀ o, w'.frozen? ⟨b, o, none⟩ = w.frozen? ⟨b, o, none⟩ := fun o => World.frozen?_of_block (w := w) (ho.block b h1 hr)
  refine ⟨Nat.lt_of_lt_of_le h1 ho.size, fun j hj => ?_, fun i hi => ?_⟩
  · rw [e, f]; exact h2 j hj
  · rw [e]; exact h3 i hi

theorem OwnI.step {w : World} {b n k : Nat} {l : List Int} (h : OwnI w b n l k) (hk : k < n) : OwnI (w.setCell ⟨b, k, none⟩ (.int .i64 (l.getD k 0))) b n l (k + 1) := by
  obtain ⟨h1, h2, h3⟩ := h
  refine ⟨by simpa using h1, fun j hj => ⟨?_, by simpa using (h2 j hj).2⟩, fun i hi => ?_⟩
  · obtain ⟨v, hv⟩ := (h2 j hj).1
    exact ⟨_, cell_set hv⟩
  · by_cases e : i = k
    · subst e
      obtain ⟨v, hv⟩ := (h2 i (by omega)).1
      rw [cell_set hv, if_pos rfl]
    · rw [cell_set (h3 i (by omega)), if_neg (by omega)]

theorem OwnI.zero {w : World} {b n k : Nat} {l m : List Int} (h : OwnI w b n l k) : OwnI w b n m 0 := ⟨h.1, h.2.1, fun i hi => by omega⟩

/-- A slice of n integers that reads as l, in a block of the call's own from lo to hi. -/
def IntIn (w : World) (lo hi : Nat) (a : Option Addr) (n : Nat) (l : List Int) : Prop :=
  l.length = n ∧ (n = 0 ∨ ∃ b, a = some ⟨b, 0, none⟩ ∧ lo ≤ b ∧ b < hi ∧ OwnI w b n l n)

theorem IntIn.out {lo hi lo' hi' : Nat} {w w' : World} {a : Option Addr} {n : Nat} {l : List Int} (h : IntIn w lo hi a n l) (ho : Out lo' hi' w w') (hr : hi ≤ lo' ∨ hi' ≤ lo) : IntIn w' lo hi a n l := by
  obtain ⟨hl, h0 | ⟨b, rfl, h1, h2, h3⟩⟩ := h
  · exact ⟨hl, .inl h0⟩
  · exact ⟨hl, .inr ⟨b, rfl, h1, h2, h3.out ho (by omega)⟩⟩

theorem IntIn.below {lo hi B : Nat} {w w' : World} {a : Option Addr} {n : Nat} {l : List Int} (h : IntIn w lo hi a n l) (ho : Below B w w') (hr : hi ≤ B) : IntIn w' lo hi a n l := by
  obtain ⟨hl, h0 | ⟨b, rfl, h1, h2, h3⟩⟩ := h
  · exact ⟨hl, .inl h0⟩
  · exact ⟨hl, .inr ⟨b, rfl, h1, h2, h3.below ho (by omega)⟩⟩

theorem IntIn.mono {lo hi lo' hi' : Nat} {w : World} {a : Option Addr} {n : Nat} {l : List Int} (h : IntIn w lo hi a n l) (h1 : lo' ≤ lo) (h2 : hi ≤ hi') : IntIn w lo' hi' a n l := by
  obtain ⟨hl, h0 | ⟨b, rfl, h3, h4, h5⟩⟩ := h
  · exact ⟨hl, .inl h0⟩
  · exact ⟨hl, .inr ⟨b, rfl, by omega, by omega, h5⟩⟩

def ic (l : List Int) : List Value := l.map fun x => Value.int .i64 x
theorem ic_length (l : List Int) : (ic l).length = l.length * 1 := by simp [ic]

theorem OwnI.ofOwns {w : World} {base n g cap : Nat} {l : List Int} (h : w.ownsRow base 3 1 (.slice (some ⟨g, 0, none⟩) n cap) n (ic l)) : l.length = n ∧ base ≤ g ∧ OwnI w g n l n := by
  have hl : l.length = n := by have := h.1; rw [ic_length] at this; omega
  obtain ⟨hb, hlt⟩ := h.lt g rfl
  refine ⟨hl, hb, hlt, fun j hj => ⟨?_, h.frozenAt j⟩, fun i hi => ?_⟩
  · rw [h.cellAt j (by omega)]
    exact ⟨(ic l)[j]'(by rw [ic_length]; omega), by rw [List.getElem?_eq_getElem]⟩
  · rw [h.cellAt _ (by omega)]
    have hi' : i < l.length := by omega
    simp [ic, hi']

theorem IntIn.ofOwns {w : World} {base n : Nat} {v : Value} {l : List Int} (h : w.ownsRow base 3 1 v n (ic l)) : ∃ a cap, v = .slice a n cap ∧ IntIn w base w.heap.size a n l := by
  rcases h.2 with ⟨rfl, rfl⟩ | ⟨g, cap, cur, rfl, _⟩
  · exact ⟨none, 0, rfl, by have := h.1; rw [ic_length] at this; omega, .inl rfl⟩
  · obtain ⟨hl, hb, ho⟩ := OwnI.ofOwns h
    exact ⟨_, _, rfl, hl, .inr ⟨g, rfl, hb, ho.1, ho⟩⟩

def imarks (k : Int) (n : Nat) : List Int := (List.range n).map fun (i : Nat) => k + 1 * i
theorem imarks_length (k : Int) (n : Nat) : (imarks k n).length = n := by simp [imarks]
theorem imarks_at (k : Int) (n : Nat) {i : Nat} (h : i < n) : (imarks k n).getD i 0 = k + i := by simp [imarks, h]

set_option maxHeartbeats 400000 in
theorem eqIntS_none (a a' : Option Addr) (cap cap' : Nat) (w : World) : Calls Try.prog 61 #[.slice a 0 cap, .slice a' 0 cap'] w fun e w' => e = .returned (.bool true) ∧ Below w.heap.size w w' := by
  go_enter Try.func61, Try.ntmps61
  go_wp2
  go_loopw [5] (fun i wr => i = .int .i64 0 ∧ Below w.heap.size w wr) (fun _ _ => 0)
  case atStart => exact ⟨rfl, Below.refl _ _⟩
  case round =>
    obtain ⟨rfl, hbw⟩ := hrel
    go_wp2
    go_ret
    exact ⟨rfl, hbw⟩

set_option maxHeartbeats 400000 in
theorem eqIntS_some (b b' n cap cap' : Nat) (l : List Int) (w : World) (hn : n ≤ 1048576) (ho : OwnI w b n l n) (ho' : OwnI w b' n l n) :
    Calls Try.prog 61 #[.slice (some ⟨b, 0, none⟩) n cap, .slice (some ⟨b', 0, none⟩) n cap'] w fun e w' => e = .returned (.bool true) ∧ Below w.heap.size w w' := by
  go_enter Try.func61, Try.ntmps61
  go_wp2
  go_loopw [5] (fun i wr => ∃ k : Nat, k ≤ n ∧ i = .int .i64 k ∧ Below w.heap.size w wr) (fun i _ => n - (intOf i).toNat)
  case atStart => exact ⟨0, Nat.zero_le _, rfl, Below.refl _ _⟩
  case round =>
    obtain ⟨k, hk, rfl, hbw⟩ := hrel
    by_cases hlt : k < n
    · have hx := (ho.below hbw ho.1).2.2 k hlt
      have hy := (ho'.below hbw ho'.1).2.2 k hlt
      generalize l.getD k 0 = x at *
      have hkn : (k : Int) < (n : Int) := by omega
      go_wp2
      go_region_with (fail)
      all_goals
        have hb2 := hbw.drew
        go_wp2
        go_roundw
        case rel => exact ⟨k + 1, by omega, by go_num, hb2⟩
        case measure => simp [intOf]; omega
    · go_wp2
      go_ret
      exact ⟨rfl, hbw⟩

theorem eqIntS_rows (lo hi lo' hi' : Nat) (a a' : Option Addr) (n cap cap' : Nat) (l : List Int) (w : World) (hn : n ≤ 1048576) (hr : IntIn w lo hi a n l) (hr' : IntIn w lo' hi' a' n l) :
    Calls Try.prog 61 #[.slice a n cap, .slice a' n cap'] w fun e w' => e = .returned (.bool true) ∧ Below w.heap.size w w' := by
  obtain ⟨hl, rfl | ⟨b, rfl, _, _, ho⟩⟩ := hr
  · exact eqIntS_none _ _ _ _ w
  · obtain ⟨_, rfl | ⟨b', rfl, _, _, ho'⟩⟩ := hr'
    · exact eqIntS_none _ _ _ _ w
    · exact eqIntS_some b b' n cap cap' l w hn ho ho'

set_option maxHeartbeats 400000 in
theorem markIntS_some (b n cap : Nat) (k : Int) (l : List Int) (w : World) (hn : n ≤ 8388608) (h0 : 0 ≤ k) (h1 : k ≤ 67108864) (ho : OwnI w b n l 0) :
    Calls Try.prog 62 #[.slice (some ⟨b, 0, none⟩) n cap, .int .i64 k] w fun e w' => e = .returned (.int .i64 (k + 1 * n)) ∧ OwnI w' b n (imarks k n) n ∧ Kept b w w' := by
  go_enter Try.func62, Try.ntmps62
  go_wp2
  go_loopw [1, 5] (fun q i wr => ∃ j : Nat, j ≤ n ∧ i = .int .i64 j ∧ q = .int .i64 (k + j) ∧ OwnI wr b n (imarks k n) j ∧ Kept b w wr) (fun _ i _ => n - (intOf i).toNat)
  case atStart => exact ⟨0, Nat.zero_le _, rfl, by simp, ho.zero, Kept.refl _ _⟩
  case round =>
    obtain ⟨j, hj, rfl, rfl, hw, hkp⟩ := hrel
    by_cases hlt : j < n
    · obtain ⟨v0, hv0⟩ := (hw.2.1 j hlt).1
      have hf0 := (hw.2.1 j hlt).2
      have hst := hw.step hlt
      rw [imarks_at k n hlt] at hst
      have hk2 := hkp.set j (.int .i64 (k + j))
      clear hw hkp
      go_wp2
      go_roundw
      case rel => exact ⟨j + 1, by omega, by go_num, by go_num, hst, hk2⟩
      case measure => simp [intOf]; omega
    · obtain rfl : j = n := by omega
      go_wp2
      go_ret
      exact ⟨ret_int (by omega), hw, hkp⟩

set_option maxHeartbeats 400000 in
theorem markIntS_none (a : Option Addr) (cap : Nat) (k : Int) (w : World) : Calls Try.prog 62 #[.slice a 0 cap, .int .i64 k] w fun e w' => e = .returned (.int .i64 k) ∧ w' = w := by
  go_enter Try.func62, Try.ntmps62
  go_wp2
  go_loop [1, 5] (fun q i => i = .int .i64 0 ∧ q = .int .i64 k) (fun _ _ => 0)
  case atStart => exact ⟨rfl, rfl⟩
  case round =>
    obtain ⟨rfl, rfl⟩ := hrel
    go_wp2
    go_ret
    exact ⟨rfl, rfl⟩

theorem markIntS_any (lo hi : Nat) (a : Option Addr) (n cap : Nat) (k : Int) (l : List Int) (w : World) (hn : n ≤ 8388608) (h0 : 0 ≤ k) (h1 : k ≤ 67108864) (hr : IntIn w lo hi a n l) :
    Calls Try.prog 62 #[.slice a n cap, .int .i64 k] w fun e w' => e = .returned (.int .i64 (k + 1 * n)) ∧ IntIn w' lo hi a n (imarks k n) ∧ Out lo hi w w' := by
  obtain ⟨hl, rfl | ⟨b, rfl, h2, h3, ho⟩⟩ := hr
  · exact (markIntS_none a cap k w).mono fun e w' ⟨he, hw⟩ => ⟨by rw [he]; simp, hw ▸ ⟨by simp [imarks], .inl rfl⟩, hw ▸ Out.refl _ _ _⟩
  · exact (markIntS_some b n cap k l w hn h0 h1 ho.zero).mono fun e w' ⟨he, h4, h5⟩ => ⟨he, ⟨imarks_length k n, .inr ⟨b, rfl, h2, h3, h4⟩⟩, h5.out h2 h3⟩

set_option maxHeartbeats 400000 in
theorem heldIntS_some (b n cap : Nat) (k : Int) (w : World) (hn : n ≤ 8388608) (h0 : 0 ≤ k) (h1 : k ≤ 67108864) (ho : OwnI w b n (imarks k n) n) :
    Calls Try.prog 63 #[.slice (some ⟨b, 0, none⟩) n cap, .int .i64 k] w fun e w' => e = .returned (.int .i64 (k + 1 * n)) ∧ w' = w := by
  go_enter Try.func63, Try.ntmps63
  go_wp2
  go_loop [1, 5] (fun q i => ∃ j : Nat, j ≤ n ∧ i = .int .i64 j ∧ q = .int .i64 (k + j)) (fun _ i => n - (intOf i).toNat)
  case atStart => exact ⟨0, Nat.zero_le _, rfl, by simp⟩
  case round =>
    obtain ⟨j, hj, rfl, rfl⟩ := hrel
    by_cases hlt : j < n
    · have hx := ho.2.2 j hlt
      rw [imarks_at k n hlt] at hx
      go_wp2
      go_round
      case rel => exact ⟨j + 1, by omega, by go_num, by go_num⟩
      case measure => simp [intOf]; omega
    · obtain rfl : j = n := by omega
      go_wp2
      go_ret
      exact ⟨ret_int (by omega), rfl⟩

set_option maxHeartbeats 400000 in
theorem heldIntS_none (a : Option Addr) (cap : Nat) (k : Int) (w : World) : Calls Try.prog 63 #[.slice a 0 cap, .int .i64 k] w fun e w' => e = .returned (.int .i64 k) ∧ w' = w := by
  go_enter Try.func63, Try.ntmps63
  go_wp2
  go_loop [1, 5] (fun q i => i = .int .i64 0 ∧ q = .int .i64 k) (fun _ _ => 0)
  case atStart => exact ⟨rfl, rfl⟩
  case round =>
    obtain ⟨rfl, rfl⟩ := hrel
    go_wp2
    go_ret
    exact ⟨rfl, rfl⟩

theorem heldIntS_any (lo hi : Nat) (a : Option Addr) (n cap : Nat) (k : Int) (w : World) (hn : n ≤ 8388608) (h0 : 0 ≤ k) (h1 : k ≤ 67108864) (hr : IntIn w lo hi a n (imarks k n)) :
    Calls Try.prog 63 #[.slice a n cap, .int .i64 k] w fun e w' => e = .returned (.int .i64 (k + 1 * n)) ∧ w' = w := by
  obtain ⟨hl, rfl | ⟨b, rfl, h2, h3, ho⟩⟩ := hr
  · exact (heldIntS_none a cap k w).mono fun e w' ⟨he, hw⟩ => ⟨by rw [he]; simp, hw⟩
  · exact heldIntS_some b n cap k w hn h0 h1 ho

end Go.Proofs.Ytphchdjbhbmnbaa
namespace Go.Proofs.Ytphchdjbhbmnbaa
open Go.RowKit
/-- The bits of a small whole number. -/
def fl (x : Int) : Nat := floatOfInt .f64 x
theorem fl_back {x : Int} (h0 : 0 ≤ x) (h1 : x < 16) : floatToIntVal .f64 (fl x) .i64 = some x := by
  have : ∀ k : Nat, k < 16 → floatToIntVal .f64 (fl (k : Int)) .i64 = some (k : Int) := by decide +kernel
  obtain ⟨k, rfl⟩ := Int.eq_ofNat_of_zero_le h0
  exact this k (by omega)
theorem fl_order {x y : Int} (h0 : 0 ≤ x) (h1 : x < 16) (h2 : 0 ≤ y) (h3 : y < 16) : (FloatKind.f64.format.order (fl x) (fl y) == some .eq) = decide (x = y) := by
  have : ∀ k : Nat, k < 16 → ∀ j : Nat, j < 16 → (FloatKind.f64.format.order (fl (k : Int)) (fl (j : Int)) == some .eq) = decide ((k : Int) = (j : Int)) := by decide +kernel
  obtain ⟨k, rfl⟩ := Int.eq_ofNat_of_zero_le h0
  obtain ⟨j, rfl⟩ := Int.eq_ofNat_of_zero_le h2
  exact this k (by omega) j (by omega)
/-- Two numbers as a couple: the lesser is the real part. -/
def cplV (x y : Int) : Value := .complex .f64 (fl (min x y)) (fl (max x y))
set_option maxHeartbeats 400000 in
theorem coupleOf_any (x y : Int) (w : World) : Calls Try.prog 156 #[.int .i64 x, .int .i64 y] w fun e w' => e = .returned (cplV x y) ∧ w' = w := by
  go_enter Try.func156, Try.ntmps156
  go_wp2
  all_goals
    go_ret
    refine ⟨?_, rfl⟩
    unfold cplV fl
  · rw [show min x y = y by omega, show max x y = x by omega]; rfl
  · rw [show min x y = x by omega, show max x y = y by omega]; rfl
  · rw [show min x y = x by omega, show max x y = x by omega]; rfl
set_option maxHeartbeats 400000 in
theorem lesser_any (x : Int) (g : Nat) (w : World) (h0 : 0 ≤ x) (h1 : x < 16) : Calls Try.prog 217 #[.complex .f64 (fl x) g] w fun e w' => e = .returned (.int .i64 x) ∧ w' = w := by
  have hc := fun (w : World) => run_convert_float_int (P := Try.prog) w 151 3 .f64 .i64 (fl x) x (by rw [Try.underlying151]; rfl) Try.underlying3 (fl_back h0 h1)
  generalize fl x = f at *
  clear h0 h1
  go_enter Try.func217, Try.ntmps217
  go_wp2
  go_ret
  exact ⟨rfl, rfl⟩
set_option maxHeartbeats 400000 in
theorem greater_any (x : Int) (g : Nat) (w : World) (h0 : 0 ≤ x) (h1 : x < 16) : Calls Try.prog 218 #[.complex .f64 g (fl x)] w fun e w' => e = .returned (.int .i64 x) ∧ w' = w := by
  have hc := fun (w : World) => run_convert_float_int (P := Try.prog) w 151 3 .f64 .i64 (fl x) x (by rw [Try.underlying151]; rfl) Try.underlying3 (fl_back h0 h1)
  generalize fl x = f at *
  clear h0 h1
  go_enter Try.func218, Try.ntmps218
  go_wp2
  go_ret
  exact ⟨rfl, rfl⟩
def rep (x t b : Int) : Int := if x = t then b else x
set_option maxHeartbeats 400000 in
theorem replaced_any (x t b : Int) (w : World) : Calls Try.prog 136 #[.int .i64 x, .int .i64 t, .int .i64 b] w fun e w' => e = .returned (.int .i64 (rep x t b)) ∧ w' = w := by
  go_enter Try.func136, Try.ntmps136
  by_cases h : x = t
  · go_wp2
    go_ret
    exact ⟨ret_int (by rw [rep, if_pos h]), rfl⟩
  · go_wp2
    go_ret
    exact ⟨ret_int (by rw [rep, if_neg h]), rfl⟩
end Go.Proofs.Ytphchdjbhbmnbaa
namespace Go.Proofs.Ytphchdjbhbmnbaa
open Go.RowKit
/-- An array of whole numbers as a value. -/
def aV (c : List Int) : Value := .agg (ic c).toArray
theorem ic_get (c : List Int) {i : Nat} (h : i < c.length) : (ic c)[i]? = some (.int .i64 (c.getD i 0)) := by simp [ic, h]
theorem ic_size (c : List Int) : (ic c).toArray.size = c.length := by simp [ic]
theorem OwnI.new (w : World) (c : List Int) (n : Nat) (hn : c.length = n) (t : TypeId) : OwnI (w.alloc (.cells (ic c).toArray t)) w.heap.size n c n := by
  have hc : ∀ i, i < n → (w.alloc (.cells (ic c).toArray t)).cell? ⟨w.heap.size, i, none⟩ = some (.int .i64 (c.getD i 0)) := by
    intro i hi
    have h := ic_get c (i := i) (by omega)
    simp [h]
  exact ⟨by simp, fun j hj => ⟨⟨_, hc j hj⟩, by simp⟩, hc⟩
theorem OwnI.alloc {w : World} {b n k : Nat} {l : List Int} (h : OwnI w b n l k) (o : Obj) : OwnI (w.alloc o) b n l k := h.below ((Below.refl _ _).alloc (Nat.le_refl _) _) h.1
theorem OwnI.drew {w : World} {b n k : Nat} {l : List Int} (h : OwnI w b n l k) : OwnI w.drew b n l k := h.below ((Below.refl _ _).drew) h.1
theorem OwnI.range {w : World} {b n : Nat} {l : List Int} (h : OwnI w b n l n) (hn : l.length = n) : w.rangeAt b 0 (ic l) := by
  intro j v hv
  have hj : j < l.length := by
    have := (List.getElem?_eq_some_iff.1 hv).1
    simpa [ic] using this
  rw [ic_get l hj] at hv
  cases hv
  rw [Nat.zero_add]
  exact h.2.2 j (by omega)
theorem ld67 {w : World} {b : Nat} {c : List Int} (h : OwnI w b 16 c 16) (hl : c.length = 16) : (Instr.loadAt 102 (.pointer (some ⟨b, 0, none⟩))).run Try.prog w = .ok (.agg (ic c).toArray) w :=
  run_loadAt_mid (P := Try.prog) w b 0 102 (ic c) _ (h.range hl) Try.underlying102 rfl (by rw [ic_length, hl]; kernel_rfl)
/-- A load of a whole array. -/
theorem wl67 {ops : Array Oper} {rest : List Oper} {op : Oper} {a : Act} {w : World} {Q : Exit → Act → World → Prop} (hgd : op.guard = none) (x : Operand) (ho : op.op = .load 102 x)
    (b : Nat) (hx : a.eval x = .pointer (some ⟨b, 0, none⟩)) {c : List Int} (h : OwnI w b 16 c 16) (hl : c.length = 16)
    (k : wpList Try.prog ops Q rest (a.put op.dst (.agg (ic c).toArray)) w) : wpList Try.prog ops Q (op :: rest) a w :=
  wpList_load_mid hgd 102 x ho b 0 hx (ic c) _ (h.range hl) Try.underlying102 rfl (by rw [ic_length, hl]; kernel_rfl) k
theorem ic_one (c : List Int) : (ic c).toArray.all (·.oneCell') = true := all_oneCell_toArray (by intro v hv; simp only [ic, List.mem_map] at hv; obtain ⟨x, _, rfl⟩ := hv; rfl)
theorem OwnI.there {w : World} {b n k : Nat} {l : List Int} (h : OwnI w b n l k) : w.there b 0 n := fun j hj => by
  obtain ⟨⟨v, hv⟩, hf⟩ := h.2.1 j hj
  rw [Nat.zero_add]
  exact ⟨by rw [hv]; rfl, hf⟩
/-- A store of a whole array. -/
theorem ws67 {ops : Array Oper} {rest : List Oper} {op : Oper} {a : Act} {w : World} {Q : Exit → Act → World → Prop} (hgd : op.guard = none) (x y : Operand) (ho : op.op = .store 102 x y)
    (b : Nat) (hx : a.eval x = .pointer (some ⟨b, 0, none⟩)) (c d : List Int) (hy : a.eval y = .agg (ic c).toArray) {k : Nat} (h : OwnI w b 16 d k) (hl : c.length = 16) (hn : op.dst = none)
    (kk : wpList Try.prog ops Q rest a (w.setCells b 0 (ic c))) : wpList Try.prog ops Q (op :: rest) a w := by
  refine wpList_store_mid hgd 102 x y ho b 0 (ic c).toArray hx hy (by rw [ic_size, hl]; exact h.there) (by rw [ic_size, hl]; kernel_rfl) (ic_one c) ?_
  simpa [hn, Act.put] using kk
theorem Below.setCells {B : Nat} {a : World} (b : Nat) (hp : B ≤ b) : ∀ (vs : List Value) (o : Nat) (w : World), Below B a w → Below B a (w.setCells b o vs)
  | [], _, _, h => h
  | v :: vs, o, w, h => by
    simp only [World.setCells]
    exact Below.setCells b hp vs (o + 1) _ (Below.set h b o hp v)
theorem OwnI.setAll {w : World} {b k : Nat} {d c : List Int} (h : OwnI w b 16 d k) (hl : c.length = 16) : OwnI (w.setCells b 0 (ic c)) b 16 c 16 := by
  have ht := h.there
  have hr := World.rangeAt_setCells_same w b 0 (ic c) (by rw [ic_length, hl]; exact ht)
  have ht2 := World.there_setCells ht b 0 (ic c)
  have hc : ∀ i, i < 16 → (w.setCells b 0 (ic c)).cell? ⟨b, i, none⟩ = some (.int .i64 (c.getD i 0)) := fun i hi => by
    have := hr i _ (ic_get c (i := i) (by omega))
    rwa [Nat.zero_add] at this
  refine ⟨?_, fun j hj => ⟨⟨_, hc j hj⟩, ?_⟩, hc⟩
  · exact Nat.lt_of_lt_of_le h.1 (Below.setCells (B := 0) (a := w) b (Nat.zero_le _) (ic c) 0 w (Below.refl _ _)).size
  · have := (ht2 j hj).2
    rwa [Nat.zero_add] at this
theorem idx67 (c : List Int) (k : Nat) (hl : c.length = 16) (hk : k < 16) (w : World) : (Instr.index 102 (.agg (ic c).toArray) (.int .i64 k)).run Try.prog w = .ok (.int .i64 (c.getD k 0)) w := by
  have h0 : (0 : Int) ≤ (k : Int) ∧ (k : Int) < (16 : Nat) := by omega
  have hg := ic_get c (i := k) (by omega)
  have hi : (sizeOf 3).run Try.prog w = .ok 1 w := by kernel_rfl
  simp [Instr.index, run_underlying Try.underlying102, asIntOf, h0, part, isAgg, run_underlying Try.underlying3, hi, hg, Sem.run_bind, go_sem]
  omega
/-- The result is a whole array in a block. -/
theorem ret67 {fn : Func} {p : Tmp} (h : fn.results = #[.cell p 102]) (tmps : Array Value) (w : World) (b : Nat) (hb : tmps.getD p undef = .pointer (some ⟨b, 0, none⟩)) {c : List Int} (ho : OwnI w b 16 c 16) (hl : c.length = 16) :
    (results fn tmps).run Try.prog w = .ok (.agg (ic c).toArray) w := by
  have hv := run_loadVar_mid (P := Try.prog) w b 0 102 (ic c) _ (ho.range hl) Try.underlying102 rfl (by rw [ic_length, hl]; kernel_rfl)
  simp only [results, h]
  have hb2 : tmps[p]?.getD undef = .pointer (some ⟨b, 0, none⟩) := by simpa using hb
  simp [hb2, asAddr, hv]
/-- A pair of whole numbers in a block. -/
structure PBox (w : World) (b : Nat) (x y : Int) : Prop where
  lt : b < w.heap.size
  c0 : w.cell? ⟨b, 0, none⟩ = some (.int .i64 x)
  c1 : w.cell? ⟨b, 1, none⟩ = some (.int .i64 y)
theorem PBox.new (w : World) (x y : Int) (t : TypeId) : PBox (w.alloc (.cells #[.int .i64 x, .int .i64 y] t)) w.heap.size x y := ⟨by simp, by simp, by simp⟩
theorem PBox.below {B : Nat} {w w' : World} {b : Nat} {x y : Int} (h : PBox w b x y) (hb : Below B w w') (hB : b < B) : PBox w' b x y :=
  ⟨Nat.lt_of_lt_of_le h.lt hb.size, by rw [hb.cell (p := ⟨b, 0, none⟩) hB]; exact h.c0, by rw [hb.cell (p := ⟨b, 1, none⟩) hB]; exact h.c1⟩
set_option maxHeartbeats 1000000 in
theorem of_any (c : List Int) (x y : Nat) (w : World) (hl : c.length = 16) (hx : x < 16) (hy : y < 16) :
    Calls Try.prog 178 #[aV c, .agg #[.int .i64 x, .int .i64 y]] w fun e w' => e = .returned (cplV (c.getD x 0) (c.getD y 0)) ∧ Below w.heap.size w w' := by
  have A0 := OwnI.new w c 16 hl 102
  have B0 := PBox.new (w.alloc (.cells (ic c).toArray 102)) x y 69
  have A1 := A0.alloc (.cells #[.int .i64 x, .int .i64 y] 69)
  have L1 : Below w.heap.size w ((w.alloc (.cells (ic c).toArray 102)).alloc (.cells #[.int .i64 x, .int .i64 y] 69)) := ((Below.refl _ _).alloc (Nat.le_refl _) _).alloc (by simp) _
  rw [World.size_alloc] at B0
  have ex := A1.2.2 x hx
  have ey := A1.2.2 y hy
  have HX : Hid (x < 16) := hx
  have HY : Hid (y < 16) := hy
  have E0 := B0.c0
  have E1 := B0.c1
  clear A0 A1 B0
  unfold aV
  generalize c.getD x 0 = u at *
  generalize c.getD y 0 = v at *
  go_enter Try.func178, Try.ntmps178
  go_wp2_with fail
  generalize ((w.alloc (.cells (ic c).toArray 102)).alloc (.cells #[.int .i64 x, .int .i64 y] 69)) = W at *
  have hS0 : Below w.heap.size w W.drew ∧ W.drew.cell? ⟨w.heap.size, x, none⟩ = some (.int .i64 u) ∧ W.drew.cell? ⟨w.heap.size, y, none⟩ = some (.int .i64 v) ∧ W.drew.cell? ⟨w.heap.size + 1, 0, none⟩ = some (.int .i64 x) ∧ W.drew.cell? ⟨w.heap.size + 1, 1, none⟩ = some (.int .i64 y) := ⟨L1.drew, ex, ey, E0, E1⟩
  have hx0 : (0 : Int) ≤ (x : Int) := by omega
  have hx1 : (x : Int) < 16 := by have := HX.out; omega
  have hy0 : (0 : Int) ≤ (y : Int) := by omega
  have hy1 : (y : Int) < 16 := by have := HY.out; omega
  clear L1 ex ey E0 E1
  go_region_held3 (fun w' => Below w.heap.size w w' ∧ w'.cell? ⟨w.heap.size, x, none⟩ = some (.int .i64 u) ∧ w'.cell? ⟨w.heap.size, y, none⟩ = some (.int .i64 v) ∧ w'.cell? ⟨w.heap.size + 1, 0, none⟩ = some (.int .i64 x) ∧ w'.cell? ⟨w.heap.size + 1, 1, none⟩ = some (.int .i64 y))
    (first | exact hS0 | assumption | (refine ⟨?_, ?_, ?_, ?_, ?_⟩ <;> assumption))
    (first
      | (go_at_call 156; refine (coupleOf_any _ _ _).mono ?_; rintro e wz ⟨rfl, rfl⟩))
  all_goals
    go_wp2
    go_ret
    exact ⟨rfl, hS0.1⟩
end Go.Proofs.Ytphchdjbhbmnbaa
namespace Go.Proofs.Ytphchdjbhbmnbaa
open Go.RowKit
abbrev z16 : Array Value := #[.int .i64 0, .int .i64 0, .int .i64 0, .int .i64 0, .int .i64 0, .int .i64 0, .int .i64 0, .int .i64 0, .int .i64 0, .int .i64 0, .int .i64 0, .int .i64 0, .int .i64 0, .int .i64 0, .int .i64 0, .int .i64 0]
theorem z16_ic : z16 = (ic (List.replicate 16 0)).toArray := rfl
/-- All of c that are h become l. -/
def reps (c : List Int) (h l : Int) : List Int := c.map fun z => rep z h l
theorem reps_length (c : List Int) (h l : Int) : (reps c h l).length = c.length := by simp [reps]
theorem reps_at (c : List Int) (h l : Int) {i : Nat} (hi : i < c.length) : (reps c h l).getD i 0 = rep (c.getD i 0) h l := by simp [reps, hi]
/-- Block b has the first k of d, and then those of c. -/
def Mix (w : World) (b : Nat) (d c : List Int) (k : Nat) : Prop :=
  b < w.heap.size ∧ (∀ j, j < 16 → w.frozen? ⟨b, j, none⟩ = false) ∧ ∀ j, j < 16 → w.cell? ⟨b, j, none⟩ = some (.int .i64 (if j < k then d.getD j 0 else c.getD j 0))
theorem Mix.start {w : World} {b : Nat} {c : List Int} (d : List Int) (h : OwnI w b 16 c 16) : Mix w b d c 0 := ⟨h.1, fun j hj => (h.2.1 j hj).2, fun j hj => by rw [if_neg (by omega)]; exact h.2.2 j hj⟩
theorem Mix.done {w : World} {b : Nat} {d c : List Int} (h : Mix w b d c 16) : OwnI w b 16 d 16 := by
  have hc : ∀ j, j < 16 → w.cell? ⟨b, j, none⟩ = some (.int .i64 (d.getD j 0)) := fun j hj => by have := h.2.2 j hj; rwa [if_pos hj] at this
  exact ⟨h.1, fun j hj => ⟨⟨_, hc j hj⟩, h.2.1 j hj⟩, hc⟩
theorem Mix.below {B : Nat} {w w' : World} {b k : Nat} {d c : List Int} (h : Mix w b d c k) (hb : Below B w w') (hB : b < B) : Mix w' b d c k :=
  ⟨Nat.lt_of_lt_of_le h.1 hb.size, fun j hj => by rw [hb.frozen (p := ⟨b, j, none⟩) hB]; exact h.2.1 j hj, fun j hj => by rw [hb.cell (p := ⟨b, j, none⟩) hB]; exact h.2.2 j hj⟩
theorem Mix.drew {w : World} {b k : Nat} {d c : List Int} (h : Mix w b d c k) : Mix w.drew b d c k := h.below ((Below.refl _ _).drew) h.1
theorem Mix.step {w : World} {b k : Nat} {d c : List Int} (h : Mix w b d c k) : Mix (w.setCell ⟨b, k, none⟩ (.int .i64 (d.getD k 0))) b d c (k + 1) := by
  obtain ⟨h1, h2, h3⟩ := h
  refine ⟨by simpa using h1, fun j hj => by simpa using h2 j hj, fun j hj => ?_⟩
  rw [cell_set (h3 j hj)]
  by_cases e : k = j
  · subst e; rw [if_pos rfl, if_pos (by omega)]
  · rw [if_neg e]
    by_cases g : j < k
    · rw [if_pos g, if_pos (by omega)]
    · rw [if_neg g, if_neg (by omega)]
theorem OwnI.set_other {w : World} {b n k : Nat} {l : List Int} (h : OwnI w b n l k) (b' i' : Nat) (hp : b' ≠ b) (u : Value) : OwnI (w.setCell ⟨b', i', none⟩ u) b n l k := by
  obtain ⟨h1, h2, h3⟩ := h
  have e : ∀ o, (w.setCell ⟨b', i', none⟩ u).cell? ⟨b, o, none⟩ = w.cell? ⟨b, o, none⟩ := fun o => World.cell?_setCell_other w _ _ u (by intro h; cases h; exact hp rfl)
  refine ⟨by simpa using h1, fun j hj => ?_, fun i hi => by rw [e]; exact h3 i hi⟩
  rw [e]
  exact ⟨(h2 j hj).1, by simpa using (h2 j hj).2⟩
set_option maxRecDepth 3000 in
set_option maxHeartbeats 1000000 in
theorem joined_any (c : List Int) (u v : Int) (hs : c.length = 16) (hu0 : 0 ≤ u) (hu1 : u < 16) (hv0 : 0 ≤ v) (hv1 : v < 16) (w : World) :
    Calls Try.prog 215 #[aV c, cplV u v] w fun e w' => e = .returned (aV (reps c (max u v) (min u v))) ∧ Below w.heap.size w w' := by
  unfold aV cplV
  have hg0 : 0 ≤ max u v := by omega
  have hg1 : max u v < 16 := by omega
  have hk0 : 0 ≤ min u v := by omega
  have hk1 : min u v < 16 := by omega
  generalize max u v = g at *
  generalize min u v = l at *
  clear hu0 hu1 hv0 hv1
  have A0 := (OwnI.new w c 16 hs 102).alloc (.cells z16 102)
  have R0 := OwnI.new (w.alloc (.cells (ic c).toArray 102)) (List.replicate 16 0) 16 rfl 102
  rw [← z16_ic, World.size_alloc] at R0
  have L0 : Below w.heap.size w ((w.alloc (.cells (ic c).toArray 102)).alloc (.cells z16 102)) := ((Below.refl _ _).alloc (Nat.le_refl _) _).alloc (by simp) _
  go_enter Try.func215, Try.ntmps215
  iterate 15 go_step
  refine wl67 rfl (.tmp 2) rfl _ rfl A0 hs ?_
  generalize (w.alloc (.cells (ic c).toArray 102)).alloc (.cells z16 102) = W at *
  have HS : Hid (c.length = 16) := hs
  clear hs
  go_wp2_with fail
  go_loopw [8] (fun i wr => ∃ k : Nat, k ≤ 16 ∧ i = .int .i64 k ∧ Mix wr w.heap.size (reps c g l) c k ∧ OwnI wr (w.heap.size + 1) 16 (List.replicate 16 0) 16 ∧ Below w.heap.size w wr) (fun i _ => 16 - (intOf i).toNat)
  case atStart => exact ⟨0, Nat.zero_le _, rfl, Mix.start _ A0, R0, L0⟩
  case round =>
    clear A0 R0 L0
    obtain ⟨k, hk, rfl, M, R, L⟩ := hrel
    by_cases hlt : k < 16
    · have hkn : (k : Int) < 16 := by omega
      have hk0' : (0 : Int) ≤ (k : Int) := by omega
      have hix := idx67 c k HS.out hlt
      have hcell := M.2.2 k hlt
      have hfr := M.2.1 k hlt
      rw [if_neg (Nat.lt_irrefl k)] at hcell
      have hst := M.step
      rw [reps_at c g l (by have := HS.out; omega)] at hst
      generalize c.getD k 0 = x at *
      go_wp2_with fail
      refine (greater_any g _ _ hg0 hg1).mono ?_
      rintro e wz ⟨rfl, rfl⟩
      go_wp2_with fail
      refine (lesser_any l _ _ hk0 hk1).mono ?_
      rintro e wz ⟨rfl, rfl⟩
      go_wp2_with fail
      refine (replaced_any _ _ _ _).mono ?_
      rintro e wz ⟨rfl, rfl⟩
      have R2 := R.set_other w.heap.size k (by omega) (.int .i64 (rep x g l))
      have L2 := Below.set L w.heap.size k (Nat.le_refl _) (.int .i64 (rep x g l))
      generalize rep x g l = y at *
      clear M R L
      go_wp2
      go_roundw
      case rel => exact ⟨k + 1, by omega, by go_num, hst, R2, L2⟩
      case measure => simp [intOf]; omega
    · obtain rfl : k = 16 := by omega
      have D := M.done
      have hnl : ¬ (((16 : Nat) : Int) < 16) := by omega
      have HR : (reps c g l).length = 16 := by rw [reps_length]; exact HS.out
      iterate 18 go_step
      refine wl67 rfl (.tmp 2) rfl _ rfl D HR ?_
      refine ws67 rfl (.tmp 4) (.tmp 21) rfl _ rfl (reps c g l) _ rfl R HR rfl ?_
      have F := R.setAll HR
      have L2 := Below.setCells (w.heap.size + 1) (Nat.le_succ _) (ic (reps c g l)) 0 _ L
      generalize wr.setCells (w.heap.size + 1) 0 (ic (reps c g l)) = wz at *
      iterate 5 go_step
      exact bodyPost_ret (ret67 rfl _ _ _ rfl F HR) rfl ⟨rfl, L2⟩
end Go.Proofs.Ytphchdjbhbmnbaa
