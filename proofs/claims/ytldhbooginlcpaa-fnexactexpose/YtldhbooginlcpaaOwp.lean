/-
  The contract of spec.l1own for rows that lie anywhere, empty ones among them: Ow's lemmas once more, with rows to be read alone.
-/
import Derived.Test.YtldhbooginlcpaaOw
import Derived.Test.YtldhbooginlcpaaWts0
namespace Go.Proofs.Ytldhbooginlcpaa
open Go.RowKit
set_option linter.unusedVariables false

set_option maxRecDepth 20000 in
set_option maxHeartbeats 4000000 in
theorem ownp_nd4_n {b0 b1 b2 b3 : Addr} {c0 c1 c2 c3 : Nat} {l0 l1 l2 l3 : List (Int × Int)} {w : World} {Q : Exit → Act → World → Prop} (n0 : l0.length ≤ 1048576) (n1 : l1.length ≤ 1048576) (n2 : l2.length ≤ 1048576) (n3 : l3.length ≤ 1048576) (o0 : PRow w (some b0) l0) (o1 : PRow w (some b1) l1) (o2 : PRow w (some b2) l2) (o3 : PRow w (some b3) l3)
    (hQ : ∀ (W : World) (hS : ownS w (.slice (some b0) l0.length c0) (.slice (some b1) l1.length c1) (.slice (some b2) l2.length c2) (.slice (some b3) l3.length c3) W) (z0 z1 z2 z3 : Nat) (a0 : Option Addr) (e0 m1 : Nat) (t0 : RoomIn W (w.heap.size + 2) m1 a0 l0.length e0 l0) (g1 : m1 ≤ W.heap.size) (k1 : (w.heap.size + 2) ≤ m1) (a1 : Option Addr) (e1 m2 : Nat) (t1 : RoomIn W m1 m2 a1 l1.length e1 l1) (g2 : m2 ≤ W.heap.size) (k2 : m1 ≤ m2) (a2 : Option Addr) (e2 m3 : Nat) (t2 : RoomIn W m2 m3 a2 l2.length e2 l2) (g3 : m3 ≤ W.heap.size) (k3 : m2 ≤ m3) (a3 : Option Addr) (e3 m4 : Nat) (t3 : RoomIn W m3 m4 a3 l3.length e3 l3) (g4 : m4 ≤ W.heap.size) (k4 : m3 ≤ m4), Q .normal { tmps := #[.agg #[.slice (some b0) l0.length c0, .slice (some b1) l1.length c1, .slice (some b2) l2.length c2, .slice (some b3) l3.length c3], .pointer (some ⟨w.heap.size, 0, none⟩), .pointer (some ⟨w.heap.size + 1, 0, none⟩), .slice (some ⟨z0, 0, none⟩) 0 0, .pointer (some ⟨w.heap.size, 0, none⟩), .slice (some b0) l0.length c0, .slice a0 l0.length e0, .slice (some ⟨z1, 0, none⟩) 0 0, .pointer (some ⟨w.heap.size, 1, none⟩), .slice (some b1) l1.length c1, .slice a1 l1.length e1, .slice (some ⟨z2, 0, none⟩) 0 0, .pointer (some ⟨w.heap.size, 2, none⟩), .slice (some b2) l2.length c2, .slice a2 l2.length e2, .slice (some ⟨z3, 0, none⟩) 0 0, .pointer (some ⟨w.heap.size, 3, none⟩), .slice (some b3) l3.length c3, .slice a3 l3.length e3, .agg #[.slice a0 l0.length e0, .slice a1 l1.length e1, .slice a2 l2.length e2, .slice a3 l3.length e3]], defers := [] } ((((W.setCell ⟨w.heap.size + 1, 0, none⟩ (.slice a0 l0.length e0)).setCell ⟨w.heap.size + 1, 1, none⟩ (.slice a1 l1.length e1)).setCell ⟨w.heap.size + 1, 2, none⟩ (.slice a2 l2.length e2)).setCell ⟨w.heap.size + 1, 3, none⟩ (.slice a3 l3.length e3)))
    (W : World) (hS : ownS w (.slice (some b0) l0.length c0) (.slice (some b1) l1.length c1) (.slice (some b2) l2.length c2) (.slice (some b3) l3.length c3) W) (z0 z1 z2 z3 : Nat) (a0 : Option Addr) (e0 m1 : Nat) (t0 : RoomIn W (w.heap.size + 2) m1 a0 l0.length e0 l0) (g1 : m1 ≤ W.heap.size) (k1 : (w.heap.size + 2) ≤ m1) (a1 : Option Addr) (e1 m2 : Nat) (t1 : RoomIn W m1 m2 a1 l1.length e1 l1) (g2 : m2 ≤ W.heap.size) (k2 : m1 ≤ m2) (a2 : Option Addr) (e2 m3 : Nat) (t2 : RoomIn W m2 m3 a2 l2.length e2 l2) (g3 : m3 ≤ W.heap.size) (k3 : m2 ≤ m3) (a3 : Option Addr) (e3 m4 : Nat) (t3 : RoomIn W m3 m4 a3 l3.length e3 l3) (g4 : m4 ≤ W.heap.size) (k4 : m3 ≤ m4) :
    wpAnyH Try.prog .any ownOps Q (ownS w (.slice (some b0) l0.length c0) (.slice (some b1) l1.length c1) (.slice (some b2) l2.length c2) (.slice (some b3) l3.length c3)) 2 #[true, true, true, true, true, true, true, true, true, true, true, true, true, true, true, true, false, false] { tmps := #[.agg #[.slice (some b0) l0.length c0, .slice (some b1) l1.length c1, .slice (some b2) l2.length c2, .slice (some b3) l3.length c3], .pointer (some ⟨w.heap.size, 0, none⟩), .pointer (some ⟨w.heap.size + 1, 0, none⟩), .slice (some ⟨z0, 0, none⟩) 0 0, .pointer (some ⟨w.heap.size, 0, none⟩), .slice (some b0) l0.length c0, .slice a0 l0.length e0, .slice (some ⟨z1, 0, none⟩) 0 0, .pointer (some ⟨w.heap.size, 1, none⟩), .slice (some b1) l1.length c1, .slice a1 l1.length e1, .slice (some ⟨z2, 0, none⟩) 0 0, .pointer (some ⟨w.heap.size, 2, none⟩), .slice (some b2) l2.length c2, .slice a2 l2.length e2, .slice (some ⟨z3, 0, none⟩) 0 0, .pointer (some ⟨w.heap.size, 3, none⟩), .slice (some b3) l3.length c3, .slice a3 l3.length e3, undef], defers := [] } W := by
  refine wpAnyH_ready (rs := [16]) (by kernel_rfl) (by simp) ?_
  refine AllReadyH.cons (o := { dst := some 19, op := Op.build 28 #[(0, Operand.tmp 6), (1, Operand.tmp 10), (2, Operand.tmp 14), (3, Operand.tmp 18)], type := 28, pos := "l01_asn.go:137", after := #[{ on := 3, ground := Ground.data }, { on := 7, ground := Ground.data }, { on := 11, ground := Ground.data }, { on := 15, ground := Ground.data }], guard := none }) rfl (fun K hK => ?_) AllReadyH.nil
  go_simp
  refine hK.out _ _ hS (fun _ => ?_)
  show wpAnyH Try.prog .any ownOps Q (ownS w (.slice (some b0) l0.length c0) (.slice (some b1) l1.length c1) (.slice (some b2) l2.length c2) (.slice (some b3) l3.length c3)) 1 #[true, true, true, true, true, true, true, true, true, true, true, true, true, true, true, true, true, false] { tmps := #[.agg #[.slice (some b0) l0.length c0, .slice (some b1) l1.length c1, .slice (some b2) l2.length c2, .slice (some b3) l3.length c3], .pointer (some ⟨w.heap.size, 0, none⟩), .pointer (some ⟨w.heap.size + 1, 0, none⟩), .slice (some ⟨z0, 0, none⟩) 0 0, .pointer (some ⟨w.heap.size, 0, none⟩), .slice (some b0) l0.length c0, .slice a0 l0.length e0, .slice (some ⟨z1, 0, none⟩) 0 0, .pointer (some ⟨w.heap.size, 1, none⟩), .slice (some b1) l1.length c1, .slice a1 l1.length e1, .slice (some ⟨z2, 0, none⟩) 0 0, .pointer (some ⟨w.heap.size, 2, none⟩), .slice (some b2) l2.length c2, .slice a2 l2.length e2, .slice (some ⟨z3, 0, none⟩) 0 0, .pointer (some ⟨w.heap.size, 3, none⟩), .slice (some b3) l3.length c3, .slice a3 l3.length e3, .agg #[.slice a0 l0.length e0, .slice a1 l1.length e1, .slice a2 l2.length e2, .slice a3 l3.length e3]], defers := [] } W
  refine wpAnyH_ready (rs := [17]) (by kernel_rfl) (by simp) ?_
  refine AllReadyH.cons (o := { dst := none, op := Op.store 28 (Operand.tmp 2) (Operand.tmp 19), type := 0, pos := "l01_asn.go:137", after := #[{ on := 16, ground := Ground.data }, { on := 15, ground := Ground.chain }, { on := 0, ground := Ground.phase }, { on := 1, ground := Ground.phase }, { on := 2, ground := Ground.phase }, { on := 3, ground := Ground.phase }, { on := 4, ground := Ground.phase }, { on := 5, ground := Ground.phase }, { on := 6, ground := Ground.phase }, { on := 7, ground := Ground.phase }, { on := 8, ground := Ground.phase }, { on := 9, ground := Ground.phase }, { on := 10, ground := Ground.phase }, { on := 11, ground := Ground.phase }, { on := 12, ground := Ground.phase }, { on := 13, ground := Ground.phase }, { on := 14, ground := Ground.phase }, { on := 15, ground := Ground.phase }, { on := 16, ground := Ground.phase }], guard := none }) rfl (fun K hK => ?_) AllReadyH.nil
  obtain ⟨x0, hx0⟩ := (hS.2.1.2.1 0 (by omega)).1; obtain ⟨x1, hx1⟩ := (hS.2.1.2.1 1 (by omega)).1; obtain ⟨x2, hx2⟩ := (hS.2.1.2.1 2 (by omega)).1; obtain ⟨x3, hx3⟩ := (hS.2.1.2.1 3 (by omega)).1
  have f0 := (hS.2.1.2.1 0 (by omega)).2; have f1 := (hS.2.1.2.1 1 (by omega)).2; have f2 := (hS.2.1.2.1 2 (by omega)).2; have f3 := (hS.2.1.2.1 3 (by omega)).2
  go_simp
  refine hK.out _ _ (ownS_store _ _ _ _ hS) (fun _ => ?_)
  refine wpAnyH_done (by kernel_rfl) ?_ _
  exact hQ W hS z0 z1 z2 z3 a0 e0 m1 t0 g1 k1 a1 e1 m2 t1 g2 k2 a2 e2 m3 t2 g3 k3 a3 e3 m4 t3 g4 k4

set_option maxRecDepth 20000 in
set_option maxHeartbeats 4000000 in
theorem ownp_nd3_3 {b0 b1 b2 b3 : Addr} {c0 c1 c2 c3 : Nat} {l0 l1 l2 l3 : List (Int × Int)} {w : World} {Q : Exit → Act → World → Prop} (n0 : l0.length ≤ 1048576) (n1 : l1.length ≤ 1048576) (n2 : l2.length ≤ 1048576) (n3 : l3.length ≤ 1048576) (o0 : PRow w (some b0) l0) (o1 : PRow w (some b1) l1) (o2 : PRow w (some b2) l2) (o3 : PRow w (some b3) l3)
    (hQ : ∀ (W : World) (hS : ownS w (.slice (some b0) l0.length c0) (.slice (some b1) l1.length c1) (.slice (some b2) l2.length c2) (.slice (some b3) l3.length c3) W) (z0 z1 z2 z3 : Nat) (a0 : Option Addr) (e0 m1 : Nat) (t0 : RoomIn W (w.heap.size + 2) m1 a0 l0.length e0 l0) (g1 : m1 ≤ W.heap.size) (k1 : (w.heap.size + 2) ≤ m1) (a1 : Option Addr) (e1 m2 : Nat) (t1 : RoomIn W m1 m2 a1 l1.length e1 l1) (g2 : m2 ≤ W.heap.size) (k2 : m1 ≤ m2) (a2 : Option Addr) (e2 m3 : Nat) (t2 : RoomIn W m2 m3 a2 l2.length e2 l2) (g3 : m3 ≤ W.heap.size) (k3 : m2 ≤ m3) (a3 : Option Addr) (e3 m4 : Nat) (t3 : RoomIn W m3 m4 a3 l3.length e3 l3) (g4 : m4 ≤ W.heap.size) (k4 : m3 ≤ m4), Q .normal { tmps := #[.agg #[.slice (some b0) l0.length c0, .slice (some b1) l1.length c1, .slice (some b2) l2.length c2, .slice (some b3) l3.length c3], .pointer (some ⟨w.heap.size, 0, none⟩), .pointer (some ⟨w.heap.size + 1, 0, none⟩), .slice (some ⟨z0, 0, none⟩) 0 0, .pointer (some ⟨w.heap.size, 0, none⟩), .slice (some b0) l0.length c0, .slice a0 l0.length e0, .slice (some ⟨z1, 0, none⟩) 0 0, .pointer (some ⟨w.heap.size, 1, none⟩), .slice (some b1) l1.length c1, .slice a1 l1.length e1, .slice (some ⟨z2, 0, none⟩) 0 0, .pointer (some ⟨w.heap.size, 2, none⟩), .slice (some b2) l2.length c2, .slice a2 l2.length e2, .slice (some ⟨z3, 0, none⟩) 0 0, .pointer (some ⟨w.heap.size, 3, none⟩), .slice (some b3) l3.length c3, .slice a3 l3.length e3, .agg #[.slice a0 l0.length e0, .slice a1 l1.length e1, .slice a2 l2.length e2, .slice a3 l3.length e3]], defers := [] } ((((W.setCell ⟨w.heap.size + 1, 0, none⟩ (.slice a0 l0.length e0)).setCell ⟨w.heap.size + 1, 1, none⟩ (.slice a1 l1.length e1)).setCell ⟨w.heap.size + 1, 2, none⟩ (.slice a2 l2.length e2)).setCell ⟨w.heap.size + 1, 3, none⟩ (.slice a3 l3.length e3)))
    (W : World) (hS : ownS w (.slice (some b0) l0.length c0) (.slice (some b1) l1.length c1) (.slice (some b2) l2.length c2) (.slice (some b3) l3.length c3) W) (z0 z1 z2 z3 : Nat) (a0 : Option Addr) (e0 m1 : Nat) (t0 : RoomIn W (w.heap.size + 2) m1 a0 l0.length e0 l0) (g1 : m1 ≤ W.heap.size) (k1 : (w.heap.size + 2) ≤ m1) (a1 : Option Addr) (e1 m2 : Nat) (t1 : RoomIn W m1 m2 a1 l1.length e1 l1) (g2 : m2 ≤ W.heap.size) (k2 : m1 ≤ m2) (a2 : Option Addr) (e2 m3 : Nat) (t2 : RoomIn W m2 m3 a2 l2.length e2 l2) (g3 : m3 ≤ W.heap.size) (k3 : m2 ≤ m3) :
    wpAnyH Try.prog .any ownOps Q (ownS w (.slice (some b0) l0.length c0) (.slice (some b1) l1.length c1) (.slice (some b2) l2.length c2) (.slice (some b3) l3.length c3)) 3 #[true, true, true, true, true, true, true, true, true, true, true, true, true, true, true, false, false, false] { tmps := #[.agg #[.slice (some b0) l0.length c0, .slice (some b1) l1.length c1, .slice (some b2) l2.length c2, .slice (some b3) l3.length c3], .pointer (some ⟨w.heap.size, 0, none⟩), .pointer (some ⟨w.heap.size + 1, 0, none⟩), .slice (some ⟨z0, 0, none⟩) 0 0, .pointer (some ⟨w.heap.size, 0, none⟩), .slice (some b0) l0.length c0, .slice a0 l0.length e0, .slice (some ⟨z1, 0, none⟩) 0 0, .pointer (some ⟨w.heap.size, 1, none⟩), .slice (some b1) l1.length c1, .slice a1 l1.length e1, .slice (some ⟨z2, 0, none⟩) 0 0, .pointer (some ⟨w.heap.size, 2, none⟩), .slice (some b2) l2.length c2, .slice a2 l2.length e2, .slice (some ⟨z3, 0, none⟩) 0 0, .pointer (some ⟨w.heap.size, 3, none⟩), .slice (some b3) l3.length c3, undef, undef], defers := [] } W := by
  refine wpAnyH_ready (rs := [15]) (by kernel_rfl) (by simp) ?_
  refine AllReadyH.cons (o := ownOp15) rfl (fun K hK => ?_) ?_
  · refine step_freshP (by rfl) (Operand.tmp 15) (Operand.tmp 17) (by rfl) z3 b3 l3.length c3 l3 (by rfl) (by rfl) rfl (o3.below hS.1 (Nat.le_refl _)) n3 ?_
    intro a3 e3 W' hr hb
    have hS' := ownS_keep hS hb
    refine hK.out _ _ hS' (fun _ => ?_)
    exact ownp_nd4_n n0 n1 n2 n3 o0 o1 o2 o3 hQ W' hS' z0 z1 z2 z3 a0 e0 m1 (t0.below hb g1) (Nat.le_trans g1 hb.size) k1 a1 e1 m2 (t1.below hb g2) (Nat.le_trans g2 hb.size) k2 a2 e2 m3 (t2.below hb g3) (Nat.le_trans g3 hb.size) k3 a3 e3 W'.heap.size (hr.mono g3 (Nat.le_refl _)) (Nat.le_refl _) (Nat.le_trans g3 hb.size)
  exact AllReadyH.nil

set_option maxRecDepth 20000 in
set_option maxHeartbeats 4000000 in
theorem ownp_nd3_n {b0 b1 b2 b3 : Addr} {c0 c1 c2 c3 : Nat} {l0 l1 l2 l3 : List (Int × Int)} {w : World} {Q : Exit → Act → World → Prop} (n0 : l0.length ≤ 1048576) (n1 : l1.length ≤ 1048576) (n2 : l2.length ≤ 1048576) (n3 : l3.length ≤ 1048576) (o0 : PRow w (some b0) l0) (o1 : PRow w (some b1) l1) (o2 : PRow w (some b2) l2) (o3 : PRow w (some b3) l3)
    (hQ : ∀ (W : World) (hS : ownS w (.slice (some b0) l0.length c0) (.slice (some b1) l1.length c1) (.slice (some b2) l2.length c2) (.slice (some b3) l3.length c3) W) (z0 z1 z2 z3 : Nat) (a0 : Option Addr) (e0 m1 : Nat) (t0 : RoomIn W (w.heap.size + 2) m1 a0 l0.length e0 l0) (g1 : m1 ≤ W.heap.size) (k1 : (w.heap.size + 2) ≤ m1) (a1 : Option Addr) (e1 m2 : Nat) (t1 : RoomIn W m1 m2 a1 l1.length e1 l1) (g2 : m2 ≤ W.heap.size) (k2 : m1 ≤ m2) (a2 : Option Addr) (e2 m3 : Nat) (t2 : RoomIn W m2 m3 a2 l2.length e2 l2) (g3 : m3 ≤ W.heap.size) (k3 : m2 ≤ m3) (a3 : Option Addr) (e3 m4 : Nat) (t3 : RoomIn W m3 m4 a3 l3.length e3 l3) (g4 : m4 ≤ W.heap.size) (k4 : m3 ≤ m4), Q .normal { tmps := #[.agg #[.slice (some b0) l0.length c0, .slice (some b1) l1.length c1, .slice (some b2) l2.length c2, .slice (some b3) l3.length c3], .pointer (some ⟨w.heap.size, 0, none⟩), .pointer (some ⟨w.heap.size + 1, 0, none⟩), .slice (some ⟨z0, 0, none⟩) 0 0, .pointer (some ⟨w.heap.size, 0, none⟩), .slice (some b0) l0.length c0, .slice a0 l0.length e0, .slice (some ⟨z1, 0, none⟩) 0 0, .pointer (some ⟨w.heap.size, 1, none⟩), .slice (some b1) l1.length c1, .slice a1 l1.length e1, .slice (some ⟨z2, 0, none⟩) 0 0, .pointer (some ⟨w.heap.size, 2, none⟩), .slice (some b2) l2.length c2, .slice a2 l2.length e2, .slice (some ⟨z3, 0, none⟩) 0 0, .pointer (some ⟨w.heap.size, 3, none⟩), .slice (some b3) l3.length c3, .slice a3 l3.length e3, .agg #[.slice a0 l0.length e0, .slice a1 l1.length e1, .slice a2 l2.length e2, .slice a3 l3.length e3]], defers := [] } ((((W.setCell ⟨w.heap.size + 1, 0, none⟩ (.slice a0 l0.length e0)).setCell ⟨w.heap.size + 1, 1, none⟩ (.slice a1 l1.length e1)).setCell ⟨w.heap.size + 1, 2, none⟩ (.slice a2 l2.length e2)).setCell ⟨w.heap.size + 1, 3, none⟩ (.slice a3 l3.length e3)))
    (W : World) (hS : ownS w (.slice (some b0) l0.length c0) (.slice (some b1) l1.length c1) (.slice (some b2) l2.length c2) (.slice (some b3) l3.length c3) W) (z0 z1 z2 : Nat) (a0 : Option Addr) (e0 m1 : Nat) (t0 : RoomIn W (w.heap.size + 2) m1 a0 l0.length e0 l0) (g1 : m1 ≤ W.heap.size) (k1 : (w.heap.size + 2) ≤ m1) (a1 : Option Addr) (e1 m2 : Nat) (t1 : RoomIn W m1 m2 a1 l1.length e1 l1) (g2 : m2 ≤ W.heap.size) (k2 : m1 ≤ m2) (a2 : Option Addr) (e2 m3 : Nat) (t2 : RoomIn W m2 m3 a2 l2.length e2 l2) (g3 : m3 ≤ W.heap.size) (k3 : m2 ≤ m3) :
    wpAnyH Try.prog .any ownOps Q (ownS w (.slice (some b0) l0.length c0) (.slice (some b1) l1.length c1) (.slice (some b2) l2.length c2) (.slice (some b3) l3.length c3)) 4 #[true, true, true, true, true, true, true, true, true, true, true, true, false, true, true, false, false, false] { tmps := #[.agg #[.slice (some b0) l0.length c0, .slice (some b1) l1.length c1, .slice (some b2) l2.length c2, .slice (some b3) l3.length c3], .pointer (some ⟨w.heap.size, 0, none⟩), .pointer (some ⟨w.heap.size + 1, 0, none⟩), .slice (some ⟨z0, 0, none⟩) 0 0, .pointer (some ⟨w.heap.size, 0, none⟩), .slice (some b0) l0.length c0, .slice a0 l0.length e0, .slice (some ⟨z1, 0, none⟩) 0 0, .pointer (some ⟨w.heap.size, 1, none⟩), .slice (some b1) l1.length c1, .slice a1 l1.length e1, .slice (some ⟨z2, 0, none⟩) 0 0, .pointer (some ⟨w.heap.size, 2, none⟩), .slice (some b2) l2.length c2, .slice a2 l2.length e2, undef, .pointer (some ⟨w.heap.size, 3, none⟩), .slice (some b3) l3.length c3, undef, undef], defers := [] } W := by
  refine wpAnyH_ready (rs := [12]) (by kernel_rfl) (by simp) ?_
  refine AllReadyH.cons (o := ownOp12) rfl (fun K hK => ?_) ?_
  · refine step_lit (by rfl) (by rfl) ?_
    intro z3 W' hb
    have hS' := ownS_keep hS hb
    refine hK.out _ _ hS' (fun _ => ?_)
    exact ownp_nd3_3 n0 n1 n2 n3 o0 o1 o2 o3 hQ W' hS' z0 z1 z2 z3 a0 e0 m1 (t0.below hb g1) (Nat.le_trans g1 hb.size) k1 a1 e1 m2 (t1.below hb g2) (Nat.le_trans g2 hb.size) k2 a2 e2 m3 (t2.below hb g3) (Nat.le_trans g3 hb.size) k3
  exact AllReadyH.nil

set_option maxRecDepth 20000 in
set_option maxHeartbeats 4000000 in
theorem ownp_nd2_23 {b0 b1 b2 b3 : Addr} {c0 c1 c2 c3 : Nat} {l0 l1 l2 l3 : List (Int × Int)} {w : World} {Q : Exit → Act → World → Prop} (n0 : l0.length ≤ 1048576) (n1 : l1.length ≤ 1048576) (n2 : l2.length ≤ 1048576) (n3 : l3.length ≤ 1048576) (o0 : PRow w (some b0) l0) (o1 : PRow w (some b1) l1) (o2 : PRow w (some b2) l2) (o3 : PRow w (some b3) l3)
    (hQ : ∀ (W : World) (hS : ownS w (.slice (some b0) l0.length c0) (.slice (some b1) l1.length c1) (.slice (some b2) l2.length c2) (.slice (some b3) l3.length c3) W) (z0 z1 z2 z3 : Nat) (a0 : Option Addr) (e0 m1 : Nat) (t0 : RoomIn W (w.heap.size + 2) m1 a0 l0.length e0 l0) (g1 : m1 ≤ W.heap.size) (k1 : (w.heap.size + 2) ≤ m1) (a1 : Option Addr) (e1 m2 : Nat) (t1 : RoomIn W m1 m2 a1 l1.length e1 l1) (g2 : m2 ≤ W.heap.size) (k2 : m1 ≤ m2) (a2 : Option Addr) (e2 m3 : Nat) (t2 : RoomIn W m2 m3 a2 l2.length e2 l2) (g3 : m3 ≤ W.heap.size) (k3 : m2 ≤ m3) (a3 : Option Addr) (e3 m4 : Nat) (t3 : RoomIn W m3 m4 a3 l3.length e3 l3) (g4 : m4 ≤ W.heap.size) (k4 : m3 ≤ m4), Q .normal { tmps := #[.agg #[.slice (some b0) l0.length c0, .slice (some b1) l1.length c1, .slice (some b2) l2.length c2, .slice (some b3) l3.length c3], .pointer (some ⟨w.heap.size, 0, none⟩), .pointer (some ⟨w.heap.size + 1, 0, none⟩), .slice (some ⟨z0, 0, none⟩) 0 0, .pointer (some ⟨w.heap.size, 0, none⟩), .slice (some b0) l0.length c0, .slice a0 l0.length e0, .slice (some ⟨z1, 0, none⟩) 0 0, .pointer (some ⟨w.heap.size, 1, none⟩), .slice (some b1) l1.length c1, .slice a1 l1.length e1, .slice (some ⟨z2, 0, none⟩) 0 0, .pointer (some ⟨w.heap.size, 2, none⟩), .slice (some b2) l2.length c2, .slice a2 l2.length e2, .slice (some ⟨z3, 0, none⟩) 0 0, .pointer (some ⟨w.heap.size, 3, none⟩), .slice (some b3) l3.length c3, .slice a3 l3.length e3, .agg #[.slice a0 l0.length e0, .slice a1 l1.length e1, .slice a2 l2.length e2, .slice a3 l3.length e3]], defers := [] } ((((W.setCell ⟨w.heap.size + 1, 0, none⟩ (.slice a0 l0.length e0)).setCell ⟨w.heap.size + 1, 1, none⟩ (.slice a1 l1.length e1)).setCell ⟨w.heap.size + 1, 2, none⟩ (.slice a2 l2.length e2)).setCell ⟨w.heap.size + 1, 3, none⟩ (.slice a3 l3.length e3)))
    (W : World) (hS : ownS w (.slice (some b0) l0.length c0) (.slice (some b1) l1.length c1) (.slice (some b2) l2.length c2) (.slice (some b3) l3.length c3) W) (z0 z1 z2 z3 : Nat) (a0 : Option Addr) (e0 m1 : Nat) (t0 : RoomIn W (w.heap.size + 2) m1 a0 l0.length e0 l0) (g1 : m1 ≤ W.heap.size) (k1 : (w.heap.size + 2) ≤ m1) (a1 : Option Addr) (e1 m2 : Nat) (t1 : RoomIn W m1 m2 a1 l1.length e1 l1) (g2 : m2 ≤ W.heap.size) (k2 : m1 ≤ m2) :
    wpAnyH Try.prog .any ownOps Q (ownS w (.slice (some b0) l0.length c0) (.slice (some b1) l1.length c1) (.slice (some b2) l2.length c2) (.slice (some b3) l3.length c3)) 4 #[true, true, true, true, true, true, true, true, true, true, true, false, true, true, true, false, false, false] { tmps := #[.agg #[.slice (some b0) l0.length c0, .slice (some b1) l1.length c1, .slice (some b2) l2.length c2, .slice (some b3) l3.length c3], .pointer (some ⟨w.heap.size, 0, none⟩), .pointer (some ⟨w.heap.size + 1, 0, none⟩), .slice (some ⟨z0, 0, none⟩) 0 0, .pointer (some ⟨w.heap.size, 0, none⟩), .slice (some b0) l0.length c0, .slice a0 l0.length e0, .slice (some ⟨z1, 0, none⟩) 0 0, .pointer (some ⟨w.heap.size, 1, none⟩), .slice (some b1) l1.length c1, .slice a1 l1.length e1, .slice (some ⟨z2, 0, none⟩) 0 0, .pointer (some ⟨w.heap.size, 2, none⟩), .slice (some b2) l2.length c2, undef, .slice (some ⟨z3, 0, none⟩) 0 0, .pointer (some ⟨w.heap.size, 3, none⟩), .slice (some b3) l3.length c3, undef, undef], defers := [] } W := by
  refine wpAnyH_ready (rs := [11]) (by kernel_rfl) (by simp) ?_
  refine AllReadyH.cons (o := ownOp11) rfl (fun K hK => ?_) ?_
  · refine step_freshP (by rfl) (Operand.tmp 11) (Operand.tmp 13) (by rfl) z2 b2 l2.length c2 l2 (by rfl) (by rfl) rfl (o2.below hS.1 (Nat.le_refl _)) n2 ?_
    intro a2 e2 W' hr hb
    have hS' := ownS_keep hS hb
    refine hK.out _ _ hS' (fun _ => ?_)
    exact ownp_nd3_3 n0 n1 n2 n3 o0 o1 o2 o3 hQ W' hS' z0 z1 z2 z3 a0 e0 m1 (t0.below hb g1) (Nat.le_trans g1 hb.size) k1 a1 e1 m2 (t1.below hb g2) (Nat.le_trans g2 hb.size) k2 a2 e2 W'.heap.size (hr.mono g2 (Nat.le_refl _)) (Nat.le_refl _) (Nat.le_trans g2 hb.size)
  exact AllReadyH.nil

set_option maxRecDepth 20000 in
set_option maxHeartbeats 4000000 in
theorem ownp_nd2_2 {b0 b1 b2 b3 : Addr} {c0 c1 c2 c3 : Nat} {l0 l1 l2 l3 : List (Int × Int)} {w : World} {Q : Exit → Act → World → Prop} (n0 : l0.length ≤ 1048576) (n1 : l1.length ≤ 1048576) (n2 : l2.length ≤ 1048576) (n3 : l3.length ≤ 1048576) (o0 : PRow w (some b0) l0) (o1 : PRow w (some b1) l1) (o2 : PRow w (some b2) l2) (o3 : PRow w (some b3) l3)
    (hQ : ∀ (W : World) (hS : ownS w (.slice (some b0) l0.length c0) (.slice (some b1) l1.length c1) (.slice (some b2) l2.length c2) (.slice (some b3) l3.length c3) W) (z0 z1 z2 z3 : Nat) (a0 : Option Addr) (e0 m1 : Nat) (t0 : RoomIn W (w.heap.size + 2) m1 a0 l0.length e0 l0) (g1 : m1 ≤ W.heap.size) (k1 : (w.heap.size + 2) ≤ m1) (a1 : Option Addr) (e1 m2 : Nat) (t1 : RoomIn W m1 m2 a1 l1.length e1 l1) (g2 : m2 ≤ W.heap.size) (k2 : m1 ≤ m2) (a2 : Option Addr) (e2 m3 : Nat) (t2 : RoomIn W m2 m3 a2 l2.length e2 l2) (g3 : m3 ≤ W.heap.size) (k3 : m2 ≤ m3) (a3 : Option Addr) (e3 m4 : Nat) (t3 : RoomIn W m3 m4 a3 l3.length e3 l3) (g4 : m4 ≤ W.heap.size) (k4 : m3 ≤ m4), Q .normal { tmps := #[.agg #[.slice (some b0) l0.length c0, .slice (some b1) l1.length c1, .slice (some b2) l2.length c2, .slice (some b3) l3.length c3], .pointer (some ⟨w.heap.size, 0, none⟩), .pointer (some ⟨w.heap.size + 1, 0, none⟩), .slice (some ⟨z0, 0, none⟩) 0 0, .pointer (some ⟨w.heap.size, 0, none⟩), .slice (some b0) l0.length c0, .slice a0 l0.length e0, .slice (some ⟨z1, 0, none⟩) 0 0, .pointer (some ⟨w.heap.size, 1, none⟩), .slice (some b1) l1.length c1, .slice a1 l1.length e1, .slice (some ⟨z2, 0, none⟩) 0 0, .pointer (some ⟨w.heap.size, 2, none⟩), .slice (some b2) l2.length c2, .slice a2 l2.length e2, .slice (some ⟨z3, 0, none⟩) 0 0, .pointer (some ⟨w.heap.size, 3, none⟩), .slice (some b3) l3.length c3, .slice a3 l3.length e3, .agg #[.slice a0 l0.length e0, .slice a1 l1.length e1, .slice a2 l2.length e2, .slice a3 l3.length e3]], defers := [] } ((((W.setCell ⟨w.heap.size + 1, 0, none⟩ (.slice a0 l0.length e0)).setCell ⟨w.heap.size + 1, 1, none⟩ (.slice a1 l1.length e1)).setCell ⟨w.heap.size + 1, 2, none⟩ (.slice a2 l2.length e2)).setCell ⟨w.heap.size + 1, 3, none⟩ (.slice a3 l3.length e3)))
    (W : World) (hS : ownS w (.slice (some b0) l0.length c0) (.slice (some b1) l1.length c1) (.slice (some b2) l2.length c2) (.slice (some b3) l3.length c3) W) (z0 z1 z2 : Nat) (a0 : Option Addr) (e0 m1 : Nat) (t0 : RoomIn W (w.heap.size + 2) m1 a0 l0.length e0 l0) (g1 : m1 ≤ W.heap.size) (k1 : (w.heap.size + 2) ≤ m1) (a1 : Option Addr) (e1 m2 : Nat) (t1 : RoomIn W m1 m2 a1 l1.length e1 l1) (g2 : m2 ≤ W.heap.size) (k2 : m1 ≤ m2) :
    wpAnyH Try.prog .any ownOps Q (ownS w (.slice (some b0) l0.length c0) (.slice (some b1) l1.length c1) (.slice (some b2) l2.length c2) (.slice (some b3) l3.length c3)) 5 #[true, true, true, true, true, true, true, true, true, true, true, false, false, true, true, false, false, false] { tmps := #[.agg #[.slice (some b0) l0.length c0, .slice (some b1) l1.length c1, .slice (some b2) l2.length c2, .slice (some b3) l3.length c3], .pointer (some ⟨w.heap.size, 0, none⟩), .pointer (some ⟨w.heap.size + 1, 0, none⟩), .slice (some ⟨z0, 0, none⟩) 0 0, .pointer (some ⟨w.heap.size, 0, none⟩), .slice (some b0) l0.length c0, .slice a0 l0.length e0, .slice (some ⟨z1, 0, none⟩) 0 0, .pointer (some ⟨w.heap.size, 1, none⟩), .slice (some b1) l1.length c1, .slice a1 l1.length e1, .slice (some ⟨z2, 0, none⟩) 0 0, .pointer (some ⟨w.heap.size, 2, none⟩), .slice (some b2) l2.length c2, undef, undef, .pointer (some ⟨w.heap.size, 3, none⟩), .slice (some b3) l3.length c3, undef, undef], defers := [] } W := by
  refine wpAnyH_ready (rs := [11, 12]) (by kernel_rfl) (by simp) ?_
  refine AllReadyH.cons (o := ownOp11) rfl (fun K hK => ?_) ?_
  · refine step_freshP (by rfl) (Operand.tmp 11) (Operand.tmp 13) (by rfl) z2 b2 l2.length c2 l2 (by rfl) (by rfl) rfl (o2.below hS.1 (Nat.le_refl _)) n2 ?_
    intro a2 e2 W' hr hb
    have hS' := ownS_keep hS hb
    refine hK.out _ _ hS' (fun _ => ?_)
    exact ownp_nd3_n n0 n1 n2 n3 o0 o1 o2 o3 hQ W' hS' z0 z1 z2 a0 e0 m1 (t0.below hb g1) (Nat.le_trans g1 hb.size) k1 a1 e1 m2 (t1.below hb g2) (Nat.le_trans g2 hb.size) k2 a2 e2 W'.heap.size (hr.mono g2 (Nat.le_refl _)) (Nat.le_refl _) (Nat.le_trans g2 hb.size)
  refine AllReadyH.cons (o := ownOp12) rfl (fun K hK => ?_) ?_
  · refine step_lit (by rfl) (by rfl) ?_
    intro z3 W' hb
    have hS' := ownS_keep hS hb
    refine hK.out _ _ hS' (fun _ => ?_)
    exact ownp_nd2_23 n0 n1 n2 n3 o0 o1 o2 o3 hQ W' hS' z0 z1 z2 z3 a0 e0 m1 (t0.below hb g1) (Nat.le_trans g1 hb.size) k1 a1 e1 m2 (t1.below hb g2) (Nat.le_trans g2 hb.size) k2
  exact AllReadyH.nil

set_option maxRecDepth 20000 in
set_option maxHeartbeats 4000000 in
theorem ownp_nd2_3 {b0 b1 b2 b3 : Addr} {c0 c1 c2 c3 : Nat} {l0 l1 l2 l3 : List (Int × Int)} {w : World} {Q : Exit → Act → World → Prop} (n0 : l0.length ≤ 1048576) (n1 : l1.length ≤ 1048576) (n2 : l2.length ≤ 1048576) (n3 : l3.length ≤ 1048576) (o0 : PRow w (some b0) l0) (o1 : PRow w (some b1) l1) (o2 : PRow w (some b2) l2) (o3 : PRow w (some b3) l3)
    (hQ : ∀ (W : World) (hS : ownS w (.slice (some b0) l0.length c0) (.slice (some b1) l1.length c1) (.slice (some b2) l2.length c2) (.slice (some b3) l3.length c3) W) (z0 z1 z2 z3 : Nat) (a0 : Option Addr) (e0 m1 : Nat) (t0 : RoomIn W (w.heap.size + 2) m1 a0 l0.length e0 l0) (g1 : m1 ≤ W.heap.size) (k1 : (w.heap.size + 2) ≤ m1) (a1 : Option Addr) (e1 m2 : Nat) (t1 : RoomIn W m1 m2 a1 l1.length e1 l1) (g2 : m2 ≤ W.heap.size) (k2 : m1 ≤ m2) (a2 : Option Addr) (e2 m3 : Nat) (t2 : RoomIn W m2 m3 a2 l2.length e2 l2) (g3 : m3 ≤ W.heap.size) (k3 : m2 ≤ m3) (a3 : Option Addr) (e3 m4 : Nat) (t3 : RoomIn W m3 m4 a3 l3.length e3 l3) (g4 : m4 ≤ W.heap.size) (k4 : m3 ≤ m4), Q .normal { tmps := #[.agg #[.slice (some b0) l0.length c0, .slice (some b1) l1.length c1, .slice (some b2) l2.length c2, .slice (some b3) l3.length c3], .pointer (some ⟨w.heap.size, 0, none⟩), .pointer (some ⟨w.heap.size + 1, 0, none⟩), .slice (some ⟨z0, 0, none⟩) 0 0, .pointer (some ⟨w.heap.size, 0, none⟩), .slice (some b0) l0.length c0, .slice a0 l0.length e0, .slice (some ⟨z1, 0, none⟩) 0 0, .pointer (some ⟨w.heap.size, 1, none⟩), .slice (some b1) l1.length c1, .slice a1 l1.length e1, .slice (some ⟨z2, 0, none⟩) 0 0, .pointer (some ⟨w.heap.size, 2, none⟩), .slice (some b2) l2.length c2, .slice a2 l2.length e2, .slice (some ⟨z3, 0, none⟩) 0 0, .pointer (some ⟨w.heap.size, 3, none⟩), .slice (some b3) l3.length c3, .slice a3 l3.length e3, .agg #[.slice a0 l0.length e0, .slice a1 l1.length e1, .slice a2 l2.length e2, .slice a3 l3.length e3]], defers := [] } ((((W.setCell ⟨w.heap.size + 1, 0, none⟩ (.slice a0 l0.length e0)).setCell ⟨w.heap.size + 1, 1, none⟩ (.slice a1 l1.length e1)).setCell ⟨w.heap.size + 1, 2, none⟩ (.slice a2 l2.length e2)).setCell ⟨w.heap.size + 1, 3, none⟩ (.slice a3 l3.length e3)))
    (W : World) (hS : ownS w (.slice (some b0) l0.length c0) (.slice (some b1) l1.length c1) (.slice (some b2) l2.length c2) (.slice (some b3) l3.length c3) W) (z0 z1 z3 : Nat) (a0 : Option Addr) (e0 m1 : Nat) (t0 : RoomIn W (w.heap.size + 2) m1 a0 l0.length e0 l0) (g1 : m1 ≤ W.heap.size) (k1 : (w.heap.size + 2) ≤ m1) (a1 : Option Addr) (e1 m2 : Nat) (t1 : RoomIn W m1 m2 a1 l1.length e1 l1) (g2 : m2 ≤ W.heap.size) (k2 : m1 ≤ m2) :
    wpAnyH Try.prog .any ownOps Q (ownS w (.slice (some b0) l0.length c0) (.slice (some b1) l1.length c1) (.slice (some b2) l2.length c2) (.slice (some b3) l3.length c3)) 5 #[true, true, true, true, true, true, true, true, false, true, true, false, true, true, true, false, false, false] { tmps := #[.agg #[.slice (some b0) l0.length c0, .slice (some b1) l1.length c1, .slice (some b2) l2.length c2, .slice (some b3) l3.length c3], .pointer (some ⟨w.heap.size, 0, none⟩), .pointer (some ⟨w.heap.size + 1, 0, none⟩), .slice (some ⟨z0, 0, none⟩) 0 0, .pointer (some ⟨w.heap.size, 0, none⟩), .slice (some b0) l0.length c0, .slice a0 l0.length e0, .slice (some ⟨z1, 0, none⟩) 0 0, .pointer (some ⟨w.heap.size, 1, none⟩), .slice (some b1) l1.length c1, .slice a1 l1.length e1, undef, .pointer (some ⟨w.heap.size, 2, none⟩), .slice (some b2) l2.length c2, undef, .slice (some ⟨z3, 0, none⟩) 0 0, .pointer (some ⟨w.heap.size, 3, none⟩), .slice (some b3) l3.length c3, undef, undef], defers := [] } W := by
  refine wpAnyH_ready (rs := [8]) (by kernel_rfl) (by simp) ?_
  refine AllReadyH.cons (o := ownOp8) rfl (fun K hK => ?_) ?_
  · refine step_lit (by rfl) (by rfl) ?_
    intro z2 W' hb
    have hS' := ownS_keep hS hb
    refine hK.out _ _ hS' (fun _ => ?_)
    exact ownp_nd2_23 n0 n1 n2 n3 o0 o1 o2 o3 hQ W' hS' z0 z1 z2 z3 a0 e0 m1 (t0.below hb g1) (Nat.le_trans g1 hb.size) k1 a1 e1 m2 (t1.below hb g2) (Nat.le_trans g2 hb.size) k2
  exact AllReadyH.nil

set_option maxRecDepth 20000 in
set_option maxHeartbeats 4000000 in
theorem ownp_nd2_n {b0 b1 b2 b3 : Addr} {c0 c1 c2 c3 : Nat} {l0 l1 l2 l3 : List (Int × Int)} {w : World} {Q : Exit → Act → World → Prop} (n0 : l0.length ≤ 1048576) (n1 : l1.length ≤ 1048576) (n2 : l2.length ≤ 1048576) (n3 : l3.length ≤ 1048576) (o0 : PRow w (some b0) l0) (o1 : PRow w (some b1) l1) (o2 : PRow w (some b2) l2) (o3 : PRow w (some b3) l3)
    (hQ : ∀ (W : World) (hS : ownS w (.slice (some b0) l0.length c0) (.slice (some b1) l1.length c1) (.slice (some b2) l2.length c2) (.slice (some b3) l3.length c3) W) (z0 z1 z2 z3 : Nat) (a0 : Option Addr) (e0 m1 : Nat) (t0 : RoomIn W (w.heap.size + 2) m1 a0 l0.length e0 l0) (g1 : m1 ≤ W.heap.size) (k1 : (w.heap.size + 2) ≤ m1) (a1 : Option Addr) (e1 m2 : Nat) (t1 : RoomIn W m1 m2 a1 l1.length e1 l1) (g2 : m2 ≤ W.heap.size) (k2 : m1 ≤ m2) (a2 : Option Addr) (e2 m3 : Nat) (t2 : RoomIn W m2 m3 a2 l2.length e2 l2) (g3 : m3 ≤ W.heap.size) (k3 : m2 ≤ m3) (a3 : Option Addr) (e3 m4 : Nat) (t3 : RoomIn W m3 m4 a3 l3.length e3 l3) (g4 : m4 ≤ W.heap.size) (k4 : m3 ≤ m4), Q .normal { tmps := #[.agg #[.slice (some b0) l0.length c0, .slice (some b1) l1.length c1, .slice (some b2) l2.length c2, .slice (some b3) l3.length c3], .pointer (some ⟨w.heap.size, 0, none⟩), .pointer (some ⟨w.heap.size + 1, 0, none⟩), .slice (some ⟨z0, 0, none⟩) 0 0, .pointer (some ⟨w.heap.size, 0, none⟩), .slice (some b0) l0.length c0, .slice a0 l0.length e0, .slice (some ⟨z1, 0, none⟩) 0 0, .pointer (some ⟨w.heap.size, 1, none⟩), .slice (some b1) l1.length c1, .slice a1 l1.length e1, .slice (some ⟨z2, 0, none⟩) 0 0, .pointer (some ⟨w.heap.size, 2, none⟩), .slice (some b2) l2.length c2, .slice a2 l2.length e2, .slice (some ⟨z3, 0, none⟩) 0 0, .pointer (some ⟨w.heap.size, 3, none⟩), .slice (some b3) l3.length c3, .slice a3 l3.length e3, .agg #[.slice a0 l0.length e0, .slice a1 l1.length e1, .slice a2 l2.length e2, .slice a3 l3.length e3]], defers := [] } ((((W.setCell ⟨w.heap.size + 1, 0, none⟩ (.slice a0 l0.length e0)).setCell ⟨w.heap.size + 1, 1, none⟩ (.slice a1 l1.length e1)).setCell ⟨w.heap.size + 1, 2, none⟩ (.slice a2 l2.length e2)).setCell ⟨w.heap.size + 1, 3, none⟩ (.slice a3 l3.length e3)))
    (W : World) (hS : ownS w (.slice (some b0) l0.length c0) (.slice (some b1) l1.length c1) (.slice (some b2) l2.length c2) (.slice (some b3) l3.length c3) W) (z0 z1 : Nat) (a0 : Option Addr) (e0 m1 : Nat) (t0 : RoomIn W (w.heap.size + 2) m1 a0 l0.length e0 l0) (g1 : m1 ≤ W.heap.size) (k1 : (w.heap.size + 2) ≤ m1) (a1 : Option Addr) (e1 m2 : Nat) (t1 : RoomIn W m1 m2 a1 l1.length e1 l1) (g2 : m2 ≤ W.heap.size) (k2 : m1 ≤ m2) :
    wpAnyH Try.prog .any ownOps Q (ownS w (.slice (some b0) l0.length c0) (.slice (some b1) l1.length c1) (.slice (some b2) l2.length c2) (.slice (some b3) l3.length c3)) 6 #[true, true, true, true, true, true, true, true, false, true, true, false, false, true, true, false, false, false] { tmps := #[.agg #[.slice (some b0) l0.length c0, .slice (some b1) l1.length c1, .slice (some b2) l2.length c2, .slice (some b3) l3.length c3], .pointer (some ⟨w.heap.size, 0, none⟩), .pointer (some ⟨w.heap.size + 1, 0, none⟩), .slice (some ⟨z0, 0, none⟩) 0 0, .pointer (some ⟨w.heap.size, 0, none⟩), .slice (some b0) l0.length c0, .slice a0 l0.length e0, .slice (some ⟨z1, 0, none⟩) 0 0, .pointer (some ⟨w.heap.size, 1, none⟩), .slice (some b1) l1.length c1, .slice a1 l1.length e1, undef, .pointer (some ⟨w.heap.size, 2, none⟩), .slice (some b2) l2.length c2, undef, undef, .pointer (some ⟨w.heap.size, 3, none⟩), .slice (some b3) l3.length c3, undef, undef], defers := [] } W := by
  refine wpAnyH_ready (rs := [8, 12]) (by kernel_rfl) (by simp) ?_
  refine AllReadyH.cons (o := ownOp8) rfl (fun K hK => ?_) ?_
  · refine step_lit (by rfl) (by rfl) ?_
    intro z2 W' hb
    have hS' := ownS_keep hS hb
    refine hK.out _ _ hS' (fun _ => ?_)
    exact ownp_nd2_2 n0 n1 n2 n3 o0 o1 o2 o3 hQ W' hS' z0 z1 z2 a0 e0 m1 (t0.below hb g1) (Nat.le_trans g1 hb.size) k1 a1 e1 m2 (t1.below hb g2) (Nat.le_trans g2 hb.size) k2
  refine AllReadyH.cons (o := ownOp12) rfl (fun K hK => ?_) ?_
  · refine step_lit (by rfl) (by rfl) ?_
    intro z3 W' hb
    have hS' := ownS_keep hS hb
    refine hK.out _ _ hS' (fun _ => ?_)
    exact ownp_nd2_3 n0 n1 n2 n3 o0 o1 o2 o3 hQ W' hS' z0 z1 z3 a0 e0 m1 (t0.below hb g1) (Nat.le_trans g1 hb.size) k1 a1 e1 m2 (t1.below hb g2) (Nat.le_trans g2 hb.size) k2
  exact AllReadyH.nil

set_option maxRecDepth 20000 in
set_option maxHeartbeats 4000000 in
theorem ownp_nd1_123 {b0 b1 b2 b3 : Addr} {c0 c1 c2 c3 : Nat} {l0 l1 l2 l3 : List (Int × Int)} {w : World} {Q : Exit → Act → World → Prop} (n0 : l0.length ≤ 1048576) (n1 : l1.length ≤ 1048576) (n2 : l2.length ≤ 1048576) (n3 : l3.length ≤ 1048576) (o0 : PRow w (some b0) l0) (o1 : PRow w (some b1) l1) (o2 : PRow w (some b2) l2) (o3 : PRow w (some b3) l3)
    (hQ : ∀ (W : World) (hS : ownS w (.slice (some b0) l0.length c0) (.slice (some b1) l1.length c1) (.slice (some b2) l2.length c2) (.slice (some b3) l3.length c3) W) (z0 z1 z2 z3 : Nat) (a0 : Option Addr) (e0 m1 : Nat) (t0 : RoomIn W (w.heap.size + 2) m1 a0 l0.length e0 l0) (g1 : m1 ≤ W.heap.size) (k1 : (w.heap.size + 2) ≤ m1) (a1 : Option Addr) (e1 m2 : Nat) (t1 : RoomIn W m1 m2 a1 l1.length e1 l1) (g2 : m2 ≤ W.heap.size) (k2 : m1 ≤ m2) (a2 : Option Addr) (e2 m3 : Nat) (t2 : RoomIn W m2 m3 a2 l2.length e2 l2) (g3 : m3 ≤ W.heap.size) (k3 : m2 ≤ m3) (a3 : Option Addr) (e3 m4 : Nat) (t3 : RoomIn W m3 m4 a3 l3.length e3 l3) (g4 : m4 ≤ W.heap.size) (k4 : m3 ≤ m4), Q .normal { tmps := #[.agg #[.slice (some b0) l0.length c0, .slice (some b1) l1.length c1, .slice (some b2) l2.length c2, .slice (some b3) l3.length c3], .pointer (some ⟨w.heap.size, 0, none⟩), .pointer (some ⟨w.heap.size + 1, 0, none⟩), .slice (some ⟨z0, 0, none⟩) 0 0, .pointer (some ⟨w.heap.size, 0, none⟩), .slice (some b0) l0.length c0, .slice a0 l0.length e0, .slice (some ⟨z1, 0, none⟩) 0 0, .pointer (some ⟨w.heap.size, 1, none⟩), .slice (some b1) l1.length c1, .slice a1 l1.length e1, .slice (some ⟨z2, 0, none⟩) 0 0, .pointer (some ⟨w.heap.size, 2, none⟩), .slice (some b2) l2.length c2, .slice a2 l2.length e2, .slice (some ⟨z3, 0, none⟩) 0 0, .pointer (some ⟨w.heap.size, 3, none⟩), .slice (some b3) l3.length c3, .slice a3 l3.length e3, .agg #[.slice a0 l0.length e0, .slice a1 l1.length e1, .slice a2 l2.length e2, .slice a3 l3.length e3]], defers := [] } ((((W.setCell ⟨w.heap.size + 1, 0, none⟩ (.slice a0 l0.length e0)).setCell ⟨w.heap.size + 1, 1, none⟩ (.slice a1 l1.length e1)).setCell ⟨w.heap.size + 1, 2, none⟩ (.slice a2 l2.length e2)).setCell ⟨w.heap.size + 1, 3, none⟩ (.slice a3 l3.length e3)))
    (W : World) (hS : ownS w (.slice (some b0) l0.length c0) (.slice (some b1) l1.length c1) (.slice (some b2) l2.length c2) (.slice (some b3) l3.length c3) W) (z0 z1 z2 z3 : Nat) (a0 : Option Addr) (e0 m1 : Nat) (t0 : RoomIn W (w.heap.size + 2) m1 a0 l0.length e0 l0) (g1 : m1 ≤ W.heap.size) (k1 : (w.heap.size + 2) ≤ m1) :
    wpAnyH Try.prog .any ownOps Q (ownS w (.slice (some b0) l0.length c0) (.slice (some b1) l1.length c1) (.slice (some b2) l2.length c2) (.slice (some b3) l3.length c3)) 5 #[true, true, true, true, true, true, true, false, true, true, true, false, true, true, true, false, false, false] { tmps := #[.agg #[.slice (some b0) l0.length c0, .slice (some b1) l1.length c1, .slice (some b2) l2.length c2, .slice (some b3) l3.length c3], .pointer (some ⟨w.heap.size, 0, none⟩), .pointer (some ⟨w.heap.size + 1, 0, none⟩), .slice (some ⟨z0, 0, none⟩) 0 0, .pointer (some ⟨w.heap.size, 0, none⟩), .slice (some b0) l0.length c0, .slice a0 l0.length e0, .slice (some ⟨z1, 0, none⟩) 0 0, .pointer (some ⟨w.heap.size, 1, none⟩), .slice (some b1) l1.length c1, undef, .slice (some ⟨z2, 0, none⟩) 0 0, .pointer (some ⟨w.heap.size, 2, none⟩), .slice (some b2) l2.length c2, undef, .slice (some ⟨z3, 0, none⟩) 0 0, .pointer (some ⟨w.heap.size, 3, none⟩), .slice (some b3) l3.length c3, undef, undef], defers := [] } W := by
  refine wpAnyH_ready (rs := [7]) (by kernel_rfl) (by simp) ?_
  refine AllReadyH.cons (o := ownOp7) rfl (fun K hK => ?_) ?_
  · refine step_freshP (by rfl) (Operand.tmp 7) (Operand.tmp 9) (by rfl) z1 b1 l1.length c1 l1 (by rfl) (by rfl) rfl (o1.below hS.1 (Nat.le_refl _)) n1 ?_
    intro a1 e1 W' hr hb
    have hS' := ownS_keep hS hb
    refine hK.out _ _ hS' (fun _ => ?_)
    exact ownp_nd2_23 n0 n1 n2 n3 o0 o1 o2 o3 hQ W' hS' z0 z1 z2 z3 a0 e0 m1 (t0.below hb g1) (Nat.le_trans g1 hb.size) k1 a1 e1 W'.heap.size (hr.mono g1 (Nat.le_refl _)) (Nat.le_refl _) (Nat.le_trans g1 hb.size)
  exact AllReadyH.nil

set_option maxRecDepth 20000 in
set_option maxHeartbeats 4000000 in
theorem ownp_nd1_12 {b0 b1 b2 b3 : Addr} {c0 c1 c2 c3 : Nat} {l0 l1 l2 l3 : List (Int × Int)} {w : World} {Q : Exit → Act → World → Prop} (n0 : l0.length ≤ 1048576) (n1 : l1.length ≤ 1048576) (n2 : l2.length ≤ 1048576) (n3 : l3.length ≤ 1048576) (o0 : PRow w (some b0) l0) (o1 : PRow w (some b1) l1) (o2 : PRow w (some b2) l2) (o3 : PRow w (some b3) l3)
    (hQ : ∀ (W : World) (hS : ownS w (.slice (some b0) l0.length c0) (.slice (some b1) l1.length c1) (.slice (some b2) l2.length c2) (.slice (some b3) l3.length c3) W) (z0 z1 z2 z3 : Nat) (a0 : Option Addr) (e0 m1 : Nat) (t0 : RoomIn W (w.heap.size + 2) m1 a0 l0.length e0 l0) (g1 : m1 ≤ W.heap.size) (k1 : (w.heap.size + 2) ≤ m1) (a1 : Option Addr) (e1 m2 : Nat) (t1 : RoomIn W m1 m2 a1 l1.length e1 l1) (g2 : m2 ≤ W.heap.size) (k2 : m1 ≤ m2) (a2 : Option Addr) (e2 m3 : Nat) (t2 : RoomIn W m2 m3 a2 l2.length e2 l2) (g3 : m3 ≤ W.heap.size) (k3 : m2 ≤ m3) (a3 : Option Addr) (e3 m4 : Nat) (t3 : RoomIn W m3 m4 a3 l3.length e3 l3) (g4 : m4 ≤ W.heap.size) (k4 : m3 ≤ m4), Q .normal { tmps := #[.agg #[.slice (some b0) l0.length c0, .slice (some b1) l1.length c1, .slice (some b2) l2.length c2, .slice (some b3) l3.length c3], .pointer (some ⟨w.heap.size, 0, none⟩), .pointer (some ⟨w.heap.size + 1, 0, none⟩), .slice (some ⟨z0, 0, none⟩) 0 0, .pointer (some ⟨w.heap.size, 0, none⟩), .slice (some b0) l0.length c0, .slice a0 l0.length e0, .slice (some ⟨z1, 0, none⟩) 0 0, .pointer (some ⟨w.heap.size, 1, none⟩), .slice (some b1) l1.length c1, .slice a1 l1.length e1, .slice (some ⟨z2, 0, none⟩) 0 0, .pointer (some ⟨w.heap.size, 2, none⟩), .slice (some b2) l2.length c2, .slice a2 l2.length e2, .slice (some ⟨z3, 0, none⟩) 0 0, .pointer (some ⟨w.heap.size, 3, none⟩), .slice (some b3) l3.length c3, .slice a3 l3.length e3, .agg #[.slice a0 l0.length e0, .slice a1 l1.length e1, .slice a2 l2.length e2, .slice a3 l3.length e3]], defers := [] } ((((W.setCell ⟨w.heap.size + 1, 0, none⟩ (.slice a0 l0.length e0)).setCell ⟨w.heap.size + 1, 1, none⟩ (.slice a1 l1.length e1)).setCell ⟨w.heap.size + 1, 2, none⟩ (.slice a2 l2.length e2)).setCell ⟨w.heap.size + 1, 3, none⟩ (.slice a3 l3.length e3)))
    (W : World) (hS : ownS w (.slice (some b0) l0.length c0) (.slice (some b1) l1.length c1) (.slice (some b2) l2.length c2) (.slice (some b3) l3.length c3) W) (z0 z1 z2 : Nat) (a0 : Option Addr) (e0 m1 : Nat) (t0 : RoomIn W (w.heap.size + 2) m1 a0 l0.length e0 l0) (g1 : m1 ≤ W.heap.size) (k1 : (w.heap.size + 2) ≤ m1) :
    wpAnyH Try.prog .any ownOps Q (ownS w (.slice (some b0) l0.length c0) (.slice (some b1) l1.length c1) (.slice (some b2) l2.length c2) (.slice (some b3) l3.length c3)) 6 #[true, true, true, true, true, true, true, false, true, true, true, false, false, true, true, false, false, false] { tmps := #[.agg #[.slice (some b0) l0.length c0, .slice (some b1) l1.length c1, .slice (some b2) l2.length c2, .slice (some b3) l3.length c3], .pointer (some ⟨w.heap.size, 0, none⟩), .pointer (some ⟨w.heap.size + 1, 0, none⟩), .slice (some ⟨z0, 0, none⟩) 0 0, .pointer (some ⟨w.heap.size, 0, none⟩), .slice (some b0) l0.length c0, .slice a0 l0.length e0, .slice (some ⟨z1, 0, none⟩) 0 0, .pointer (some ⟨w.heap.size, 1, none⟩), .slice (some b1) l1.length c1, undef, .slice (some ⟨z2, 0, none⟩) 0 0, .pointer (some ⟨w.heap.size, 2, none⟩), .slice (some b2) l2.length c2, undef, undef, .pointer (some ⟨w.heap.size, 3, none⟩), .slice (some b3) l3.length c3, undef, undef], defers := [] } W := by
  refine wpAnyH_ready (rs := [7, 12]) (by kernel_rfl) (by simp) ?_
  refine AllReadyH.cons (o := ownOp7) rfl (fun K hK => ?_) ?_
  · refine step_freshP (by rfl) (Operand.tmp 7) (Operand.tmp 9) (by rfl) z1 b1 l1.length c1 l1 (by rfl) (by rfl) rfl (o1.below hS.1 (Nat.le_refl _)) n1 ?_
    intro a1 e1 W' hr hb
    have hS' := ownS_keep hS hb
    refine hK.out _ _ hS' (fun _ => ?_)
    exact ownp_nd2_2 n0 n1 n2 n3 o0 o1 o2 o3 hQ W' hS' z0 z1 z2 a0 e0 m1 (t0.below hb g1) (Nat.le_trans g1 hb.size) k1 a1 e1 W'.heap.size (hr.mono g1 (Nat.le_refl _)) (Nat.le_refl _) (Nat.le_trans g1 hb.size)
  refine AllReadyH.cons (o := ownOp12) rfl (fun K hK => ?_) ?_
  · refine step_lit (by rfl) (by rfl) ?_
    intro z3 W' hb
    have hS' := ownS_keep hS hb
    refine hK.out _ _ hS' (fun _ => ?_)
    exact ownp_nd1_123 n0 n1 n2 n3 o0 o1 o2 o3 hQ W' hS' z0 z1 z2 z3 a0 e0 m1 (t0.below hb g1) (Nat.le_trans g1 hb.size) k1
  exact AllReadyH.nil

set_option maxRecDepth 20000 in
set_option maxHeartbeats 4000000 in
theorem ownp_nd1_13 {b0 b1 b2 b3 : Addr} {c0 c1 c2 c3 : Nat} {l0 l1 l2 l3 : List (Int × Int)} {w : World} {Q : Exit → Act → World → Prop} (n0 : l0.length ≤ 1048576) (n1 : l1.length ≤ 1048576) (n2 : l2.length ≤ 1048576) (n3 : l3.length ≤ 1048576) (o0 : PRow w (some b0) l0) (o1 : PRow w (some b1) l1) (o2 : PRow w (some b2) l2) (o3 : PRow w (some b3) l3)
    (hQ : ∀ (W : World) (hS : ownS w (.slice (some b0) l0.length c0) (.slice (some b1) l1.length c1) (.slice (some b2) l2.length c2) (.slice (some b3) l3.length c3) W) (z0 z1 z2 z3 : Nat) (a0 : Option Addr) (e0 m1 : Nat) (t0 : RoomIn W (w.heap.size + 2) m1 a0 l0.length e0 l0) (g1 : m1 ≤ W.heap.size) (k1 : (w.heap.size + 2) ≤ m1) (a1 : Option Addr) (e1 m2 : Nat) (t1 : RoomIn W m1 m2 a1 l1.length e1 l1) (g2 : m2 ≤ W.heap.size) (k2 : m1 ≤ m2) (a2 : Option Addr) (e2 m3 : Nat) (t2 : RoomIn W m2 m3 a2 l2.length e2 l2) (g3 : m3 ≤ W.heap.size) (k3 : m2 ≤ m3) (a3 : Option Addr) (e3 m4 : Nat) (t3 : RoomIn W m3 m4 a3 l3.length e3 l3) (g4 : m4 ≤ W.heap.size) (k4 : m3 ≤ m4), Q .normal { tmps := #[.agg #[.slice (some b0) l0.length c0, .slice (some b1) l1.length c1, .slice (some b2) l2.length c2, .slice (some b3) l3.length c3], .pointer (some ⟨w.heap.size, 0, none⟩), .pointer (some ⟨w.heap.size + 1, 0, none⟩), .slice (some ⟨z0, 0, none⟩) 0 0, .pointer (some ⟨w.heap.size, 0, none⟩), .slice (some b0) l0.length c0, .slice a0 l0.length e0, .slice (some ⟨z1, 0, none⟩) 0 0, .pointer (some ⟨w.heap.size, 1, none⟩), .slice (some b1) l1.length c1, .slice a1 l1.length e1, .slice (some ⟨z2, 0, none⟩) 0 0, .pointer (some ⟨w.heap.size, 2, none⟩), .slice (some b2) l2.length c2, .slice a2 l2.length e2, .slice (some ⟨z3, 0, none⟩) 0 0, .pointer (some ⟨w.heap.size, 3, none⟩), .slice (some b3) l3.length c3, .slice a3 l3.length e3, .agg #[.slice a0 l0.length e0, .slice a1 l1.length e1, .slice a2 l2.length e2, .slice a3 l3.length e3]], defers := [] } ((((W.setCell ⟨w.heap.size + 1, 0, none⟩ (.slice a0 l0.length e0)).setCell ⟨w.heap.size + 1, 1, none⟩ (.slice a1 l1.length e1)).setCell ⟨w.heap.size + 1, 2, none⟩ (.slice a2 l2.length e2)).setCell ⟨w.heap.size + 1, 3, none⟩ (.slice a3 l3.length e3)))
    (W : World) (hS : ownS w (.slice (some b0) l0.length c0) (.slice (some b1) l1.length c1) (.slice (some b2) l2.length c2) (.slice (some b3) l3.length c3) W) (z0 z1 z3 : Nat) (a0 : Option Addr) (e0 m1 : Nat) (t0 : RoomIn W (w.heap.size + 2) m1 a0 l0.length e0 l0) (g1 : m1 ≤ W.heap.size) (k1 : (w.heap.size + 2) ≤ m1) :
    wpAnyH Try.prog .any ownOps Q (ownS w (.slice (some b0) l0.length c0) (.slice (some b1) l1.length c1) (.slice (some b2) l2.length c2) (.slice (some b3) l3.length c3)) 6 #[true, true, true, true, true, true, true, false, false, true, true, false, true, true, true, false, false, false] { tmps := #[.agg #[.slice (some b0) l0.length c0, .slice (some b1) l1.length c1, .slice (some b2) l2.length c2, .slice (some b3) l3.length c3], .pointer (some ⟨w.heap.size, 0, none⟩), .pointer (some ⟨w.heap.size + 1, 0, none⟩), .slice (some ⟨z0, 0, none⟩) 0 0, .pointer (some ⟨w.heap.size, 0, none⟩), .slice (some b0) l0.length c0, .slice a0 l0.length e0, .slice (some ⟨z1, 0, none⟩) 0 0, .pointer (some ⟨w.heap.size, 1, none⟩), .slice (some b1) l1.length c1, undef, undef, .pointer (some ⟨w.heap.size, 2, none⟩), .slice (some b2) l2.length c2, undef, .slice (some ⟨z3, 0, none⟩) 0 0, .pointer (some ⟨w.heap.size, 3, none⟩), .slice (some b3) l3.length c3, undef, undef], defers := [] } W := by
  refine wpAnyH_ready (rs := [7, 8]) (by kernel_rfl) (by simp) ?_
  refine AllReadyH.cons (o := ownOp7) rfl (fun K hK => ?_) ?_
  · refine step_freshP (by rfl) (Operand.tmp 7) (Operand.tmp 9) (by rfl) z1 b1 l1.length c1 l1 (by rfl) (by rfl) rfl (o1.below hS.1 (Nat.le_refl _)) n1 ?_
    intro a1 e1 W' hr hb
    have hS' := ownS_keep hS hb
    refine hK.out _ _ hS' (fun _ => ?_)
    exact ownp_nd2_3 n0 n1 n2 n3 o0 o1 o2 o3 hQ W' hS' z0 z1 z3 a0 e0 m1 (t0.below hb g1) (Nat.le_trans g1 hb.size) k1 a1 e1 W'.heap.size (hr.mono g1 (Nat.le_refl _)) (Nat.le_refl _) (Nat.le_trans g1 hb.size)
  refine AllReadyH.cons (o := ownOp8) rfl (fun K hK => ?_) ?_
  · refine step_lit (by rfl) (by rfl) ?_
    intro z2 W' hb
    have hS' := ownS_keep hS hb
    refine hK.out _ _ hS' (fun _ => ?_)
    exact ownp_nd1_123 n0 n1 n2 n3 o0 o1 o2 o3 hQ W' hS' z0 z1 z2 z3 a0 e0 m1 (t0.below hb g1) (Nat.le_trans g1 hb.size) k1
  exact AllReadyH.nil

set_option maxRecDepth 20000 in
set_option maxHeartbeats 4000000 in
theorem ownp_nd1_23 {b0 b1 b2 b3 : Addr} {c0 c1 c2 c3 : Nat} {l0 l1 l2 l3 : List (Int × Int)} {w : World} {Q : Exit → Act → World → Prop} (n0 : l0.length ≤ 1048576) (n1 : l1.length ≤ 1048576) (n2 : l2.length ≤ 1048576) (n3 : l3.length ≤ 1048576) (o0 : PRow w (some b0) l0) (o1 : PRow w (some b1) l1) (o2 : PRow w (some b2) l2) (o3 : PRow w (some b3) l3)
    (hQ : ∀ (W : World) (hS : ownS w (.slice (some b0) l0.length c0) (.slice (some b1) l1.length c1) (.slice (some b2) l2.length c2) (.slice (some b3) l3.length c3) W) (z0 z1 z2 z3 : Nat) (a0 : Option Addr) (e0 m1 : Nat) (t0 : RoomIn W (w.heap.size + 2) m1 a0 l0.length e0 l0) (g1 : m1 ≤ W.heap.size) (k1 : (w.heap.size + 2) ≤ m1) (a1 : Option Addr) (e1 m2 : Nat) (t1 : RoomIn W m1 m2 a1 l1.length e1 l1) (g2 : m2 ≤ W.heap.size) (k2 : m1 ≤ m2) (a2 : Option Addr) (e2 m3 : Nat) (t2 : RoomIn W m2 m3 a2 l2.length e2 l2) (g3 : m3 ≤ W.heap.size) (k3 : m2 ≤ m3) (a3 : Option Addr) (e3 m4 : Nat) (t3 : RoomIn W m3 m4 a3 l3.length e3 l3) (g4 : m4 ≤ W.heap.size) (k4 : m3 ≤ m4), Q .normal { tmps := #[.agg #[.slice (some b0) l0.length c0, .slice (some b1) l1.length c1, .slice (some b2) l2.length c2, .slice (some b3) l3.length c3], .pointer (some ⟨w.heap.size, 0, none⟩), .pointer (some ⟨w.heap.size + 1, 0, none⟩), .slice (some ⟨z0, 0, none⟩) 0 0, .pointer (some ⟨w.heap.size, 0, none⟩), .slice (some b0) l0.length c0, .slice a0 l0.length e0, .slice (some ⟨z1, 0, none⟩) 0 0, .pointer (some ⟨w.heap.size, 1, none⟩), .slice (some b1) l1.length c1, .slice a1 l1.length e1, .slice (some ⟨z2, 0, none⟩) 0 0, .pointer (some ⟨w.heap.size, 2, none⟩), .slice (some b2) l2.length c2, .slice a2 l2.length e2, .slice (some ⟨z3, 0, none⟩) 0 0, .pointer (some ⟨w.heap.size, 3, none⟩), .slice (some b3) l3.length c3, .slice a3 l3.length e3, .agg #[.slice a0 l0.length e0, .slice a1 l1.length e1, .slice a2 l2.length e2, .slice a3 l3.length e3]], defers := [] } ((((W.setCell ⟨w.heap.size + 1, 0, none⟩ (.slice a0 l0.length e0)).setCell ⟨w.heap.size + 1, 1, none⟩ (.slice a1 l1.length e1)).setCell ⟨w.heap.size + 1, 2, none⟩ (.slice a2 l2.length e2)).setCell ⟨w.heap.size + 1, 3, none⟩ (.slice a3 l3.length e3)))
    (W : World) (hS : ownS w (.slice (some b0) l0.length c0) (.slice (some b1) l1.length c1) (.slice (some b2) l2.length c2) (.slice (some b3) l3.length c3) W) (z0 z2 z3 : Nat) (a0 : Option Addr) (e0 m1 : Nat) (t0 : RoomIn W (w.heap.size + 2) m1 a0 l0.length e0 l0) (g1 : m1 ≤ W.heap.size) (k1 : (w.heap.size + 2) ≤ m1) :
    wpAnyH Try.prog .any ownOps Q (ownS w (.slice (some b0) l0.length c0) (.slice (some b1) l1.length c1) (.slice (some b2) l2.length c2) (.slice (some b3) l3.length c3)) 6 #[true, true, true, true, false, true, true, false, true, true, true, false, true, true, true, false, false, false] { tmps := #[.agg #[.slice (some b0) l0.length c0, .slice (some b1) l1.length c1, .slice (some b2) l2.length c2, .slice (some b3) l3.length c3], .pointer (some ⟨w.heap.size, 0, none⟩), .pointer (some ⟨w.heap.size + 1, 0, none⟩), .slice (some ⟨z0, 0, none⟩) 0 0, .pointer (some ⟨w.heap.size, 0, none⟩), .slice (some b0) l0.length c0, .slice a0 l0.length e0, undef, .pointer (some ⟨w.heap.size, 1, none⟩), .slice (some b1) l1.length c1, undef, .slice (some ⟨z2, 0, none⟩) 0 0, .pointer (some ⟨w.heap.size, 2, none⟩), .slice (some b2) l2.length c2, undef, .slice (some ⟨z3, 0, none⟩) 0 0, .pointer (some ⟨w.heap.size, 3, none⟩), .slice (some b3) l3.length c3, undef, undef], defers := [] } W := by
  refine wpAnyH_ready (rs := [4]) (by kernel_rfl) (by simp) ?_
  refine AllReadyH.cons (o := ownOp4) rfl (fun K hK => ?_) ?_
  · refine step_lit (by rfl) (by rfl) ?_
    intro z1 W' hb
    have hS' := ownS_keep hS hb
    refine hK.out _ _ hS' (fun _ => ?_)
    exact ownp_nd1_123 n0 n1 n2 n3 o0 o1 o2 o3 hQ W' hS' z0 z1 z2 z3 a0 e0 m1 (t0.below hb g1) (Nat.le_trans g1 hb.size) k1
  exact AllReadyH.nil

set_option maxRecDepth 20000 in
set_option maxHeartbeats 4000000 in
theorem ownp_nd1_1 {b0 b1 b2 b3 : Addr} {c0 c1 c2 c3 : Nat} {l0 l1 l2 l3 : List (Int × Int)} {w : World} {Q : Exit → Act → World → Prop} (n0 : l0.length ≤ 1048576) (n1 : l1.length ≤ 1048576) (n2 : l2.length ≤ 1048576) (n3 : l3.length ≤ 1048576) (o0 : PRow w (some b0) l0) (o1 : PRow w (some b1) l1) (o2 : PRow w (some b2) l2) (o3 : PRow w (some b3) l3)
    (hQ : ∀ (W : World) (hS : ownS w (.slice (some b0) l0.length c0) (.slice (some b1) l1.length c1) (.slice (some b2) l2.length c2) (.slice (some b3) l3.length c3) W) (z0 z1 z2 z3 : Nat) (a0 : Option Addr) (e0 m1 : Nat) (t0 : RoomIn W (w.heap.size + 2) m1 a0 l0.length e0 l0) (g1 : m1 ≤ W.heap.size) (k1 : (w.heap.size + 2) ≤ m1) (a1 : Option Addr) (e1 m2 : Nat) (t1 : RoomIn W m1 m2 a1 l1.length e1 l1) (g2 : m2 ≤ W.heap.size) (k2 : m1 ≤ m2) (a2 : Option Addr) (e2 m3 : Nat) (t2 : RoomIn W m2 m3 a2 l2.length e2 l2) (g3 : m3 ≤ W.heap.size) (k3 : m2 ≤ m3) (a3 : Option Addr) (e3 m4 : Nat) (t3 : RoomIn W m3 m4 a3 l3.length e3 l3) (g4 : m4 ≤ W.heap.size) (k4 : m3 ≤ m4), Q .normal { tmps := #[.agg #[.slice (some b0) l0.length c0, .slice (some b1) l1.length c1, .slice (some b2) l2.length c2, .slice (some b3) l3.length c3], .pointer (some ⟨w.heap.size, 0, none⟩), .pointer (some ⟨w.heap.size + 1, 0, none⟩), .slice (some ⟨z0, 0, none⟩) 0 0, .pointer (some ⟨w.heap.size, 0, none⟩), .slice (some b0) l0.length c0, .slice a0 l0.length e0, .slice (some ⟨z1, 0, none⟩) 0 0, .pointer (some ⟨w.heap.size, 1, none⟩), .slice (some b1) l1.length c1, .slice a1 l1.length e1, .slice (some ⟨z2, 0, none⟩) 0 0, .pointer (some ⟨w.heap.size, 2, none⟩), .slice (some b2) l2.length c2, .slice a2 l2.length e2, .slice (some ⟨z3, 0, none⟩) 0 0, .pointer (some ⟨w.heap.size, 3, none⟩), .slice (some b3) l3.length c3, .slice a3 l3.length e3, .agg #[.slice a0 l0.length e0, .slice a1 l1.length e1, .slice a2 l2.length e2, .slice a3 l3.length e3]], defers := [] } ((((W.setCell ⟨w.heap.size + 1, 0, none⟩ (.slice a0 l0.length e0)).setCell ⟨w.heap.size + 1, 1, none⟩ (.slice a1 l1.length e1)).setCell ⟨w.heap.size + 1, 2, none⟩ (.slice a2 l2.length e2)).setCell ⟨w.heap.size + 1, 3, none⟩ (.slice a3 l3.length e3)))
    (W : World) (hS : ownS w (.slice (some b0) l0.length c0) (.slice (some b1) l1.length c1) (.slice (some b2) l2.length c2) (.slice (some b3) l3.length c3) W) (z0 z1 : Nat) (a0 : Option Addr) (e0 m1 : Nat) (t0 : RoomIn W (w.heap.size + 2) m1 a0 l0.length e0 l0) (g1 : m1 ≤ W.heap.size) (k1 : (w.heap.size + 2) ≤ m1) :
    wpAnyH Try.prog .any ownOps Q (ownS w (.slice (some b0) l0.length c0) (.slice (some b1) l1.length c1) (.slice (some b2) l2.length c2) (.slice (some b3) l3.length c3)) 7 #[true, true, true, true, true, true, true, false, false, true, true, false, false, true, true, false, false, false] { tmps := #[.agg #[.slice (some b0) l0.length c0, .slice (some b1) l1.length c1, .slice (some b2) l2.length c2, .slice (some b3) l3.length c3], .pointer (some ⟨w.heap.size, 0, none⟩), .pointer (some ⟨w.heap.size + 1, 0, none⟩), .slice (some ⟨z0, 0, none⟩) 0 0, .pointer (some ⟨w.heap.size, 0, none⟩), .slice (some b0) l0.length c0, .slice a0 l0.length e0, .slice (some ⟨z1, 0, none⟩) 0 0, .pointer (some ⟨w.heap.size, 1, none⟩), .slice (some b1) l1.length c1, undef, undef, .pointer (some ⟨w.heap.size, 2, none⟩), .slice (some b2) l2.length c2, undef, undef, .pointer (some ⟨w.heap.size, 3, none⟩), .slice (some b3) l3.length c3, undef, undef], defers := [] } W := by
  refine wpAnyH_ready (rs := [7, 8, 12]) (by kernel_rfl) (by simp) ?_
  refine AllReadyH.cons (o := ownOp7) rfl (fun K hK => ?_) ?_
  · refine step_freshP (by rfl) (Operand.tmp 7) (Operand.tmp 9) (by rfl) z1 b1 l1.length c1 l1 (by rfl) (by rfl) rfl (o1.below hS.1 (Nat.le_refl _)) n1 ?_
    intro a1 e1 W' hr hb
    have hS' := ownS_keep hS hb
    refine hK.out _ _ hS' (fun _ => ?_)
    exact ownp_nd2_n n0 n1 n2 n3 o0 o1 o2 o3 hQ W' hS' z0 z1 a0 e0 m1 (t0.below hb g1) (Nat.le_trans g1 hb.size) k1 a1 e1 W'.heap.size (hr.mono g1 (Nat.le_refl _)) (Nat.le_refl _) (Nat.le_trans g1 hb.size)
  refine AllReadyH.cons (o := ownOp8) rfl (fun K hK => ?_) ?_
  · refine step_lit (by rfl) (by rfl) ?_
    intro z2 W' hb
    have hS' := ownS_keep hS hb
    refine hK.out _ _ hS' (fun _ => ?_)
    exact ownp_nd1_12 n0 n1 n2 n3 o0 o1 o2 o3 hQ W' hS' z0 z1 z2 a0 e0 m1 (t0.below hb g1) (Nat.le_trans g1 hb.size) k1
  refine AllReadyH.cons (o := ownOp12) rfl (fun K hK => ?_) ?_
  · refine step_lit (by rfl) (by rfl) ?_
    intro z3 W' hb
    have hS' := ownS_keep hS hb
    refine hK.out _ _ hS' (fun _ => ?_)
    exact ownp_nd1_13 n0 n1 n2 n3 o0 o1 o2 o3 hQ W' hS' z0 z1 z3 a0 e0 m1 (t0.below hb g1) (Nat.le_trans g1 hb.size) k1
  exact AllReadyH.nil

set_option maxRecDepth 20000 in
set_option maxHeartbeats 4000000 in
theorem ownp_nd1_2 {b0 b1 b2 b3 : Addr} {c0 c1 c2 c3 : Nat} {l0 l1 l2 l3 : List (Int × Int)} {w : World} {Q : Exit → Act → World → Prop} (n0 : l0.length ≤ 1048576) (n1 : l1.length ≤ 1048576) (n2 : l2.length ≤ 1048576) (n3 : l3.length ≤ 1048576) (o0 : PRow w (some b0) l0) (o1 : PRow w (some b1) l1) (o2 : PRow w (some b2) l2) (o3 : PRow w (some b3) l3)
    (hQ : ∀ (W : World) (hS : ownS w (.slice (some b0) l0.length c0) (.slice (some b1) l1.length c1) (.slice (some b2) l2.length c2) (.slice (some b3) l3.length c3) W) (z0 z1 z2 z3 : Nat) (a0 : Option Addr) (e0 m1 : Nat) (t0 : RoomIn W (w.heap.size + 2) m1 a0 l0.length e0 l0) (g1 : m1 ≤ W.heap.size) (k1 : (w.heap.size + 2) ≤ m1) (a1 : Option Addr) (e1 m2 : Nat) (t1 : RoomIn W m1 m2 a1 l1.length e1 l1) (g2 : m2 ≤ W.heap.size) (k2 : m1 ≤ m2) (a2 : Option Addr) (e2 m3 : Nat) (t2 : RoomIn W m2 m3 a2 l2.length e2 l2) (g3 : m3 ≤ W.heap.size) (k3 : m2 ≤ m3) (a3 : Option Addr) (e3 m4 : Nat) (t3 : RoomIn W m3 m4 a3 l3.length e3 l3) (g4 : m4 ≤ W.heap.size) (k4 : m3 ≤ m4), Q .normal { tmps := #[.agg #[.slice (some b0) l0.length c0, .slice (some b1) l1.length c1, .slice (some b2) l2.length c2, .slice (some b3) l3.length c3], .pointer (some ⟨w.heap.size, 0, none⟩), .pointer (some ⟨w.heap.size + 1, 0, none⟩), .slice (some ⟨z0, 0, none⟩) 0 0, .pointer (some ⟨w.heap.size, 0, none⟩), .slice (some b0) l0.length c0, .slice a0 l0.length e0, .slice (some ⟨z1, 0, none⟩) 0 0, .pointer (some ⟨w.heap.size, 1, none⟩), .slice (some b1) l1.length c1, .slice a1 l1.length e1, .slice (some ⟨z2, 0, none⟩) 0 0, .pointer (some ⟨w.heap.size, 2, none⟩), .slice (some b2) l2.length c2, .slice a2 l2.length e2, .slice (some ⟨z3, 0, none⟩) 0 0, .pointer (some ⟨w.heap.size, 3, none⟩), .slice (some b3) l3.length c3, .slice a3 l3.length e3, .agg #[.slice a0 l0.length e0, .slice a1 l1.length e1, .slice a2 l2.length e2, .slice a3 l3.length e3]], defers := [] } ((((W.setCell ⟨w.heap.size + 1, 0, none⟩ (.slice a0 l0.length e0)).setCell ⟨w.heap.size + 1, 1, none⟩ (.slice a1 l1.length e1)).setCell ⟨w.heap.size + 1, 2, none⟩ (.slice a2 l2.length e2)).setCell ⟨w.heap.size + 1, 3, none⟩ (.slice a3 l3.length e3)))
    (W : World) (hS : ownS w (.slice (some b0) l0.length c0) (.slice (some b1) l1.length c1) (.slice (some b2) l2.length c2) (.slice (some b3) l3.length c3) W) (z0 z2 : Nat) (a0 : Option Addr) (e0 m1 : Nat) (t0 : RoomIn W (w.heap.size + 2) m1 a0 l0.length e0 l0) (g1 : m1 ≤ W.heap.size) (k1 : (w.heap.size + 2) ≤ m1) :
    wpAnyH Try.prog .any ownOps Q (ownS w (.slice (some b0) l0.length c0) (.slice (some b1) l1.length c1) (.slice (some b2) l2.length c2) (.slice (some b3) l3.length c3)) 7 #[true, true, true, true, false, true, true, false, true, true, true, false, false, true, true, false, false, false] { tmps := #[.agg #[.slice (some b0) l0.length c0, .slice (some b1) l1.length c1, .slice (some b2) l2.length c2, .slice (some b3) l3.length c3], .pointer (some ⟨w.heap.size, 0, none⟩), .pointer (some ⟨w.heap.size + 1, 0, none⟩), .slice (some ⟨z0, 0, none⟩) 0 0, .pointer (some ⟨w.heap.size, 0, none⟩), .slice (some b0) l0.length c0, .slice a0 l0.length e0, undef, .pointer (some ⟨w.heap.size, 1, none⟩), .slice (some b1) l1.length c1, undef, .slice (some ⟨z2, 0, none⟩) 0 0, .pointer (some ⟨w.heap.size, 2, none⟩), .slice (some b2) l2.length c2, undef, undef, .pointer (some ⟨w.heap.size, 3, none⟩), .slice (some b3) l3.length c3, undef, undef], defers := [] } W := by
  refine wpAnyH_ready (rs := [4, 12]) (by kernel_rfl) (by simp) ?_
  refine AllReadyH.cons (o := ownOp4) rfl (fun K hK => ?_) ?_
  · refine step_lit (by rfl) (by rfl) ?_
    intro z1 W' hb
    have hS' := ownS_keep hS hb
    refine hK.out _ _ hS' (fun _ => ?_)
    exact ownp_nd1_12 n0 n1 n2 n3 o0 o1 o2 o3 hQ W' hS' z0 z1 z2 a0 e0 m1 (t0.below hb g1) (Nat.le_trans g1 hb.size) k1
  refine AllReadyH.cons (o := ownOp12) rfl (fun K hK => ?_) ?_
  · refine step_lit (by rfl) (by rfl) ?_
    intro z3 W' hb
    have hS' := ownS_keep hS hb
    refine hK.out _ _ hS' (fun _ => ?_)
    exact ownp_nd1_23 n0 n1 n2 n3 o0 o1 o2 o3 hQ W' hS' z0 z2 z3 a0 e0 m1 (t0.below hb g1) (Nat.le_trans g1 hb.size) k1
  exact AllReadyH.nil

set_option maxRecDepth 20000 in
set_option maxHeartbeats 4000000 in
theorem ownp_nd1_3 {b0 b1 b2 b3 : Addr} {c0 c1 c2 c3 : Nat} {l0 l1 l2 l3 : List (Int × Int)} {w : World} {Q : Exit → Act → World → Prop} (n0 : l0.length ≤ 1048576) (n1 : l1.length ≤ 1048576) (n2 : l2.length ≤ 1048576) (n3 : l3.length ≤ 1048576) (o0 : PRow w (some b0) l0) (o1 : PRow w (some b1) l1) (o2 : PRow w (some b2) l2) (o3 : PRow w (some b3) l3)
    (hQ : ∀ (W : World) (hS : ownS w (.slice (some b0) l0.length c0) (.slice (some b1) l1.length c1) (.slice (some b2) l2.length c2) (.slice (some b3) l3.length c3) W) (z0 z1 z2 z3 : Nat) (a0 : Option Addr) (e0 m1 : Nat) (t0 : RoomIn W (w.heap.size + 2) m1 a0 l0.length e0 l0) (g1 : m1 ≤ W.heap.size) (k1 : (w.heap.size + 2) ≤ m1) (a1 : Option Addr) (e1 m2 : Nat) (t1 : RoomIn W m1 m2 a1 l1.length e1 l1) (g2 : m2 ≤ W.heap.size) (k2 : m1 ≤ m2) (a2 : Option Addr) (e2 m3 : Nat) (t2 : RoomIn W m2 m3 a2 l2.length e2 l2) (g3 : m3 ≤ W.heap.size) (k3 : m2 ≤ m3) (a3 : Option Addr) (e3 m4 : Nat) (t3 : RoomIn W m3 m4 a3 l3.length e3 l3) (g4 : m4 ≤ W.heap.size) (k4 : m3 ≤ m4), Q .normal { tmps := #[.agg #[.slice (some b0) l0.length c0, .slice (some b1) l1.length c1, .slice (some b2) l2.length c2, .slice (some b3) l3.length c3], .pointer (some ⟨w.heap.size, 0, none⟩), .pointer (some ⟨w.heap.size + 1, 0, none⟩), .slice (some ⟨z0, 0, none⟩) 0 0, .pointer (some ⟨w.heap.size, 0, none⟩), .slice (some b0) l0.length c0, .slice a0 l0.length e0, .slice (some ⟨z1, 0, none⟩) 0 0, .pointer (some ⟨w.heap.size, 1, none⟩), .slice (some b1) l1.length c1, .slice a1 l1.length e1, .slice (some ⟨z2, 0, none⟩) 0 0, .pointer (some ⟨w.heap.size, 2, none⟩), .slice (some b2) l2.length c2, .slice a2 l2.length e2, .slice (some ⟨z3, 0, none⟩) 0 0, .pointer (some ⟨w.heap.size, 3, none⟩), .slice (some b3) l3.length c3, .slice a3 l3.length e3, .agg #[.slice a0 l0.length e0, .slice a1 l1.length e1, .slice a2 l2.length e2, .slice a3 l3.length e3]], defers := [] } ((((W.setCell ⟨w.heap.size + 1, 0, none⟩ (.slice a0 l0.length e0)).setCell ⟨w.heap.size + 1, 1, none⟩ (.slice a1 l1.length e1)).setCell ⟨w.heap.size + 1, 2, none⟩ (.slice a2 l2.length e2)).setCell ⟨w.heap.size + 1, 3, none⟩ (.slice a3 l3.length e3)))
    (W : World) (hS : ownS w (.slice (some b0) l0.length c0) (.slice (some b1) l1.length c1) (.slice (some b2) l2.length c2) (.slice (some b3) l3.length c3) W) (z0 z3 : Nat) (a0 : Option Addr) (e0 m1 : Nat) (t0 : RoomIn W (w.heap.size + 2) m1 a0 l0.length e0 l0) (g1 : m1 ≤ W.heap.size) (k1 : (w.heap.size + 2) ≤ m1) :
    wpAnyH Try.prog .any ownOps Q (ownS w (.slice (some b0) l0.length c0) (.slice (some b1) l1.length c1) (.slice (some b2) l2.length c2) (.slice (some b3) l3.length c3)) 7 #[true, true, true, true, false, true, true, false, false, true, true, false, true, true, true, false, false, false] { tmps := #[.agg #[.slice (some b0) l0.length c0, .slice (some b1) l1.length c1, .slice (some b2) l2.length c2, .slice (some b3) l3.length c3], .pointer (some ⟨w.heap.size, 0, none⟩), .pointer (some ⟨w.heap.size + 1, 0, none⟩), .slice (some ⟨z0, 0, none⟩) 0 0, .pointer (some ⟨w.heap.size, 0, none⟩), .slice (some b0) l0.length c0, .slice a0 l0.length e0, undef, .pointer (some ⟨w.heap.size, 1, none⟩), .slice (some b1) l1.length c1, undef, undef, .pointer (some ⟨w.heap.size, 2, none⟩), .slice (some b2) l2.length c2, undef, .slice (some ⟨z3, 0, none⟩) 0 0, .pointer (some ⟨w.heap.size, 3, none⟩), .slice (some b3) l3.length c3, undef, undef], defers := [] } W := by
  refine wpAnyH_ready (rs := [4, 8]) (by kernel_rfl) (by simp) ?_
  refine AllReadyH.cons (o := ownOp4) rfl (fun K hK => ?_) ?_
  · refine step_lit (by rfl) (by rfl) ?_
    intro z1 W' hb
    have hS' := ownS_keep hS hb
    refine hK.out _ _ hS' (fun _ => ?_)
    exact ownp_nd1_13 n0 n1 n2 n3 o0 o1 o2 o3 hQ W' hS' z0 z1 z3 a0 e0 m1 (t0.below hb g1) (Nat.le_trans g1 hb.size) k1
  refine AllReadyH.cons (o := ownOp8) rfl (fun K hK => ?_) ?_
  · refine step_lit (by rfl) (by rfl) ?_
    intro z2 W' hb
    have hS' := ownS_keep hS hb
    refine hK.out _ _ hS' (fun _ => ?_)
    exact ownp_nd1_23 n0 n1 n2 n3 o0 o1 o2 o3 hQ W' hS' z0 z2 z3 a0 e0 m1 (t0.below hb g1) (Nat.le_trans g1 hb.size) k1
  exact AllReadyH.nil

set_option maxRecDepth 20000 in
set_option maxHeartbeats 4000000 in
theorem ownp_nd1_n {b0 b1 b2 b3 : Addr} {c0 c1 c2 c3 : Nat} {l0 l1 l2 l3 : List (Int × Int)} {w : World} {Q : Exit → Act → World → Prop} (n0 : l0.length ≤ 1048576) (n1 : l1.length ≤ 1048576) (n2 : l2.length ≤ 1048576) (n3 : l3.length ≤ 1048576) (o0 : PRow w (some b0) l0) (o1 : PRow w (some b1) l1) (o2 : PRow w (some b2) l2) (o3 : PRow w (some b3) l3)
    (hQ : ∀ (W : World) (hS : ownS w (.slice (some b0) l0.length c0) (.slice (some b1) l1.length c1) (.slice (some b2) l2.length c2) (.slice (some b3) l3.length c3) W) (z0 z1 z2 z3 : Nat) (a0 : Option Addr) (e0 m1 : Nat) (t0 : RoomIn W (w.heap.size + 2) m1 a0 l0.length e0 l0) (g1 : m1 ≤ W.heap.size) (k1 : (w.heap.size + 2) ≤ m1) (a1 : Option Addr) (e1 m2 : Nat) (t1 : RoomIn W m1 m2 a1 l1.length e1 l1) (g2 : m2 ≤ W.heap.size) (k2 : m1 ≤ m2) (a2 : Option Addr) (e2 m3 : Nat) (t2 : RoomIn W m2 m3 a2 l2.length e2 l2) (g3 : m3 ≤ W.heap.size) (k3 : m2 ≤ m3) (a3 : Option Addr) (e3 m4 : Nat) (t3 : RoomIn W m3 m4 a3 l3.length e3 l3) (g4 : m4 ≤ W.heap.size) (k4 : m3 ≤ m4), Q .normal { tmps := #[.agg #[.slice (some b0) l0.length c0, .slice (some b1) l1.length c1, .slice (some b2) l2.length c2, .slice (some b3) l3.length c3], .pointer (some ⟨w.heap.size, 0, none⟩), .pointer (some ⟨w.heap.size + 1, 0, none⟩), .slice (some ⟨z0, 0, none⟩) 0 0, .pointer (some ⟨w.heap.size, 0, none⟩), .slice (some b0) l0.length c0, .slice a0 l0.length e0, .slice (some ⟨z1, 0, none⟩) 0 0, .pointer (some ⟨w.heap.size, 1, none⟩), .slice (some b1) l1.length c1, .slice a1 l1.length e1, .slice (some ⟨z2, 0, none⟩) 0 0, .pointer (some ⟨w.heap.size, 2, none⟩), .slice (some b2) l2.length c2, .slice a2 l2.length e2, .slice (some ⟨z3, 0, none⟩) 0 0, .pointer (some ⟨w.heap.size, 3, none⟩), .slice (some b3) l3.length c3, .slice a3 l3.length e3, .agg #[.slice a0 l0.length e0, .slice a1 l1.length e1, .slice a2 l2.length e2, .slice a3 l3.length e3]], defers := [] } ((((W.setCell ⟨w.heap.size + 1, 0, none⟩ (.slice a0 l0.length e0)).setCell ⟨w.heap.size + 1, 1, none⟩ (.slice a1 l1.length e1)).setCell ⟨w.heap.size + 1, 2, none⟩ (.slice a2 l2.length e2)).setCell ⟨w.heap.size + 1, 3, none⟩ (.slice a3 l3.length e3)))
    (W : World) (hS : ownS w (.slice (some b0) l0.length c0) (.slice (some b1) l1.length c1) (.slice (some b2) l2.length c2) (.slice (some b3) l3.length c3) W) (z0 : Nat) (a0 : Option Addr) (e0 m1 : Nat) (t0 : RoomIn W (w.heap.size + 2) m1 a0 l0.length e0 l0) (g1 : m1 ≤ W.heap.size) (k1 : (w.heap.size + 2) ≤ m1) :
    wpAnyH Try.prog .any ownOps Q (ownS w (.slice (some b0) l0.length c0) (.slice (some b1) l1.length c1) (.slice (some b2) l2.length c2) (.slice (some b3) l3.length c3)) 8 #[true, true, true, true, false, true, true, false, false, true, true, false, false, true, true, false, false, false] { tmps := #[.agg #[.slice (some b0) l0.length c0, .slice (some b1) l1.length c1, .slice (some b2) l2.length c2, .slice (some b3) l3.length c3], .pointer (some ⟨w.heap.size, 0, none⟩), .pointer (some ⟨w.heap.size + 1, 0, none⟩), .slice (some ⟨z0, 0, none⟩) 0 0, .pointer (some ⟨w.heap.size, 0, none⟩), .slice (some b0) l0.length c0, .slice a0 l0.length e0, undef, .pointer (some ⟨w.heap.size, 1, none⟩), .slice (some b1) l1.length c1, undef, undef, .pointer (some ⟨w.heap.size, 2, none⟩), .slice (some b2) l2.length c2, undef, undef, .pointer (some ⟨w.heap.size, 3, none⟩), .slice (some b3) l3.length c3, undef, undef], defers := [] } W := by
  refine wpAnyH_ready (rs := [4, 8, 12]) (by kernel_rfl) (by simp) ?_
  refine AllReadyH.cons (o := ownOp4) rfl (fun K hK => ?_) ?_
  · refine step_lit (by rfl) (by rfl) ?_
    intro z1 W' hb
    have hS' := ownS_keep hS hb
    refine hK.out _ _ hS' (fun _ => ?_)
    exact ownp_nd1_1 n0 n1 n2 n3 o0 o1 o2 o3 hQ W' hS' z0 z1 a0 e0 m1 (t0.below hb g1) (Nat.le_trans g1 hb.size) k1
  refine AllReadyH.cons (o := ownOp8) rfl (fun K hK => ?_) ?_
  · refine step_lit (by rfl) (by rfl) ?_
    intro z2 W' hb
    have hS' := ownS_keep hS hb
    refine hK.out _ _ hS' (fun _ => ?_)
    exact ownp_nd1_2 n0 n1 n2 n3 o0 o1 o2 o3 hQ W' hS' z0 z2 a0 e0 m1 (t0.below hb g1) (Nat.le_trans g1 hb.size) k1
  refine AllReadyH.cons (o := ownOp12) rfl (fun K hK => ?_) ?_
  · refine step_lit (by rfl) (by rfl) ?_
    intro z3 W' hb
    have hS' := ownS_keep hS hb
    refine hK.out _ _ hS' (fun _ => ?_)
    exact ownp_nd1_3 n0 n1 n2 n3 o0 o1 o2 o3 hQ W' hS' z0 z3 a0 e0 m1 (t0.below hb g1) (Nat.le_trans g1 hb.size) k1
  exact AllReadyH.nil

set_option maxRecDepth 20000 in
set_option maxHeartbeats 4000000 in
theorem ownp_nd0_0123 {b0 b1 b2 b3 : Addr} {c0 c1 c2 c3 : Nat} {l0 l1 l2 l3 : List (Int × Int)} {w : World} {Q : Exit → Act → World → Prop} (n0 : l0.length ≤ 1048576) (n1 : l1.length ≤ 1048576) (n2 : l2.length ≤ 1048576) (n3 : l3.length ≤ 1048576) (o0 : PRow w (some b0) l0) (o1 : PRow w (some b1) l1) (o2 : PRow w (some b2) l2) (o3 : PRow w (some b3) l3)
    (hQ : ∀ (W : World) (hS : ownS w (.slice (some b0) l0.length c0) (.slice (some b1) l1.length c1) (.slice (some b2) l2.length c2) (.slice (some b3) l3.length c3) W) (z0 z1 z2 z3 : Nat) (a0 : Option Addr) (e0 m1 : Nat) (t0 : RoomIn W (w.heap.size + 2) m1 a0 l0.length e0 l0) (g1 : m1 ≤ W.heap.size) (k1 : (w.heap.size + 2) ≤ m1) (a1 : Option Addr) (e1 m2 : Nat) (t1 : RoomIn W m1 m2 a1 l1.length e1 l1) (g2 : m2 ≤ W.heap.size) (k2 : m1 ≤ m2) (a2 : Option Addr) (e2 m3 : Nat) (t2 : RoomIn W m2 m3 a2 l2.length e2 l2) (g3 : m3 ≤ W.heap.size) (k3 : m2 ≤ m3) (a3 : Option Addr) (e3 m4 : Nat) (t3 : RoomIn W m3 m4 a3 l3.length e3 l3) (g4 : m4 ≤ W.heap.size) (k4 : m3 ≤ m4), Q .normal { tmps := #[.agg #[.slice (some b0) l0.length c0, .slice (some b1) l1.length c1, .slice (some b2) l2.length c2, .slice (some b3) l3.length c3], .pointer (some ⟨w.heap.size, 0, none⟩), .pointer (some ⟨w.heap.size + 1, 0, none⟩), .slice (some ⟨z0, 0, none⟩) 0 0, .pointer (some ⟨w.heap.size, 0, none⟩), .slice (some b0) l0.length c0, .slice a0 l0.length e0, .slice (some ⟨z1, 0, none⟩) 0 0, .pointer (some ⟨w.heap.size, 1, none⟩), .slice (some b1) l1.length c1, .slice a1 l1.length e1, .slice (some ⟨z2, 0, none⟩) 0 0, .pointer (some ⟨w.heap.size, 2, none⟩), .slice (some b2) l2.length c2, .slice a2 l2.length e2, .slice (some ⟨z3, 0, none⟩) 0 0, .pointer (some ⟨w.heap.size, 3, none⟩), .slice (some b3) l3.length c3, .slice a3 l3.length e3, .agg #[.slice a0 l0.length e0, .slice a1 l1.length e1, .slice a2 l2.length e2, .slice a3 l3.length e3]], defers := [] } ((((W.setCell ⟨w.heap.size + 1, 0, none⟩ (.slice a0 l0.length e0)).setCell ⟨w.heap.size + 1, 1, none⟩ (.slice a1 l1.length e1)).setCell ⟨w.heap.size + 1, 2, none⟩ (.slice a2 l2.length e2)).setCell ⟨w.heap.size + 1, 3, none⟩ (.slice a3 l3.length e3)))
    (W : World) (hS : ownS w (.slice (some b0) l0.length c0) (.slice (some b1) l1.length c1) (.slice (some b2) l2.length c2) (.slice (some b3) l3.length c3) W) (z0 z1 z2 z3 : Nat) :
    wpAnyH Try.prog .any ownOps Q (ownS w (.slice (some b0) l0.length c0) (.slice (some b1) l1.length c1) (.slice (some b2) l2.length c2) (.slice (some b3) l3.length c3)) 6 #[true, true, true, false, true, true, true, false, true, true, true, false, true, true, true, false, false, false] { tmps := #[.agg #[.slice (some b0) l0.length c0, .slice (some b1) l1.length c1, .slice (some b2) l2.length c2, .slice (some b3) l3.length c3], .pointer (some ⟨w.heap.size, 0, none⟩), .pointer (some ⟨w.heap.size + 1, 0, none⟩), .slice (some ⟨z0, 0, none⟩) 0 0, .pointer (some ⟨w.heap.size, 0, none⟩), .slice (some b0) l0.length c0, undef, .slice (some ⟨z1, 0, none⟩) 0 0, .pointer (some ⟨w.heap.size, 1, none⟩), .slice (some b1) l1.length c1, undef, .slice (some ⟨z2, 0, none⟩) 0 0, .pointer (some ⟨w.heap.size, 2, none⟩), .slice (some b2) l2.length c2, undef, .slice (some ⟨z3, 0, none⟩) 0 0, .pointer (some ⟨w.heap.size, 3, none⟩), .slice (some b3) l3.length c3, undef, undef], defers := [] } W := by
  refine wpAnyH_ready (rs := [3]) (by kernel_rfl) (by simp) ?_
  refine AllReadyH.cons (o := ownOp3) rfl (fun K hK => ?_) ?_
  · refine step_freshP (by rfl) (Operand.tmp 3) (Operand.tmp 5) (by rfl) z0 b0 l0.length c0 l0 (by rfl) (by rfl) rfl (o0.below hS.1 (Nat.le_refl _)) n0 ?_
    intro a0 e0 W' hr hb
    have hS' := ownS_keep hS hb
    refine hK.out _ _ hS' (fun _ => ?_)
    exact ownp_nd1_123 n0 n1 n2 n3 o0 o1 o2 o3 hQ W' hS' z0 z1 z2 z3  a0 e0 W'.heap.size (hr.mono (ownS_ge hS) (Nat.le_refl _)) (Nat.le_refl _) (Nat.le_trans (ownS_ge hS) hb.size)
  exact AllReadyH.nil

set_option maxRecDepth 20000 in
set_option maxHeartbeats 4000000 in
theorem ownp_nd0_012 {b0 b1 b2 b3 : Addr} {c0 c1 c2 c3 : Nat} {l0 l1 l2 l3 : List (Int × Int)} {w : World} {Q : Exit → Act → World → Prop} (n0 : l0.length ≤ 1048576) (n1 : l1.length ≤ 1048576) (n2 : l2.length ≤ 1048576) (n3 : l3.length ≤ 1048576) (o0 : PRow w (some b0) l0) (o1 : PRow w (some b1) l1) (o2 : PRow w (some b2) l2) (o3 : PRow w (some b3) l3)
    (hQ : ∀ (W : World) (hS : ownS w (.slice (some b0) l0.length c0) (.slice (some b1) l1.length c1) (.slice (some b2) l2.length c2) (.slice (some b3) l3.length c3) W) (z0 z1 z2 z3 : Nat) (a0 : Option Addr) (e0 m1 : Nat) (t0 : RoomIn W (w.heap.size + 2) m1 a0 l0.length e0 l0) (g1 : m1 ≤ W.heap.size) (k1 : (w.heap.size + 2) ≤ m1) (a1 : Option Addr) (e1 m2 : Nat) (t1 : RoomIn W m1 m2 a1 l1.length e1 l1) (g2 : m2 ≤ W.heap.size) (k2 : m1 ≤ m2) (a2 : Option Addr) (e2 m3 : Nat) (t2 : RoomIn W m2 m3 a2 l2.length e2 l2) (g3 : m3 ≤ W.heap.size) (k3 : m2 ≤ m3) (a3 : Option Addr) (e3 m4 : Nat) (t3 : RoomIn W m3 m4 a3 l3.length e3 l3) (g4 : m4 ≤ W.heap.size) (k4 : m3 ≤ m4), Q .normal { tmps := #[.agg #[.slice (some b0) l0.length c0, .slice (some b1) l1.length c1, .slice (some b2) l2.length c2, .slice (some b3) l3.length c3], .pointer (some ⟨w.heap.size, 0, none⟩), .pointer (some ⟨w.heap.size + 1, 0, none⟩), .slice (some ⟨z0, 0, none⟩) 0 0, .pointer (some ⟨w.heap.size, 0, none⟩), .slice (some b0) l0.length c0, .slice a0 l0.length e0, .slice (some ⟨z1, 0, none⟩) 0 0, .pointer (some ⟨w.heap.size, 1, none⟩), .slice (some b1) l1.length c1, .slice a1 l1.length e1, .slice (some ⟨z2, 0, none⟩) 0 0, .pointer (some ⟨w.heap.size, 2, none⟩), .slice (some b2) l2.length c2, .slice a2 l2.length e2, .slice (some ⟨z3, 0, none⟩) 0 0, .pointer (some ⟨w.heap.size, 3, none⟩), .slice (some b3) l3.length c3, .slice a3 l3.length e3, .agg #[.slice a0 l0.length e0, .slice a1 l1.length e1, .slice a2 l2.length e2, .slice a3 l3.length e3]], defers := [] } ((((W.setCell ⟨w.heap.size + 1, 0, none⟩ (.slice a0 l0.length e0)).setCell ⟨w.heap.size + 1, 1, none⟩ (.slice a1 l1.length e1)).setCell ⟨w.heap.size + 1, 2, none⟩ (.slice a2 l2.length e2)).setCell ⟨w.heap.size + 1, 3, none⟩ (.slice a3 l3.length e3)))
    (W : World) (hS : ownS w (.slice (some b0) l0.length c0) (.slice (some b1) l1.length c1) (.slice (some b2) l2.length c2) (.slice (some b3) l3.length c3) W) (z0 z1 z2 : Nat) :
    wpAnyH Try.prog .any ownOps Q (ownS w (.slice (some b0) l0.length c0) (.slice (some b1) l1.length c1) (.slice (some b2) l2.length c2) (.slice (some b3) l3.length c3)) 7 #[true, true, true, false, true, true, true, false, true, true, true, false, false, true, true, false, false, false] { tmps := #[.agg #[.slice (some b0) l0.length c0, .slice (some b1) l1.length c1, .slice (some b2) l2.length c2, .slice (some b3) l3.length c3], .pointer (some ⟨w.heap.size, 0, none⟩), .pointer (some ⟨w.heap.size + 1, 0, none⟩), .slice (some ⟨z0, 0, none⟩) 0 0, .pointer (some ⟨w.heap.size, 0, none⟩), .slice (some b0) l0.length c0, undef, .slice (some ⟨z1, 0, none⟩) 0 0, .pointer (some ⟨w.heap.size, 1, none⟩), .slice (some b1) l1.length c1, undef, .slice (some ⟨z2, 0, none⟩) 0 0, .pointer (some ⟨w.heap.size, 2, none⟩), .slice (some b2) l2.length c2, undef, undef, .pointer (some ⟨w.heap.size, 3, none⟩), .slice (some b3) l3.length c3, undef, undef], defers := [] } W := by
  refine wpAnyH_ready (rs := [3, 12]) (by kernel_rfl) (by simp) ?_
  refine AllReadyH.cons (o := ownOp3) rfl (fun K hK => ?_) ?_
  · refine step_freshP (by rfl) (Operand.tmp 3) (Operand.tmp 5) (by rfl) z0 b0 l0.length c0 l0 (by rfl) (by rfl) rfl (o0.below hS.1 (Nat.le_refl _)) n0 ?_
    intro a0 e0 W' hr hb
    have hS' := ownS_keep hS hb
    refine hK.out _ _ hS' (fun _ => ?_)
    exact ownp_nd1_12 n0 n1 n2 n3 o0 o1 o2 o3 hQ W' hS' z0 z1 z2  a0 e0 W'.heap.size (hr.mono (ownS_ge hS) (Nat.le_refl _)) (Nat.le_refl _) (Nat.le_trans (ownS_ge hS) hb.size)
  refine AllReadyH.cons (o := ownOp12) rfl (fun K hK => ?_) ?_
  · refine step_lit (by rfl) (by rfl) ?_
    intro z3 W' hb
    have hS' := ownS_keep hS hb
    refine hK.out _ _ hS' (fun _ => ?_)
    exact ownp_nd0_0123 n0 n1 n2 n3 o0 o1 o2 o3 hQ W' hS' z0 z1 z2 z3 
  exact AllReadyH.nil

set_option maxRecDepth 20000 in
set_option maxHeartbeats 4000000 in
theorem ownp_nd0_013 {b0 b1 b2 b3 : Addr} {c0 c1 c2 c3 : Nat} {l0 l1 l2 l3 : List (Int × Int)} {w : World} {Q : Exit → Act → World → Prop} (n0 : l0.length ≤ 1048576) (n1 : l1.length ≤ 1048576) (n2 : l2.length ≤ 1048576) (n3 : l3.length ≤ 1048576) (o0 : PRow w (some b0) l0) (o1 : PRow w (some b1) l1) (o2 : PRow w (some b2) l2) (o3 : PRow w (some b3) l3)
    (hQ : ∀ (W : World) (hS : ownS w (.slice (some b0) l0.length c0) (.slice (some b1) l1.length c1) (.slice (some b2) l2.length c2) (.slice (some b3) l3.length c3) W) (z0 z1 z2 z3 : Nat) (a0 : Option Addr) (e0 m1 : Nat) (t0 : RoomIn W (w.heap.size + 2) m1 a0 l0.length e0 l0) (g1 : m1 ≤ W.heap.size) (k1 : (w.heap.size + 2) ≤ m1) (a1 : Option Addr) (e1 m2 : Nat) (t1 : RoomIn W m1 m2 a1 l1.length e1 l1) (g2 : m2 ≤ W.heap.size) (k2 : m1 ≤ m2) (a2 : Option Addr) (e2 m3 : Nat) (t2 : RoomIn W m2 m3 a2 l2.length e2 l2) (g3 : m3 ≤ W.heap.size) (k3 : m2 ≤ m3) (a3 : Option Addr) (e3 m4 : Nat) (t3 : RoomIn W m3 m4 a3 l3.length e3 l3) (g4 : m4 ≤ W.heap.size) (k4 : m3 ≤ m4), Q .normal { tmps := #[.agg #[.slice (some b0) l0.length c0, .slice (some b1) l1.length c1, .slice (some b2) l2.length c2, .slice (some b3) l3.length c3], .pointer (some ⟨w.heap.size, 0, none⟩), .pointer (some ⟨w.heap.size + 1, 0, none⟩), .slice (some ⟨z0, 0, none⟩) 0 0, .pointer (some ⟨w.heap.size, 0, none⟩), .slice (some b0) l0.length c0, .slice a0 l0.length e0, .slice (some ⟨z1, 0, none⟩) 0 0, .pointer (some ⟨w.heap.size, 1, none⟩), .slice (some b1) l1.length c1, .slice a1 l1.length e1, .slice (some ⟨z2, 0, none⟩) 0 0, .pointer (some ⟨w.heap.size, 2, none⟩), .slice (some b2) l2.length c2, .slice a2 l2.length e2, .slice (some ⟨z3, 0, none⟩) 0 0, .pointer (some ⟨w.heap.size, 3, none⟩), .slice (some b3) l3.length c3, .slice a3 l3.length e3, .agg #[.slice a0 l0.length e0, .slice a1 l1.length e1, .slice a2 l2.length e2, .slice a3 l3.length e3]], defers := [] } ((((W.setCell ⟨w.heap.size + 1, 0, none⟩ (.slice a0 l0.length e0)).setCell ⟨w.heap.size + 1, 1, none⟩ (.slice a1 l1.length e1)).setCell ⟨w.heap.size + 1, 2, none⟩ (.slice a2 l2.length e2)).setCell ⟨w.heap.size + 1, 3, none⟩ (.slice a3 l3.length e3)))
    (W : World) (hS : ownS w (.slice (some b0) l0.length c0) (.slice (some b1) l1.length c1) (.slice (some b2) l2.length c2) (.slice (some b3) l3.length c3) W) (z0 z1 z3 : Nat) :
    wpAnyH Try.prog .any ownOps Q (ownS w (.slice (some b0) l0.length c0) (.slice (some b1) l1.length c1) (.slice (some b2) l2.length c2) (.slice (some b3) l3.length c3)) 7 #[true, true, true, false, true, true, true, false, false, true, true, false, true, true, true, false, false, false] { tmps := #[.agg #[.slice (some b0) l0.length c0, .slice (some b1) l1.length c1, .slice (some b2) l2.length c2, .slice (some b3) l3.length c3], .pointer (some ⟨w.heap.size, 0, none⟩), .pointer (some ⟨w.heap.size + 1, 0, none⟩), .slice (some ⟨z0, 0, none⟩) 0 0, .pointer (some ⟨w.heap.size, 0, none⟩), .slice (some b0) l0.length c0, undef, .slice (some ⟨z1, 0, none⟩) 0 0, .pointer (some ⟨w.heap.size, 1, none⟩), .slice (some b1) l1.length c1, undef, undef, .pointer (some ⟨w.heap.size, 2, none⟩), .slice (some b2) l2.length c2, undef, .slice (some ⟨z3, 0, none⟩) 0 0, .pointer (some ⟨w.heap.size, 3, none⟩), .slice (some b3) l3.length c3, undef, undef], defers := [] } W := by
  refine wpAnyH_ready (rs := [3, 8]) (by kernel_rfl) (by simp) ?_
  refine AllReadyH.cons (o := ownOp3) rfl (fun K hK => ?_) ?_
  · refine step_freshP (by rfl) (Operand.tmp 3) (Operand.tmp 5) (by rfl) z0 b0 l0.length c0 l0 (by rfl) (by rfl) rfl (o0.below hS.1 (Nat.le_refl _)) n0 ?_
    intro a0 e0 W' hr hb
    have hS' := ownS_keep hS hb
    refine hK.out _ _ hS' (fun _ => ?_)
    exact ownp_nd1_13 n0 n1 n2 n3 o0 o1 o2 o3 hQ W' hS' z0 z1 z3  a0 e0 W'.heap.size (hr.mono (ownS_ge hS) (Nat.le_refl _)) (Nat.le_refl _) (Nat.le_trans (ownS_ge hS) hb.size)
  refine AllReadyH.cons (o := ownOp8) rfl (fun K hK => ?_) ?_
  · refine step_lit (by rfl) (by rfl) ?_
    intro z2 W' hb
    have hS' := ownS_keep hS hb
    refine hK.out _ _ hS' (fun _ => ?_)
    exact ownp_nd0_0123 n0 n1 n2 n3 o0 o1 o2 o3 hQ W' hS' z0 z1 z2 z3 
  exact AllReadyH.nil

set_option maxRecDepth 20000 in
set_option maxHeartbeats 4000000 in
theorem ownp_nd0_023 {b0 b1 b2 b3 : Addr} {c0 c1 c2 c3 : Nat} {l0 l1 l2 l3 : List (Int × Int)} {w : World} {Q : Exit → Act → World → Prop} (n0 : l0.length ≤ 1048576) (n1 : l1.length ≤ 1048576) (n2 : l2.length ≤ 1048576) (n3 : l3.length ≤ 1048576) (o0 : PRow w (some b0) l0) (o1 : PRow w (some b1) l1) (o2 : PRow w (some b2) l2) (o3 : PRow w (some b3) l3)
    (hQ : ∀ (W : World) (hS : ownS w (.slice (some b0) l0.length c0) (.slice (some b1) l1.length c1) (.slice (some b2) l2.length c2) (.slice (some b3) l3.length c3) W) (z0 z1 z2 z3 : Nat) (a0 : Option Addr) (e0 m1 : Nat) (t0 : RoomIn W (w.heap.size + 2) m1 a0 l0.length e0 l0) (g1 : m1 ≤ W.heap.size) (k1 : (w.heap.size + 2) ≤ m1) (a1 : Option Addr) (e1 m2 : Nat) (t1 : RoomIn W m1 m2 a1 l1.length e1 l1) (g2 : m2 ≤ W.heap.size) (k2 : m1 ≤ m2) (a2 : Option Addr) (e2 m3 : Nat) (t2 : RoomIn W m2 m3 a2 l2.length e2 l2) (g3 : m3 ≤ W.heap.size) (k3 : m2 ≤ m3) (a3 : Option Addr) (e3 m4 : Nat) (t3 : RoomIn W m3 m4 a3 l3.length e3 l3) (g4 : m4 ≤ W.heap.size) (k4 : m3 ≤ m4), Q .normal { tmps := #[.agg #[.slice (some b0) l0.length c0, .slice (some b1) l1.length c1, .slice (some b2) l2.length c2, .slice (some b3) l3.length c3], .pointer (some ⟨w.heap.size, 0, none⟩), .pointer (some ⟨w.heap.size + 1, 0, none⟩), .slice (some ⟨z0, 0, none⟩) 0 0, .pointer (some ⟨w.heap.size, 0, none⟩), .slice (some b0) l0.length c0, .slice a0 l0.length e0, .slice (some ⟨z1, 0, none⟩) 0 0, .pointer (some ⟨w.heap.size, 1, none⟩), .slice (some b1) l1.length c1, .slice a1 l1.length e1, .slice (some ⟨z2, 0, none⟩) 0 0, .pointer (some ⟨w.heap.size, 2, none⟩), .slice (some b2) l2.length c2, .slice a2 l2.length e2, .slice (some ⟨z3, 0, none⟩) 0 0, .pointer (some ⟨w.heap.size, 3, none⟩), .slice (some b3) l3.length c3, .slice a3 l3.length e3, .agg #[.slice a0 l0.length e0, .slice a1 l1.length e1, .slice a2 l2.length e2, .slice a3 l3.length e3]], defers := [] } ((((W.setCell ⟨w.heap.size + 1, 0, none⟩ (.slice a0 l0.length e0)).setCell ⟨w.heap.size + 1, 1, none⟩ (.slice a1 l1.length e1)).setCell ⟨w.heap.size + 1, 2, none⟩ (.slice a2 l2.length e2)).setCell ⟨w.heap.size + 1, 3, none⟩ (.slice a3 l3.length e3)))
    (W : World) (hS : ownS w (.slice (some b0) l0.length c0) (.slice (some b1) l1.length c1) (.slice (some b2) l2.length c2) (.slice (some b3) l3.length c3) W) (z0 z2 z3 : Nat) :
    wpAnyH Try.prog .any ownOps Q (ownS w (.slice (some b0) l0.length c0) (.slice (some b1) l1.length c1) (.slice (some b2) l2.length c2) (.slice (some b3) l3.length c3)) 7 #[true, true, true, false, false, true, true, false, true, true, true, false, true, true, true, false, false, false] { tmps := #[.agg #[.slice (some b0) l0.length c0, .slice (some b1) l1.length c1, .slice (some b2) l2.length c2, .slice (some b3) l3.length c3], .pointer (some ⟨w.heap.size, 0, none⟩), .pointer (some ⟨w.heap.size + 1, 0, none⟩), .slice (some ⟨z0, 0, none⟩) 0 0, .pointer (some ⟨w.heap.size, 0, none⟩), .slice (some b0) l0.length c0, undef, undef, .pointer (some ⟨w.heap.size, 1, none⟩), .slice (some b1) l1.length c1, undef, .slice (some ⟨z2, 0, none⟩) 0 0, .pointer (some ⟨w.heap.size, 2, none⟩), .slice (some b2) l2.length c2, undef, .slice (some ⟨z3, 0, none⟩) 0 0, .pointer (some ⟨w.heap.size, 3, none⟩), .slice (some b3) l3.length c3, undef, undef], defers := [] } W := by
  refine wpAnyH_ready (rs := [3, 4]) (by kernel_rfl) (by simp) ?_
  refine AllReadyH.cons (o := ownOp3) rfl (fun K hK => ?_) ?_
  · refine step_freshP (by rfl) (Operand.tmp 3) (Operand.tmp 5) (by rfl) z0 b0 l0.length c0 l0 (by rfl) (by rfl) rfl (o0.below hS.1 (Nat.le_refl _)) n0 ?_
    intro a0 e0 W' hr hb
    have hS' := ownS_keep hS hb
    refine hK.out _ _ hS' (fun _ => ?_)
    exact ownp_nd1_23 n0 n1 n2 n3 o0 o1 o2 o3 hQ W' hS' z0 z2 z3  a0 e0 W'.heap.size (hr.mono (ownS_ge hS) (Nat.le_refl _)) (Nat.le_refl _) (Nat.le_trans (ownS_ge hS) hb.size)
  refine AllReadyH.cons (o := ownOp4) rfl (fun K hK => ?_) ?_
  · refine step_lit (by rfl) (by rfl) ?_
    intro z1 W' hb
    have hS' := ownS_keep hS hb
    refine hK.out _ _ hS' (fun _ => ?_)
    exact ownp_nd0_0123 n0 n1 n2 n3 o0 o1 o2 o3 hQ W' hS' z0 z1 z2 z3 
  exact AllReadyH.nil

set_option maxRecDepth 20000 in
set_option maxHeartbeats 4000000 in
theorem ownp_nd0_123 {b0 b1 b2 b3 : Addr} {c0 c1 c2 c3 : Nat} {l0 l1 l2 l3 : List (Int × Int)} {w : World} {Q : Exit → Act → World → Prop} (n0 : l0.length ≤ 1048576) (n1 : l1.length ≤ 1048576) (n2 : l2.length ≤ 1048576) (n3 : l3.length ≤ 1048576) (o0 : PRow w (some b0) l0) (o1 : PRow w (some b1) l1) (o2 : PRow w (some b2) l2) (o3 : PRow w (some b3) l3)
    (hQ : ∀ (W : World) (hS : ownS w (.slice (some b0) l0.length c0) (.slice (some b1) l1.length c1) (.slice (some b2) l2.length c2) (.slice (some b3) l3.length c3) W) (z0 z1 z2 z3 : Nat) (a0 : Option Addr) (e0 m1 : Nat) (t0 : RoomIn W (w.heap.size + 2) m1 a0 l0.length e0 l0) (g1 : m1 ≤ W.heap.size) (k1 : (w.heap.size + 2) ≤ m1) (a1 : Option Addr) (e1 m2 : Nat) (t1 : RoomIn W m1 m2 a1 l1.length e1 l1) (g2 : m2 ≤ W.heap.size) (k2 : m1 ≤ m2) (a2 : Option Addr) (e2 m3 : Nat) (t2 : RoomIn W m2 m3 a2 l2.length e2 l2) (g3 : m3 ≤ W.heap.size) (k3 : m2 ≤ m3) (a3 : Option Addr) (e3 m4 : Nat) (t3 : RoomIn W m3 m4 a3 l3.length e3 l3) (g4 : m4 ≤ W.heap.size) (k4 : m3 ≤ m4), Q .normal { tmps := #[.agg #[.slice (some b0) l0.length c0, .slice (some b1) l1.length c1, .slice (some b2) l2.length c2, .slice (some b3) l3.length c3], .pointer (some ⟨w.heap.size, 0, none⟩), .pointer (some ⟨w.heap.size + 1, 0, none⟩), .slice (some ⟨z0, 0, none⟩) 0 0, .pointer (some ⟨w.heap.size, 0, none⟩), .slice (some b0) l0.length c0, .slice a0 l0.length e0, .slice (some ⟨z1, 0, none⟩) 0 0, .pointer (some ⟨w.heap.size, 1, none⟩), .slice (some b1) l1.length c1, .slice a1 l1.length e1, .slice (some ⟨z2, 0, none⟩) 0 0, .pointer (some ⟨w.heap.size, 2, none⟩), .slice (some b2) l2.length c2, .slice a2 l2.length e2, .slice (some ⟨z3, 0, none⟩) 0 0, .pointer (some ⟨w.heap.size, 3, none⟩), .slice (some b3) l3.length c3, .slice a3 l3.length e3, .agg #[.slice a0 l0.length e0, .slice a1 l1.length e1, .slice a2 l2.length e2, .slice a3 l3.length e3]], defers := [] } ((((W.setCell ⟨w.heap.size + 1, 0, none⟩ (.slice a0 l0.length e0)).setCell ⟨w.heap.size + 1, 1, none⟩ (.slice a1 l1.length e1)).setCell ⟨w.heap.size + 1, 2, none⟩ (.slice a2 l2.length e2)).setCell ⟨w.heap.size + 1, 3, none⟩ (.slice a3 l3.length e3)))
    (W : World) (hS : ownS w (.slice (some b0) l0.length c0) (.slice (some b1) l1.length c1) (.slice (some b2) l2.length c2) (.slice (some b3) l3.length c3) W) (z1 z2 z3 : Nat) :
    wpAnyH Try.prog .any ownOps Q (ownS w (.slice (some b0) l0.length c0) (.slice (some b1) l1.length c1) (.slice (some b2) l2.length c2) (.slice (some b3) l3.length c3)) 7 #[false, true, true, false, true, true, true, false, true, true, true, false, true, true, true, false, false, false] { tmps := #[.agg #[.slice (some b0) l0.length c0, .slice (some b1) l1.length c1, .slice (some b2) l2.length c2, .slice (some b3) l3.length c3], .pointer (some ⟨w.heap.size, 0, none⟩), .pointer (some ⟨w.heap.size + 1, 0, none⟩), undef, .pointer (some ⟨w.heap.size, 0, none⟩), .slice (some b0) l0.length c0, undef, .slice (some ⟨z1, 0, none⟩) 0 0, .pointer (some ⟨w.heap.size, 1, none⟩), .slice (some b1) l1.length c1, undef, .slice (some ⟨z2, 0, none⟩) 0 0, .pointer (some ⟨w.heap.size, 2, none⟩), .slice (some b2) l2.length c2, undef, .slice (some ⟨z3, 0, none⟩) 0 0, .pointer (some ⟨w.heap.size, 3, none⟩), .slice (some b3) l3.length c3, undef, undef], defers := [] } W := by
  refine wpAnyH_ready (rs := [0]) (by kernel_rfl) (by simp) ?_
  refine AllReadyH.cons (o := ownOp0) rfl (fun K hK => ?_) ?_
  · refine step_lit (by rfl) (by rfl) ?_
    intro z0 W' hb
    have hS' := ownS_keep hS hb
    refine hK.out _ _ hS' (fun _ => ?_)
    exact ownp_nd0_0123 n0 n1 n2 n3 o0 o1 o2 o3 hQ W' hS' z0 z1 z2 z3 
  exact AllReadyH.nil

set_option maxRecDepth 20000 in
set_option maxHeartbeats 4000000 in
theorem ownp_nd0_01 {b0 b1 b2 b3 : Addr} {c0 c1 c2 c3 : Nat} {l0 l1 l2 l3 : List (Int × Int)} {w : World} {Q : Exit → Act → World → Prop} (n0 : l0.length ≤ 1048576) (n1 : l1.length ≤ 1048576) (n2 : l2.length ≤ 1048576) (n3 : l3.length ≤ 1048576) (o0 : PRow w (some b0) l0) (o1 : PRow w (some b1) l1) (o2 : PRow w (some b2) l2) (o3 : PRow w (some b3) l3)
    (hQ : ∀ (W : World) (hS : ownS w (.slice (some b0) l0.length c0) (.slice (some b1) l1.length c1) (.slice (some b2) l2.length c2) (.slice (some b3) l3.length c3) W) (z0 z1 z2 z3 : Nat) (a0 : Option Addr) (e0 m1 : Nat) (t0 : RoomIn W (w.heap.size + 2) m1 a0 l0.length e0 l0) (g1 : m1 ≤ W.heap.size) (k1 : (w.heap.size + 2) ≤ m1) (a1 : Option Addr) (e1 m2 : Nat) (t1 : RoomIn W m1 m2 a1 l1.length e1 l1) (g2 : m2 ≤ W.heap.size) (k2 : m1 ≤ m2) (a2 : Option Addr) (e2 m3 : Nat) (t2 : RoomIn W m2 m3 a2 l2.length e2 l2) (g3 : m3 ≤ W.heap.size) (k3 : m2 ≤ m3) (a3 : Option Addr) (e3 m4 : Nat) (t3 : RoomIn W m3 m4 a3 l3.length e3 l3) (g4 : m4 ≤ W.heap.size) (k4 : m3 ≤ m4), Q .normal { tmps := #[.agg #[.slice (some b0) l0.length c0, .slice (some b1) l1.length c1, .slice (some b2) l2.length c2, .slice (some b3) l3.length c3], .pointer (some ⟨w.heap.size, 0, none⟩), .pointer (some ⟨w.heap.size + 1, 0, none⟩), .slice (some ⟨z0, 0, none⟩) 0 0, .pointer (some ⟨w.heap.size, 0, none⟩), .slice (some b0) l0.length c0, .slice a0 l0.length e0, .slice (some ⟨z1, 0, none⟩) 0 0, .pointer (some ⟨w.heap.size, 1, none⟩), .slice (some b1) l1.length c1, .slice a1 l1.length e1, .slice (some ⟨z2, 0, none⟩) 0 0, .pointer (some ⟨w.heap.size, 2, none⟩), .slice (some b2) l2.length c2, .slice a2 l2.length e2, .slice (some ⟨z3, 0, none⟩) 0 0, .pointer (some ⟨w.heap.size, 3, none⟩), .slice (some b3) l3.length c3, .slice a3 l3.length e3, .agg #[.slice a0 l0.length e0, .slice a1 l1.length e1, .slice a2 l2.length e2, .slice a3 l3.length e3]], defers := [] } ((((W.setCell ⟨w.heap.size + 1, 0, none⟩ (.slice a0 l0.length e0)).setCell ⟨w.heap.size + 1, 1, none⟩ (.slice a1 l1.length e1)).setCell ⟨w.heap.size + 1, 2, none⟩ (.slice a2 l2.length e2)).setCell ⟨w.heap.size + 1, 3, none⟩ (.slice a3 l3.length e3)))
    (W : World) (hS : ownS w (.slice (some b0) l0.length c0) (.slice (some b1) l1.length c1) (.slice (some b2) l2.length c2) (.slice (some b3) l3.length c3) W) (z0 z1 : Nat) :
    wpAnyH Try.prog .any ownOps Q (ownS w (.slice (some b0) l0.length c0) (.slice (some b1) l1.length c1) (.slice (some b2) l2.length c2) (.slice (some b3) l3.length c3)) 8 #[true, true, true, false, true, true, true, false, false, true, true, false, false, true, true, false, false, false] { tmps := #[.agg #[.slice (some b0) l0.length c0, .slice (some b1) l1.length c1, .slice (some b2) l2.length c2, .slice (some b3) l3.length c3], .pointer (some ⟨w.heap.size, 0, none⟩), .pointer (some ⟨w.heap.size + 1, 0, none⟩), .slice (some ⟨z0, 0, none⟩) 0 0, .pointer (some ⟨w.heap.size, 0, none⟩), .slice (some b0) l0.length c0, undef, .slice (some ⟨z1, 0, none⟩) 0 0, .pointer (some ⟨w.heap.size, 1, none⟩), .slice (some b1) l1.length c1, undef, undef, .pointer (some ⟨w.heap.size, 2, none⟩), .slice (some b2) l2.length c2, undef, undef, .pointer (some ⟨w.heap.size, 3, none⟩), .slice (some b3) l3.length c3, undef, undef], defers := [] } W := by
  refine wpAnyH_ready (rs := [3, 8, 12]) (by kernel_rfl) (by simp) ?_
  refine AllReadyH.cons (o := ownOp3) rfl (fun K hK => ?_) ?_
  · refine step_freshP (by rfl) (Operand.tmp 3) (Operand.tmp 5) (by rfl) z0 b0 l0.length c0 l0 (by rfl) (by rfl) rfl (o0.below hS.1 (Nat.le_refl _)) n0 ?_
    intro a0 e0 W' hr hb
    have hS' := ownS_keep hS hb
    refine hK.out _ _ hS' (fun _ => ?_)
    exact ownp_nd1_1 n0 n1 n2 n3 o0 o1 o2 o3 hQ W' hS' z0 z1  a0 e0 W'.heap.size (hr.mono (ownS_ge hS) (Nat.le_refl _)) (Nat.le_refl _) (Nat.le_trans (ownS_ge hS) hb.size)
  refine AllReadyH.cons (o := ownOp8) rfl (fun K hK => ?_) ?_
  · refine step_lit (by rfl) (by rfl) ?_
    intro z2 W' hb
    have hS' := ownS_keep hS hb
    refine hK.out _ _ hS' (fun _ => ?_)
    exact ownp_nd0_012 n0 n1 n2 n3 o0 o1 o2 o3 hQ W' hS' z0 z1 z2 
  refine AllReadyH.cons (o := ownOp12) rfl (fun K hK => ?_) ?_
  · refine step_lit (by rfl) (by rfl) ?_
    intro z3 W' hb
    have hS' := ownS_keep hS hb
    refine hK.out _ _ hS' (fun _ => ?_)
    exact ownp_nd0_013 n0 n1 n2 n3 o0 o1 o2 o3 hQ W' hS' z0 z1 z3 
  exact AllReadyH.nil

set_option maxRecDepth 20000 in
set_option maxHeartbeats 4000000 in
theorem ownp_nd0_02 {b0 b1 b2 b3 : Addr} {c0 c1 c2 c3 : Nat} {l0 l1 l2 l3 : List (Int × Int)} {w : World} {Q : Exit → Act → World → Prop} (n0 : l0.length ≤ 1048576) (n1 : l1.length ≤ 1048576) (n2 : l2.length ≤ 1048576) (n3 : l3.length ≤ 1048576) (o0 : PRow w (some b0) l0) (o1 : PRow w (some b1) l1) (o2 : PRow w (some b2) l2) (o3 : PRow w (some b3) l3)
    (hQ : ∀ (W : World) (hS : ownS w (.slice (some b0) l0.length c0) (.slice (some b1) l1.length c1) (.slice (some b2) l2.length c2) (.slice (some b3) l3.length c3) W) (z0 z1 z2 z3 : Nat) (a0 : Option Addr) (e0 m1 : Nat) (t0 : RoomIn W (w.heap.size + 2) m1 a0 l0.length e0 l0) (g1 : m1 ≤ W.heap.size) (k1 : (w.heap.size + 2) ≤ m1) (a1 : Option Addr) (e1 m2 : Nat) (t1 : RoomIn W m1 m2 a1 l1.length e1 l1) (g2 : m2 ≤ W.heap.size) (k2 : m1 ≤ m2) (a2 : Option Addr) (e2 m3 : Nat) (t2 : RoomIn W m2 m3 a2 l2.length e2 l2) (g3 : m3 ≤ W.heap.size) (k3 : m2 ≤ m3) (a3 : Option Addr) (e3 m4 : Nat) (t3 : RoomIn W m3 m4 a3 l3.length e3 l3) (g4 : m4 ≤ W.heap.size) (k4 : m3 ≤ m4), Q .normal { tmps := #[.agg #[.slice (some b0) l0.length c0, .slice (some b1) l1.length c1, .slice (some b2) l2.length c2, .slice (some b3) l3.length c3], .pointer (some ⟨w.heap.size, 0, none⟩), .pointer (some ⟨w.heap.size + 1, 0, none⟩), .slice (some ⟨z0, 0, none⟩) 0 0, .pointer (some ⟨w.heap.size, 0, none⟩), .slice (some b0) l0.length c0, .slice a0 l0.length e0, .slice (some ⟨z1, 0, none⟩) 0 0, .pointer (some ⟨w.heap.size, 1, none⟩), .slice (some b1) l1.length c1, .slice a1 l1.length e1, .slice (some ⟨z2, 0, none⟩) 0 0, .pointer (some ⟨w.heap.size, 2, none⟩), .slice (some b2) l2.length c2, .slice a2 l2.length e2, .slice (some ⟨z3, 0, none⟩) 0 0, .pointer (some ⟨w.heap.size, 3, none⟩), .slice (some b3) l3.length c3, .slice a3 l3.length e3, .agg #[.slice a0 l0.length e0, .slice a1 l1.length e1, .slice a2 l2.length e2, .slice a3 l3.length e3]], defers := [] } ((((W.setCell ⟨w.heap.size + 1, 0, none⟩ (.slice a0 l0.length e0)).setCell ⟨w.heap.size + 1, 1, none⟩ (.slice a1 l1.length e1)).setCell ⟨w.heap.size + 1, 2, none⟩ (.slice a2 l2.length e2)).setCell ⟨w.heap.size + 1, 3, none⟩ (.slice a3 l3.length e3)))
    (W : World) (hS : ownS w (.slice (some b0) l0.length c0) (.slice (some b1) l1.length c1) (.slice (some b2) l2.length c2) (.slice (some b3) l3.length c3) W) (z0 z2 : Nat) :
    wpAnyH Try.prog .any ownOps Q (ownS w (.slice (some b0) l0.length c0) (.slice (some b1) l1.length c1) (.slice (some b2) l2.length c2) (.slice (some b3) l3.length c3)) 8 #[true, true, true, false, false, true, true, false, true, true, true, false, false, true, true, false, false, false] { tmps := #[.agg #[.slice (some b0) l0.length c0, .slice (some b1) l1.length c1, .slice (some b2) l2.length c2, .slice (some b3) l3.length c3], .pointer (some ⟨w.heap.size, 0, none⟩), .pointer (some ⟨w.heap.size + 1, 0, none⟩), .slice (some ⟨z0, 0, none⟩) 0 0, .pointer (some ⟨w.heap.size, 0, none⟩), .slice (some b0) l0.length c0, undef, undef, .pointer (some ⟨w.heap.size, 1, none⟩), .slice (some b1) l1.length c1, undef, .slice (some ⟨z2, 0, none⟩) 0 0, .pointer (some ⟨w.heap.size, 2, none⟩), .slice (some b2) l2.length c2, undef, undef, .pointer (some ⟨w.heap.size, 3, none⟩), .slice (some b3) l3.length c3, undef, undef], defers := [] } W := by
  refine wpAnyH_ready (rs := [3, 4, 12]) (by kernel_rfl) (by simp) ?_
  refine AllReadyH.cons (o := ownOp3) rfl (fun K hK => ?_) ?_
  · refine step_freshP (by rfl) (Operand.tmp 3) (Operand.tmp 5) (by rfl) z0 b0 l0.length c0 l0 (by rfl) (by rfl) rfl (o0.below hS.1 (Nat.le_refl _)) n0 ?_
    intro a0 e0 W' hr hb
    have hS' := ownS_keep hS hb
    refine hK.out _ _ hS' (fun _ => ?_)
    exact ownp_nd1_2 n0 n1 n2 n3 o0 o1 o2 o3 hQ W' hS' z0 z2  a0 e0 W'.heap.size (hr.mono (ownS_ge hS) (Nat.le_refl _)) (Nat.le_refl _) (Nat.le_trans (ownS_ge hS) hb.size)
  refine AllReadyH.cons (o := ownOp4) rfl (fun K hK => ?_) ?_
  · refine step_lit (by rfl) (by rfl) ?_
    intro z1 W' hb
    have hS' := ownS_keep hS hb
    refine hK.out _ _ hS' (fun _ => ?_)
    exact ownp_nd0_012 n0 n1 n2 n3 o0 o1 o2 o3 hQ W' hS' z0 z1 z2 
  refine AllReadyH.cons (o := ownOp12) rfl (fun K hK => ?_) ?_
  · refine step_lit (by rfl) (by rfl) ?_
    intro z3 W' hb
    have hS' := ownS_keep hS hb
    refine hK.out _ _ hS' (fun _ => ?_)
    exact ownp_nd0_023 n0 n1 n2 n3 o0 o1 o2 o3 hQ W' hS' z0 z2 z3 
  exact AllReadyH.nil

set_option maxRecDepth 20000 in
set_option maxHeartbeats 4000000 in
theorem ownp_nd0_03 {b0 b1 b2 b3 : Addr} {c0 c1 c2 c3 : Nat} {l0 l1 l2 l3 : List (Int × Int)} {w : World} {Q : Exit → Act → World → Prop} (n0 : l0.length ≤ 1048576) (n1 : l1.length ≤ 1048576) (n2 : l2.length ≤ 1048576) (n3 : l3.length ≤ 1048576) (o0 : PRow w (some b0) l0) (o1 : PRow w (some b1) l1) (o2 : PRow w (some b2) l2) (o3 : PRow w (some b3) l3)
    (hQ : ∀ (W : World) (hS : ownS w (.slice (some b0) l0.length c0) (.slice (some b1) l1.length c1) (.slice (some b2) l2.length c2) (.slice (some b3) l3.length c3) W) (z0 z1 z2 z3 : Nat) (a0 : Option Addr) (e0 m1 : Nat) (t0 : RoomIn W (w.heap.size + 2) m1 a0 l0.length e0 l0) (g1 : m1 ≤ W.heap.size) (k1 : (w.heap.size + 2) ≤ m1) (a1 : Option Addr) (e1 m2 : Nat) (t1 : RoomIn W m1 m2 a1 l1.length e1 l1) (g2 : m2 ≤ W.heap.size) (k2 : m1 ≤ m2) (a2 : Option Addr) (e2 m3 : Nat) (t2 : RoomIn W m2 m3 a2 l2.length e2 l2) (g3 : m3 ≤ W.heap.size) (k3 : m2 ≤ m3) (a3 : Option Addr) (e3 m4 : Nat) (t3 : RoomIn W m3 m4 a3 l3.length e3 l3) (g4 : m4 ≤ W.heap.size) (k4 : m3 ≤ m4), Q .normal { tmps := #[.agg #[.slice (some b0) l0.length c0, .slice (some b1) l1.length c1, .slice (some b2) l2.length c2, .slice (some b3) l3.length c3], .pointer (some ⟨w.heap.size, 0, none⟩), .pointer (some ⟨w.heap.size + 1, 0, none⟩), .slice (some ⟨z0, 0, none⟩) 0 0, .pointer (some ⟨w.heap.size, 0, none⟩), .slice (some b0) l0.length c0, .slice a0 l0.length e0, .slice (some ⟨z1, 0, none⟩) 0 0, .pointer (some ⟨w.heap.size, 1, none⟩), .slice (some b1) l1.length c1, .slice a1 l1.length e1, .slice (some ⟨z2, 0, none⟩) 0 0, .pointer (some ⟨w.heap.size, 2, none⟩), .slice (some b2) l2.length c2, .slice a2 l2.length e2, .slice (some ⟨z3, 0, none⟩) 0 0, .pointer (some ⟨w.heap.size, 3, none⟩), .slice (some b3) l3.length c3, .slice a3 l3.length e3, .agg #[.slice a0 l0.length e0, .slice a1 l1.length e1, .slice a2 l2.length e2, .slice a3 l3.length e3]], defers := [] } ((((W.setCell ⟨w.heap.size + 1, 0, none⟩ (.slice a0 l0.length e0)).setCell ⟨w.heap.size + 1, 1, none⟩ (.slice a1 l1.length e1)).setCell ⟨w.heap.size + 1, 2, none⟩ (.slice a2 l2.length e2)).setCell ⟨w.heap.size + 1, 3, none⟩ (.slice a3 l3.length e3)))
    (W : World) (hS : ownS w (.slice (some b0) l0.length c0) (.slice (some b1) l1.length c1) (.slice (some b2) l2.length c2) (.slice (some b3) l3.length c3) W) (z0 z3 : Nat) :
    wpAnyH Try.prog .any ownOps Q (ownS w (.slice (some b0) l0.length c0) (.slice (some b1) l1.length c1) (.slice (some b2) l2.length c2) (.slice (some b3) l3.length c3)) 8 #[true, true, true, false, false, true, true, false, false, true, true, false, true, true, true, false, false, false] { tmps := #[.agg #[.slice (some b0) l0.length c0, .slice (some b1) l1.length c1, .slice (some b2) l2.length c2, .slice (some b3) l3.length c3], .pointer (some ⟨w.heap.size, 0, none⟩), .pointer (some ⟨w.heap.size + 1, 0, none⟩), .slice (some ⟨z0, 0, none⟩) 0 0, .pointer (some ⟨w.heap.size, 0, none⟩), .slice (some b0) l0.length c0, undef, undef, .pointer (some ⟨w.heap.size, 1, none⟩), .slice (some b1) l1.length c1, undef, undef, .pointer (some ⟨w.heap.size, 2, none⟩), .slice (some b2) l2.length c2, undef, .slice (some ⟨z3, 0, none⟩) 0 0, .pointer (some ⟨w.heap.size, 3, none⟩), .slice (some b3) l3.length c3, undef, undef], defers := [] } W := by
  refine wpAnyH_ready (rs := [3, 4, 8]) (by kernel_rfl) (by simp) ?_
  refine AllReadyH.cons (o := ownOp3) rfl (fun K hK => ?_) ?_
  · refine step_freshP (by rfl) (Operand.tmp 3) (Operand.tmp 5) (by rfl) z0 b0 l0.length c0 l0 (by rfl) (by rfl) rfl (o0.below hS.1 (Nat.le_refl _)) n0 ?_
    intro a0 e0 W' hr hb
    have hS' := ownS_keep hS hb
    refine hK.out _ _ hS' (fun _ => ?_)
    exact ownp_nd1_3 n0 n1 n2 n3 o0 o1 o2 o3 hQ W' hS' z0 z3  a0 e0 W'.heap.size (hr.mono (ownS_ge hS) (Nat.le_refl _)) (Nat.le_refl _) (Nat.le_trans (ownS_ge hS) hb.size)
  refine AllReadyH.cons (o := ownOp4) rfl (fun K hK => ?_) ?_
  · refine step_lit (by rfl) (by rfl) ?_
    intro z1 W' hb
    have hS' := ownS_keep hS hb
    refine hK.out _ _ hS' (fun _ => ?_)
    exact ownp_nd0_013 n0 n1 n2 n3 o0 o1 o2 o3 hQ W' hS' z0 z1 z3 
  refine AllReadyH.cons (o := ownOp8) rfl (fun K hK => ?_) ?_
  · refine step_lit (by rfl) (by rfl) ?_
    intro z2 W' hb
    have hS' := ownS_keep hS hb
    refine hK.out _ _ hS' (fun _ => ?_)
    exact ownp_nd0_023 n0 n1 n2 n3 o0 o1 o2 o3 hQ W' hS' z0 z2 z3 
  exact AllReadyH.nil

set_option maxRecDepth 20000 in
set_option maxHeartbeats 4000000 in
theorem ownp_nd0_12 {b0 b1 b2 b3 : Addr} {c0 c1 c2 c3 : Nat} {l0 l1 l2 l3 : List (Int × Int)} {w : World} {Q : Exit → Act → World → Prop} (n0 : l0.length ≤ 1048576) (n1 : l1.length ≤ 1048576) (n2 : l2.length ≤ 1048576) (n3 : l3.length ≤ 1048576) (o0 : PRow w (some b0) l0) (o1 : PRow w (some b1) l1) (o2 : PRow w (some b2) l2) (o3 : PRow w (some b3) l3)
    (hQ : ∀ (W : World) (hS : ownS w (.slice (some b0) l0.length c0) (.slice (some b1) l1.length c1) (.slice (some b2) l2.length c2) (.slice (some b3) l3.length c3) W) (z0 z1 z2 z3 : Nat) (a0 : Option Addr) (e0 m1 : Nat) (t0 : RoomIn W (w.heap.size + 2) m1 a0 l0.length e0 l0) (g1 : m1 ≤ W.heap.size) (k1 : (w.heap.size + 2) ≤ m1) (a1 : Option Addr) (e1 m2 : Nat) (t1 : RoomIn W m1 m2 a1 l1.length e1 l1) (g2 : m2 ≤ W.heap.size) (k2 : m1 ≤ m2) (a2 : Option Addr) (e2 m3 : Nat) (t2 : RoomIn W m2 m3 a2 l2.length e2 l2) (g3 : m3 ≤ W.heap.size) (k3 : m2 ≤ m3) (a3 : Option Addr) (e3 m4 : Nat) (t3 : RoomIn W m3 m4 a3 l3.length e3 l3) (g4 : m4 ≤ W.heap.size) (k4 : m3 ≤ m4), Q .normal { tmps := #[.agg #[.slice (some b0) l0.length c0, .slice (some b1) l1.length c1, .slice (some b2) l2.length c2, .slice (some b3) l3.length c3], .pointer (some ⟨w.heap.size, 0, none⟩), .pointer (some ⟨w.heap.size + 1, 0, none⟩), .slice (some ⟨z0, 0, none⟩) 0 0, .pointer (some ⟨w.heap.size, 0, none⟩), .slice (some b0) l0.length c0, .slice a0 l0.length e0, .slice (some ⟨z1, 0, none⟩) 0 0, .pointer (some ⟨w.heap.size, 1, none⟩), .slice (some b1) l1.length c1, .slice a1 l1.length e1, .slice (some ⟨z2, 0, none⟩) 0 0, .pointer (some ⟨w.heap.size, 2, none⟩), .slice (some b2) l2.length c2, .slice a2 l2.length e2, .slice (some ⟨z3, 0, none⟩) 0 0, .pointer (some ⟨w.heap.size, 3, none⟩), .slice (some b3) l3.length c3, .slice a3 l3.length e3, .agg #[.slice a0 l0.length e0, .slice a1 l1.length e1, .slice a2 l2.length e2, .slice a3 l3.length e3]], defers := [] } ((((W.setCell ⟨w.heap.size + 1, 0, none⟩ (.slice a0 l0.length e0)).setCell ⟨w.heap.size + 1, 1, none⟩ (.slice a1 l1.length e1)).setCell ⟨w.heap.size + 1, 2, none⟩ (.slice a2 l2.length e2)).setCell ⟨w.heap.size + 1, 3, none⟩ (.slice a3 l3.length e3)))
    (W : World) (hS : ownS w (.slice (some b0) l0.length c0) (.slice (some b1) l1.length c1) (.slice (some b2) l2.length c2) (.slice (some b3) l3.length c3) W) (z1 z2 : Nat) :
    wpAnyH Try.prog .any ownOps Q (ownS w (.slice (some b0) l0.length c0) (.slice (some b1) l1.length c1) (.slice (some b2) l2.length c2) (.slice (some b3) l3.length c3)) 8 #[false, true, true, false, true, true, true, false, true, true, true, false, false, true, true, false, false, false] { tmps := #[.agg #[.slice (some b0) l0.length c0, .slice (some b1) l1.length c1, .slice (some b2) l2.length c2, .slice (some b3) l3.length c3], .pointer (some ⟨w.heap.size, 0, none⟩), .pointer (some ⟨w.heap.size + 1, 0, none⟩), undef, .pointer (some ⟨w.heap.size, 0, none⟩), .slice (some b0) l0.length c0, undef, .slice (some ⟨z1, 0, none⟩) 0 0, .pointer (some ⟨w.heap.size, 1, none⟩), .slice (some b1) l1.length c1, undef, .slice (some ⟨z2, 0, none⟩) 0 0, .pointer (some ⟨w.heap.size, 2, none⟩), .slice (some b2) l2.length c2, undef, undef, .pointer (some ⟨w.heap.size, 3, none⟩), .slice (some b3) l3.length c3, undef, undef], defers := [] } W := by
  refine wpAnyH_ready (rs := [0, 12]) (by kernel_rfl) (by simp) ?_
  refine AllReadyH.cons (o := ownOp0) rfl (fun K hK => ?_) ?_
  · refine step_lit (by rfl) (by rfl) ?_
    intro z0 W' hb
    have hS' := ownS_keep hS hb
    refine hK.out _ _ hS' (fun _ => ?_)
    exact ownp_nd0_012 n0 n1 n2 n3 o0 o1 o2 o3 hQ W' hS' z0 z1 z2 
  refine AllReadyH.cons (o := ownOp12) rfl (fun K hK => ?_) ?_
  · refine step_lit (by rfl) (by rfl) ?_
    intro z3 W' hb
    have hS' := ownS_keep hS hb
    refine hK.out _ _ hS' (fun _ => ?_)
    exact ownp_nd0_123 n0 n1 n2 n3 o0 o1 o2 o3 hQ W' hS' z1 z2 z3 
  exact AllReadyH.nil

set_option maxRecDepth 20000 in
set_option maxHeartbeats 4000000 in
theorem ownp_nd0_13 {b0 b1 b2 b3 : Addr} {c0 c1 c2 c3 : Nat} {l0 l1 l2 l3 : List (Int × Int)} {w : World} {Q : Exit → Act → World → Prop} (n0 : l0.length ≤ 1048576) (n1 : l1.length ≤ 1048576) (n2 : l2.length ≤ 1048576) (n3 : l3.length ≤ 1048576) (o0 : PRow w (some b0) l0) (o1 : PRow w (some b1) l1) (o2 : PRow w (some b2) l2) (o3 : PRow w (some b3) l3)
    (hQ : ∀ (W : World) (hS : ownS w (.slice (some b0) l0.length c0) (.slice (some b1) l1.length c1) (.slice (some b2) l2.length c2) (.slice (some b3) l3.length c3) W) (z0 z1 z2 z3 : Nat) (a0 : Option Addr) (e0 m1 : Nat) (t0 : RoomIn W (w.heap.size + 2) m1 a0 l0.length e0 l0) (g1 : m1 ≤ W.heap.size) (k1 : (w.heap.size + 2) ≤ m1) (a1 : Option Addr) (e1 m2 : Nat) (t1 : RoomIn W m1 m2 a1 l1.length e1 l1) (g2 : m2 ≤ W.heap.size) (k2 : m1 ≤ m2) (a2 : Option Addr) (e2 m3 : Nat) (t2 : RoomIn W m2 m3 a2 l2.length e2 l2) (g3 : m3 ≤ W.heap.size) (k3 : m2 ≤ m3) (a3 : Option Addr) (e3 m4 : Nat) (t3 : RoomIn W m3 m4 a3 l3.length e3 l3) (g4 : m4 ≤ W.heap.size) (k4 : m3 ≤ m4), Q .normal { tmps := #[.agg #[.slice (some b0) l0.length c0, .slice (some b1) l1.length c1, .slice (some b2) l2.length c2, .slice (some b3) l3.length c3], .pointer (some ⟨w.heap.size, 0, none⟩), .pointer (some ⟨w.heap.size + 1, 0, none⟩), .slice (some ⟨z0, 0, none⟩) 0 0, .pointer (some ⟨w.heap.size, 0, none⟩), .slice (some b0) l0.length c0, .slice a0 l0.length e0, .slice (some ⟨z1, 0, none⟩) 0 0, .pointer (some ⟨w.heap.size, 1, none⟩), .slice (some b1) l1.length c1, .slice a1 l1.length e1, .slice (some ⟨z2, 0, none⟩) 0 0, .pointer (some ⟨w.heap.size, 2, none⟩), .slice (some b2) l2.length c2, .slice a2 l2.length e2, .slice (some ⟨z3, 0, none⟩) 0 0, .pointer (some ⟨w.heap.size, 3, none⟩), .slice (some b3) l3.length c3, .slice a3 l3.length e3, .agg #[.slice a0 l0.length e0, .slice a1 l1.length e1, .slice a2 l2.length e2, .slice a3 l3.length e3]], defers := [] } ((((W.setCell ⟨w.heap.size + 1, 0, none⟩ (.slice a0 l0.length e0)).setCell ⟨w.heap.size + 1, 1, none⟩ (.slice a1 l1.length e1)).setCell ⟨w.heap.size + 1, 2, none⟩ (.slice a2 l2.length e2)).setCell ⟨w.heap.size + 1, 3, none⟩ (.slice a3 l3.length e3)))
    (W : World) (hS : ownS w (.slice (some b0) l0.length c0) (.slice (some b1) l1.length c1) (.slice (some b2) l2.length c2) (.slice (some b3) l3.length c3) W) (z1 z3 : Nat) :
    wpAnyH Try.prog .any ownOps Q (ownS w (.slice (some b0) l0.length c0) (.slice (some b1) l1.length c1) (.slice (some b2) l2.length c2) (.slice (some b3) l3.length c3)) 8 #[false, true, true, false, true, true, true, false, false, true, true, false, true, true, true, false, false, false] { tmps := #[.agg #[.slice (some b0) l0.length c0, .slice (some b1) l1.length c1, .slice (some b2) l2.length c2, .slice (some b3) l3.length c3], .pointer (some ⟨w.heap.size, 0, none⟩), .pointer (some ⟨w.heap.size + 1, 0, none⟩), undef, .pointer (some ⟨w.heap.size, 0, none⟩), .slice (some b0) l0.length c0, undef, .slice (some ⟨z1, 0, none⟩) 0 0, .pointer (some ⟨w.heap.size, 1, none⟩), .slice (some b1) l1.length c1, undef, undef, .pointer (some ⟨w.heap.size, 2, none⟩), .slice (some b2) l2.length c2, undef, .slice (some ⟨z3, 0, none⟩) 0 0, .pointer (some ⟨w.heap.size, 3, none⟩), .slice (some b3) l3.length c3, undef, undef], defers := [] } W := by
  refine wpAnyH_ready (rs := [0, 8]) (by kernel_rfl) (by simp) ?_
  refine AllReadyH.cons (o := ownOp0) rfl (fun K hK => ?_) ?_
  · refine step_lit (by rfl) (by rfl) ?_
    intro z0 W' hb
    have hS' := ownS_keep hS hb
    refine hK.out _ _ hS' (fun _ => ?_)
    exact ownp_nd0_013 n0 n1 n2 n3 o0 o1 o2 o3 hQ W' hS' z0 z1 z3 
  refine AllReadyH.cons (o := ownOp8) rfl (fun K hK => ?_) ?_
  · refine step_lit (by rfl) (by rfl) ?_
    intro z2 W' hb
    have hS' := ownS_keep hS hb
    refine hK.out _ _ hS' (fun _ => ?_)
    exact ownp_nd0_123 n0 n1 n2 n3 o0 o1 o2 o3 hQ W' hS' z1 z2 z3 
  exact AllReadyH.nil

set_option maxRecDepth 20000 in
set_option maxHeartbeats 4000000 in
theorem ownp_nd0_23 {b0 b1 b2 b3 : Addr} {c0 c1 c2 c3 : Nat} {l0 l1 l2 l3 : List (Int × Int)} {w : World} {Q : Exit → Act → World → Prop} (n0 : l0.length ≤ 1048576) (n1 : l1.length ≤ 1048576) (n2 : l2.length ≤ 1048576) (n3 : l3.length ≤ 1048576) (o0 : PRow w (some b0) l0) (o1 : PRow w (some b1) l1) (o2 : PRow w (some b2) l2) (o3 : PRow w (some b3) l3)
    (hQ : ∀ (W : World) (hS : ownS w (.slice (some b0) l0.length c0) (.slice (some b1) l1.length c1) (.slice (some b2) l2.length c2) (.slice (some b3) l3.length c3) W) (z0 z1 z2 z3 : Nat) (a0 : Option Addr) (e0 m1 : Nat) (t0 : RoomIn W (w.heap.size + 2) m1 a0 l0.length e0 l0) (g1 : m1 ≤ W.heap.size) (k1 : (w.heap.size + 2) ≤ m1) (a1 : Option Addr) (e1 m2 : Nat) (t1 : RoomIn W m1 m2 a1 l1.length e1 l1) (g2 : m2 ≤ W.heap.size) (k2 : m1 ≤ m2) (a2 : Option Addr) (e2 m3 : Nat) (t2 : RoomIn W m2 m3 a2 l2.length e2 l2) (g3 : m3 ≤ W.heap.size) (k3 : m2 ≤ m3) (a3 : Option Addr) (e3 m4 : Nat) (t3 : RoomIn W m3 m4 a3 l3.length e3 l3) (g4 : m4 ≤ W.heap.size) (k4 : m3 ≤ m4), Q .normal { tmps := #[.agg #[.slice (some b0) l0.length c0, .slice (some b1) l1.length c1, .slice (some b2) l2.length c2, .slice (some b3) l3.length c3], .pointer (some ⟨w.heap.size, 0, none⟩), .pointer (some ⟨w.heap.size + 1, 0, none⟩), .slice (some ⟨z0, 0, none⟩) 0 0, .pointer (some ⟨w.heap.size, 0, none⟩), .slice (some b0) l0.length c0, .slice a0 l0.length e0, .slice (some ⟨z1, 0, none⟩) 0 0, .pointer (some ⟨w.heap.size, 1, none⟩), .slice (some b1) l1.length c1, .slice a1 l1.length e1, .slice (some ⟨z2, 0, none⟩) 0 0, .pointer (some ⟨w.heap.size, 2, none⟩), .slice (some b2) l2.length c2, .slice a2 l2.length e2, .slice (some ⟨z3, 0, none⟩) 0 0, .pointer (some ⟨w.heap.size, 3, none⟩), .slice (some b3) l3.length c3, .slice a3 l3.length e3, .agg #[.slice a0 l0.length e0, .slice a1 l1.length e1, .slice a2 l2.length e2, .slice a3 l3.length e3]], defers := [] } ((((W.setCell ⟨w.heap.size + 1, 0, none⟩ (.slice a0 l0.length e0)).setCell ⟨w.heap.size + 1, 1, none⟩ (.slice a1 l1.length e1)).setCell ⟨w.heap.size + 1, 2, none⟩ (.slice a2 l2.length e2)).setCell ⟨w.heap.size + 1, 3, none⟩ (.slice a3 l3.length e3)))
    (W : World) (hS : ownS w (.slice (some b0) l0.length c0) (.slice (some b1) l1.length c1) (.slice (some b2) l2.length c2) (.slice (some b3) l3.length c3) W) (z2 z3 : Nat) :
    wpAnyH Try.prog .any ownOps Q (ownS w (.slice (some b0) l0.length c0) (.slice (some b1) l1.length c1) (.slice (some b2) l2.length c2) (.slice (some b3) l3.length c3)) 8 #[false, true, true, false, false, true, true, false, true, true, true, false, true, true, true, false, false, false] { tmps := #[.agg #[.slice (some b0) l0.length c0, .slice (some b1) l1.length c1, .slice (some b2) l2.length c2, .slice (some b3) l3.length c3], .pointer (some ⟨w.heap.size, 0, none⟩), .pointer (some ⟨w.heap.size + 1, 0, none⟩), undef, .pointer (some ⟨w.heap.size, 0, none⟩), .slice (some b0) l0.length c0, undef, undef, .pointer (some ⟨w.heap.size, 1, none⟩), .slice (some b1) l1.length c1, undef, .slice (some ⟨z2, 0, none⟩) 0 0, .pointer (some ⟨w.heap.size, 2, none⟩), .slice (some b2) l2.length c2, undef, .slice (some ⟨z3, 0, none⟩) 0 0, .pointer (some ⟨w.heap.size, 3, none⟩), .slice (some b3) l3.length c3, undef, undef], defers := [] } W := by
  refine wpAnyH_ready (rs := [0, 4]) (by kernel_rfl) (by simp) ?_
  refine AllReadyH.cons (o := ownOp0) rfl (fun K hK => ?_) ?_
  · refine step_lit (by rfl) (by rfl) ?_
    intro z0 W' hb
    have hS' := ownS_keep hS hb
    refine hK.out _ _ hS' (fun _ => ?_)
    exact ownp_nd0_023 n0 n1 n2 n3 o0 o1 o2 o3 hQ W' hS' z0 z2 z3 
  refine AllReadyH.cons (o := ownOp4) rfl (fun K hK => ?_) ?_
  · refine step_lit (by rfl) (by rfl) ?_
    intro z1 W' hb
    have hS' := ownS_keep hS hb
    refine hK.out _ _ hS' (fun _ => ?_)
    exact ownp_nd0_123 n0 n1 n2 n3 o0 o1 o2 o3 hQ W' hS' z1 z2 z3 
  exact AllReadyH.nil

set_option maxRecDepth 20000 in
set_option maxHeartbeats 4000000 in
theorem ownp_nd0_0 {b0 b1 b2 b3 : Addr} {c0 c1 c2 c3 : Nat} {l0 l1 l2 l3 : List (Int × Int)} {w : World} {Q : Exit → Act → World → Prop} (n0 : l0.length ≤ 1048576) (n1 : l1.length ≤ 1048576) (n2 : l2.length ≤ 1048576) (n3 : l3.length ≤ 1048576) (o0 : PRow w (some b0) l0) (o1 : PRow w (some b1) l1) (o2 : PRow w (some b2) l2) (o3 : PRow w (some b3) l3)
    (hQ : ∀ (W : World) (hS : ownS w (.slice (some b0) l0.length c0) (.slice (some b1) l1.length c1) (.slice (some b2) l2.length c2) (.slice (some b3) l3.length c3) W) (z0 z1 z2 z3 : Nat) (a0 : Option Addr) (e0 m1 : Nat) (t0 : RoomIn W (w.heap.size + 2) m1 a0 l0.length e0 l0) (g1 : m1 ≤ W.heap.size) (k1 : (w.heap.size + 2) ≤ m1) (a1 : Option Addr) (e1 m2 : Nat) (t1 : RoomIn W m1 m2 a1 l1.length e1 l1) (g2 : m2 ≤ W.heap.size) (k2 : m1 ≤ m2) (a2 : Option Addr) (e2 m3 : Nat) (t2 : RoomIn W m2 m3 a2 l2.length e2 l2) (g3 : m3 ≤ W.heap.size) (k3 : m2 ≤ m3) (a3 : Option Addr) (e3 m4 : Nat) (t3 : RoomIn W m3 m4 a3 l3.length e3 l3) (g4 : m4 ≤ W.heap.size) (k4 : m3 ≤ m4), Q .normal { tmps := #[.agg #[.slice (some b0) l0.length c0, .slice (some b1) l1.length c1, .slice (some b2) l2.length c2, .slice (some b3) l3.length c3], .pointer (some ⟨w.heap.size, 0, none⟩), .pointer (some ⟨w.heap.size + 1, 0, none⟩), .slice (some ⟨z0, 0, none⟩) 0 0, .pointer (some ⟨w.heap.size, 0, none⟩), .slice (some b0) l0.length c0, .slice a0 l0.length e0, .slice (some ⟨z1, 0, none⟩) 0 0, .pointer (some ⟨w.heap.size, 1, none⟩), .slice (some b1) l1.length c1, .slice a1 l1.length e1, .slice (some ⟨z2, 0, none⟩) 0 0, .pointer (some ⟨w.heap.size, 2, none⟩), .slice (some b2) l2.length c2, .slice a2 l2.length e2, .slice (some ⟨z3, 0, none⟩) 0 0, .pointer (some ⟨w.heap.size, 3, none⟩), .slice (some b3) l3.length c3, .slice a3 l3.length e3, .agg #[.slice a0 l0.length e0, .slice a1 l1.length e1, .slice a2 l2.length e2, .slice a3 l3.length e3]], defers := [] } ((((W.setCell ⟨w.heap.size + 1, 0, none⟩ (.slice a0 l0.length e0)).setCell ⟨w.heap.size + 1, 1, none⟩ (.slice a1 l1.length e1)).setCell ⟨w.heap.size + 1, 2, none⟩ (.slice a2 l2.length e2)).setCell ⟨w.heap.size + 1, 3, none⟩ (.slice a3 l3.length e3)))
    (W : World) (hS : ownS w (.slice (some b0) l0.length c0) (.slice (some b1) l1.length c1) (.slice (some b2) l2.length c2) (.slice (some b3) l3.length c3) W) (z0 : Nat) :
    wpAnyH Try.prog .any ownOps Q (ownS w (.slice (some b0) l0.length c0) (.slice (some b1) l1.length c1) (.slice (some b2) l2.length c2) (.slice (some b3) l3.length c3)) 9 #[true, true, true, false, false, true, true, false, false, true, true, false, false, true, true, false, false, false] { tmps := #[.agg #[.slice (some b0) l0.length c0, .slice (some b1) l1.length c1, .slice (some b2) l2.length c2, .slice (some b3) l3.length c3], .pointer (some ⟨w.heap.size, 0, none⟩), .pointer (some ⟨w.heap.size + 1, 0, none⟩), .slice (some ⟨z0, 0, none⟩) 0 0, .pointer (some ⟨w.heap.size, 0, none⟩), .slice (some b0) l0.length c0, undef, undef, .pointer (some ⟨w.heap.size, 1, none⟩), .slice (some b1) l1.length c1, undef, undef, .pointer (some ⟨w.heap.size, 2, none⟩), .slice (some b2) l2.length c2, undef, undef, .pointer (some ⟨w.heap.size, 3, none⟩), .slice (some b3) l3.length c3, undef, undef], defers := [] } W := by
  refine wpAnyH_ready (rs := [3, 4, 8, 12]) (by kernel_rfl) (by simp) ?_
  refine AllReadyH.cons (o := ownOp3) rfl (fun K hK => ?_) ?_
  · refine step_freshP (by rfl) (Operand.tmp 3) (Operand.tmp 5) (by rfl) z0 b0 l0.length c0 l0 (by rfl) (by rfl) rfl (o0.below hS.1 (Nat.le_refl _)) n0 ?_
    intro a0 e0 W' hr hb
    have hS' := ownS_keep hS hb
    refine hK.out _ _ hS' (fun _ => ?_)
    exact ownp_nd1_n n0 n1 n2 n3 o0 o1 o2 o3 hQ W' hS' z0  a0 e0 W'.heap.size (hr.mono (ownS_ge hS) (Nat.le_refl _)) (Nat.le_refl _) (Nat.le_trans (ownS_ge hS) hb.size)
  refine AllReadyH.cons (o := ownOp4) rfl (fun K hK => ?_) ?_
  · refine step_lit (by rfl) (by rfl) ?_
    intro z1 W' hb
    have hS' := ownS_keep hS hb
    refine hK.out _ _ hS' (fun _ => ?_)
    exact ownp_nd0_01 n0 n1 n2 n3 o0 o1 o2 o3 hQ W' hS' z0 z1 
  refine AllReadyH.cons (o := ownOp8) rfl (fun K hK => ?_) ?_
  · refine step_lit (by rfl) (by rfl) ?_
    intro z2 W' hb
    have hS' := ownS_keep hS hb
    refine hK.out _ _ hS' (fun _ => ?_)
    exact ownp_nd0_02 n0 n1 n2 n3 o0 o1 o2 o3 hQ W' hS' z0 z2 
  refine AllReadyH.cons (o := ownOp12) rfl (fun K hK => ?_) ?_
  · refine step_lit (by rfl) (by rfl) ?_
    intro z3 W' hb
    have hS' := ownS_keep hS hb
    refine hK.out _ _ hS' (fun _ => ?_)
    exact ownp_nd0_03 n0 n1 n2 n3 o0 o1 o2 o3 hQ W' hS' z0 z3 
  exact AllReadyH.nil

set_option maxRecDepth 20000 in
set_option maxHeartbeats 4000000 in
theorem ownp_nd0_1 {b0 b1 b2 b3 : Addr} {c0 c1 c2 c3 : Nat} {l0 l1 l2 l3 : List (Int × Int)} {w : World} {Q : Exit → Act → World → Prop} (n0 : l0.length ≤ 1048576) (n1 : l1.length ≤ 1048576) (n2 : l2.length ≤ 1048576) (n3 : l3.length ≤ 1048576) (o0 : PRow w (some b0) l0) (o1 : PRow w (some b1) l1) (o2 : PRow w (some b2) l2) (o3 : PRow w (some b3) l3)
    (hQ : ∀ (W : World) (hS : ownS w (.slice (some b0) l0.length c0) (.slice (some b1) l1.length c1) (.slice (some b2) l2.length c2) (.slice (some b3) l3.length c3) W) (z0 z1 z2 z3 : Nat) (a0 : Option Addr) (e0 m1 : Nat) (t0 : RoomIn W (w.heap.size + 2) m1 a0 l0.length e0 l0) (g1 : m1 ≤ W.heap.size) (k1 : (w.heap.size + 2) ≤ m1) (a1 : Option Addr) (e1 m2 : Nat) (t1 : RoomIn W m1 m2 a1 l1.length e1 l1) (g2 : m2 ≤ W.heap.size) (k2 : m1 ≤ m2) (a2 : Option Addr) (e2 m3 : Nat) (t2 : RoomIn W m2 m3 a2 l2.length e2 l2) (g3 : m3 ≤ W.heap.size) (k3 : m2 ≤ m3) (a3 : Option Addr) (e3 m4 : Nat) (t3 : RoomIn W m3 m4 a3 l3.length e3 l3) (g4 : m4 ≤ W.heap.size) (k4 : m3 ≤ m4), Q .normal { tmps := #[.agg #[.slice (some b0) l0.length c0, .slice (some b1) l1.length c1, .slice (some b2) l2.length c2, .slice (some b3) l3.length c3], .pointer (some ⟨w.heap.size, 0, none⟩), .pointer (some ⟨w.heap.size + 1, 0, none⟩), .slice (some ⟨z0, 0, none⟩) 0 0, .pointer (some ⟨w.heap.size, 0, none⟩), .slice (some b0) l0.length c0, .slice a0 l0.length e0, .slice (some ⟨z1, 0, none⟩) 0 0, .pointer (some ⟨w.heap.size, 1, none⟩), .slice (some b1) l1.length c1, .slice a1 l1.length e1, .slice (some ⟨z2, 0, none⟩) 0 0, .pointer (some ⟨w.heap.size, 2, none⟩), .slice (some b2) l2.length c2, .slice a2 l2.length e2, .slice (some ⟨z3, 0, none⟩) 0 0, .pointer (some ⟨w.heap.size, 3, none⟩), .slice (some b3) l3.length c3, .slice a3 l3.length e3, .agg #[.slice a0 l0.length e0, .slice a1 l1.length e1, .slice a2 l2.length e2, .slice a3 l3.length e3]], defers := [] } ((((W.setCell ⟨w.heap.size + 1, 0, none⟩ (.slice a0 l0.length e0)).setCell ⟨w.heap.size + 1, 1, none⟩ (.slice a1 l1.length e1)).setCell ⟨w.heap.size + 1, 2, none⟩ (.slice a2 l2.length e2)).setCell ⟨w.heap.size + 1, 3, none⟩ (.slice a3 l3.length e3)))
    (W : World) (hS : ownS w (.slice (some b0) l0.length c0) (.slice (some b1) l1.length c1) (.slice (some b2) l2.length c2) (.slice (some b3) l3.length c3) W) (z1 : Nat) :
    wpAnyH Try.prog .any ownOps Q (ownS w (.slice (some b0) l0.length c0) (.slice (some b1) l1.length c1) (.slice (some b2) l2.length c2) (.slice (some b3) l3.length c3)) 9 #[false, true, true, false, true, true, true, false, false, true, true, false, false, true, true, false, false, false] { tmps := #[.agg #[.slice (some b0) l0.length c0, .slice (some b1) l1.length c1, .slice (some b2) l2.length c2, .slice (some b3) l3.length c3], .pointer (some ⟨w.heap.size, 0, none⟩), .pointer (some ⟨w.heap.size + 1, 0, none⟩), undef, .pointer (some ⟨w.heap.size, 0, none⟩), .slice (some b0) l0.length c0, undef, .slice (some ⟨z1, 0, none⟩) 0 0, .pointer (some ⟨w.heap.size, 1, none⟩), .slice (some b1) l1.length c1, undef, undef, .pointer (some ⟨w.heap.size, 2, none⟩), .slice (some b2) l2.length c2, undef, undef, .pointer (some ⟨w.heap.size, 3, none⟩), .slice (some b3) l3.length c3, undef, undef], defers := [] } W := by
  refine wpAnyH_ready (rs := [0, 8, 12]) (by kernel_rfl) (by simp) ?_
  refine AllReadyH.cons (o := ownOp0) rfl (fun K hK => ?_) ?_
  · refine step_lit (by rfl) (by rfl) ?_
    intro z0 W' hb
    have hS' := ownS_keep hS hb
    refine hK.out _ _ hS' (fun _ => ?_)
    exact ownp_nd0_01 n0 n1 n2 n3 o0 o1 o2 o3 hQ W' hS' z0 z1 
  refine AllReadyH.cons (o := ownOp8) rfl (fun K hK => ?_) ?_
  · refine step_lit (by rfl) (by rfl) ?_
    intro z2 W' hb
    have hS' := ownS_keep hS hb
    refine hK.out _ _ hS' (fun _ => ?_)
    exact ownp_nd0_12 n0 n1 n2 n3 o0 o1 o2 o3 hQ W' hS' z1 z2 
  refine AllReadyH.cons (o := ownOp12) rfl (fun K hK => ?_) ?_
  · refine step_lit (by rfl) (by rfl) ?_
    intro z3 W' hb
    have hS' := ownS_keep hS hb
    refine hK.out _ _ hS' (fun _ => ?_)
    exact ownp_nd0_13 n0 n1 n2 n3 o0 o1 o2 o3 hQ W' hS' z1 z3 
  exact AllReadyH.nil

set_option maxRecDepth 20000 in
set_option maxHeartbeats 4000000 in
theorem ownp_nd0_2 {b0 b1 b2 b3 : Addr} {c0 c1 c2 c3 : Nat} {l0 l1 l2 l3 : List (Int × Int)} {w : World} {Q : Exit → Act → World → Prop} (n0 : l0.length ≤ 1048576) (n1 : l1.length ≤ 1048576) (n2 : l2.length ≤ 1048576) (n3 : l3.length ≤ 1048576) (o0 : PRow w (some b0) l0) (o1 : PRow w (some b1) l1) (o2 : PRow w (some b2) l2) (o3 : PRow w (some b3) l3)
    (hQ : ∀ (W : World) (hS : ownS w (.slice (some b0) l0.length c0) (.slice (some b1) l1.length c1) (.slice (some b2) l2.length c2) (.slice (some b3) l3.length c3) W) (z0 z1 z2 z3 : Nat) (a0 : Option Addr) (e0 m1 : Nat) (t0 : RoomIn W (w.heap.size + 2) m1 a0 l0.length e0 l0) (g1 : m1 ≤ W.heap.size) (k1 : (w.heap.size + 2) ≤ m1) (a1 : Option Addr) (e1 m2 : Nat) (t1 : RoomIn W m1 m2 a1 l1.length e1 l1) (g2 : m2 ≤ W.heap.size) (k2 : m1 ≤ m2) (a2 : Option Addr) (e2 m3 : Nat) (t2 : RoomIn W m2 m3 a2 l2.length e2 l2) (g3 : m3 ≤ W.heap.size) (k3 : m2 ≤ m3) (a3 : Option Addr) (e3 m4 : Nat) (t3 : RoomIn W m3 m4 a3 l3.length e3 l3) (g4 : m4 ≤ W.heap.size) (k4 : m3 ≤ m4), Q .normal { tmps := #[.agg #[.slice (some b0) l0.length c0, .slice (some b1) l1.length c1, .slice (some b2) l2.length c2, .slice (some b3) l3.length c3], .pointer (some ⟨w.heap.size, 0, none⟩), .pointer (some ⟨w.heap.size + 1, 0, none⟩), .slice (some ⟨z0, 0, none⟩) 0 0, .pointer (some ⟨w.heap.size, 0, none⟩), .slice (some b0) l0.length c0, .slice a0 l0.length e0, .slice (some ⟨z1, 0, none⟩) 0 0, .pointer (some ⟨w.heap.size, 1, none⟩), .slice (some b1) l1.length c1, .slice a1 l1.length e1, .slice (some ⟨z2, 0, none⟩) 0 0, .pointer (some ⟨w.heap.size, 2, none⟩), .slice (some b2) l2.length c2, .slice a2 l2.length e2, .slice (some ⟨z3, 0, none⟩) 0 0, .pointer (some ⟨w.heap.size, 3, none⟩), .slice (some b3) l3.length c3, .slice a3 l3.length e3, .agg #[.slice a0 l0.length e0, .slice a1 l1.length e1, .slice a2 l2.length e2, .slice a3 l3.length e3]], defers := [] } ((((W.setCell ⟨w.heap.size + 1, 0, none⟩ (.slice a0 l0.length e0)).setCell ⟨w.heap.size + 1, 1, none⟩ (.slice a1 l1.length e1)).setCell ⟨w.heap.size + 1, 2, none⟩ (.slice a2 l2.length e2)).setCell ⟨w.heap.size + 1, 3, none⟩ (.slice a3 l3.length e3)))
    (W : World) (hS : ownS w (.slice (some b0) l0.length c0) (.slice (some b1) l1.length c1) (.slice (some b2) l2.length c2) (.slice (some b3) l3.length c3) W) (z2 : Nat) :
    wpAnyH Try.prog .any ownOps Q (ownS w (.slice (some b0) l0.length c0) (.slice (some b1) l1.length c1) (.slice (some b2) l2.length c2) (.slice (some b3) l3.length c3)) 9 #[false, true, true, false, false, true, true, false, true, true, true, false, false, true, true, false, false, false] { tmps := #[.agg #[.slice (some b0) l0.length c0, .slice (some b1) l1.length c1, .slice (some b2) l2.length c2, .slice (some b3) l3.length c3], .pointer (some ⟨w.heap.size, 0, none⟩), .pointer (some ⟨w.heap.size + 1, 0, none⟩), undef, .pointer (some ⟨w.heap.size, 0, none⟩), .slice (some b0) l0.length c0, undef, undef, .pointer (some ⟨w.heap.size, 1, none⟩), .slice (some b1) l1.length c1, undef, .slice (some ⟨z2, 0, none⟩) 0 0, .pointer (some ⟨w.heap.size, 2, none⟩), .slice (some b2) l2.length c2, undef, undef, .pointer (some ⟨w.heap.size, 3, none⟩), .slice (some b3) l3.length c3, undef, undef], defers := [] } W := by
  refine wpAnyH_ready (rs := [0, 4, 12]) (by kernel_rfl) (by simp) ?_
  refine AllReadyH.cons (o := ownOp0) rfl (fun K hK => ?_) ?_
  · refine step_lit (by rfl) (by rfl) ?_
    intro z0 W' hb
    have hS' := ownS_keep hS hb
    refine hK.out _ _ hS' (fun _ => ?_)
    exact ownp_nd0_02 n0 n1 n2 n3 o0 o1 o2 o3 hQ W' hS' z0 z2 
  refine AllReadyH.cons (o := ownOp4) rfl (fun K hK => ?_) ?_
  · refine step_lit (by rfl) (by rfl) ?_
    intro z1 W' hb
    have hS' := ownS_keep hS hb
    refine hK.out _ _ hS' (fun _ => ?_)
    exact ownp_nd0_12 n0 n1 n2 n3 o0 o1 o2 o3 hQ W' hS' z1 z2 
  refine AllReadyH.cons (o := ownOp12) rfl (fun K hK => ?_) ?_
  · refine step_lit (by rfl) (by rfl) ?_
    intro z3 W' hb
    have hS' := ownS_keep hS hb
    refine hK.out _ _ hS' (fun _ => ?_)
    exact ownp_nd0_23 n0 n1 n2 n3 o0 o1 o2 o3 hQ W' hS' z2 z3 
  exact AllReadyH.nil

set_option maxRecDepth 20000 in
set_option maxHeartbeats 4000000 in
theorem ownp_nd0_3 {b0 b1 b2 b3 : Addr} {c0 c1 c2 c3 : Nat} {l0 l1 l2 l3 : List (Int × Int)} {w : World} {Q : Exit → Act → World → Prop} (n0 : l0.length ≤ 1048576) (n1 : l1.length ≤ 1048576) (n2 : l2.length ≤ 1048576) (n3 : l3.length ≤ 1048576) (o0 : PRow w (some b0) l0) (o1 : PRow w (some b1) l1) (o2 : PRow w (some b2) l2) (o3 : PRow w (some b3) l3)
    (hQ : ∀ (W : World) (hS : ownS w (.slice (some b0) l0.length c0) (.slice (some b1) l1.length c1) (.slice (some b2) l2.length c2) (.slice (some b3) l3.length c3) W) (z0 z1 z2 z3 : Nat) (a0 : Option Addr) (e0 m1 : Nat) (t0 : RoomIn W (w.heap.size + 2) m1 a0 l0.length e0 l0) (g1 : m1 ≤ W.heap.size) (k1 : (w.heap.size + 2) ≤ m1) (a1 : Option Addr) (e1 m2 : Nat) (t1 : RoomIn W m1 m2 a1 l1.length e1 l1) (g2 : m2 ≤ W.heap.size) (k2 : m1 ≤ m2) (a2 : Option Addr) (e2 m3 : Nat) (t2 : RoomIn W m2 m3 a2 l2.length e2 l2) (g3 : m3 ≤ W.heap.size) (k3 : m2 ≤ m3) (a3 : Option Addr) (e3 m4 : Nat) (t3 : RoomIn W m3 m4 a3 l3.length e3 l3) (g4 : m4 ≤ W.heap.size) (k4 : m3 ≤ m4), Q .normal { tmps := #[.agg #[.slice (some b0) l0.length c0, .slice (some b1) l1.length c1, .slice (some b2) l2.length c2, .slice (some b3) l3.length c3], .pointer (some ⟨w.heap.size, 0, none⟩), .pointer (some ⟨w.heap.size + 1, 0, none⟩), .slice (some ⟨z0, 0, none⟩) 0 0, .pointer (some ⟨w.heap.size, 0, none⟩), .slice (some b0) l0.length c0, .slice a0 l0.length e0, .slice (some ⟨z1, 0, none⟩) 0 0, .pointer (some ⟨w.heap.size, 1, none⟩), .slice (some b1) l1.length c1, .slice a1 l1.length e1, .slice (some ⟨z2, 0, none⟩) 0 0, .pointer (some ⟨w.heap.size, 2, none⟩), .slice (some b2) l2.length c2, .slice a2 l2.length e2, .slice (some ⟨z3, 0, none⟩) 0 0, .pointer (some ⟨w.heap.size, 3, none⟩), .slice (some b3) l3.length c3, .slice a3 l3.length e3, .agg #[.slice a0 l0.length e0, .slice a1 l1.length e1, .slice a2 l2.length e2, .slice a3 l3.length e3]], defers := [] } ((((W.setCell ⟨w.heap.size + 1, 0, none⟩ (.slice a0 l0.length e0)).setCell ⟨w.heap.size + 1, 1, none⟩ (.slice a1 l1.length e1)).setCell ⟨w.heap.size + 1, 2, none⟩ (.slice a2 l2.length e2)).setCell ⟨w.heap.size + 1, 3, none⟩ (.slice a3 l3.length e3)))
    (W : World) (hS : ownS w (.slice (some b0) l0.length c0) (.slice (some b1) l1.length c1) (.slice (some b2) l2.length c2) (.slice (some b3) l3.length c3) W) (z3 : Nat) :
    wpAnyH Try.prog .any ownOps Q (ownS w (.slice (some b0) l0.length c0) (.slice (some b1) l1.length c1) (.slice (some b2) l2.length c2) (.slice (some b3) l3.length c3)) 9 #[false, true, true, false, false, true, true, false, false, true, true, false, true, true, true, false, false, false] { tmps := #[.agg #[.slice (some b0) l0.length c0, .slice (some b1) l1.length c1, .slice (some b2) l2.length c2, .slice (some b3) l3.length c3], .pointer (some ⟨w.heap.size, 0, none⟩), .pointer (some ⟨w.heap.size + 1, 0, none⟩), undef, .pointer (some ⟨w.heap.size, 0, none⟩), .slice (some b0) l0.length c0, undef, undef, .pointer (some ⟨w.heap.size, 1, none⟩), .slice (some b1) l1.length c1, undef, undef, .pointer (some ⟨w.heap.size, 2, none⟩), .slice (some b2) l2.length c2, undef, .slice (some ⟨z3, 0, none⟩) 0 0, .pointer (some ⟨w.heap.size, 3, none⟩), .slice (some b3) l3.length c3, undef, undef], defers := [] } W := by
  refine wpAnyH_ready (rs := [0, 4, 8]) (by kernel_rfl) (by simp) ?_
  refine AllReadyH.cons (o := ownOp0) rfl (fun K hK => ?_) ?_
  · refine step_lit (by rfl) (by rfl) ?_
    intro z0 W' hb
    have hS' := ownS_keep hS hb
    refine hK.out _ _ hS' (fun _ => ?_)
    exact ownp_nd0_03 n0 n1 n2 n3 o0 o1 o2 o3 hQ W' hS' z0 z3 
  refine AllReadyH.cons (o := ownOp4) rfl (fun K hK => ?_) ?_
  · refine step_lit (by rfl) (by rfl) ?_
    intro z1 W' hb
    have hS' := ownS_keep hS hb
    refine hK.out _ _ hS' (fun _ => ?_)
    exact ownp_nd0_13 n0 n1 n2 n3 o0 o1 o2 o3 hQ W' hS' z1 z3 
  refine AllReadyH.cons (o := ownOp8) rfl (fun K hK => ?_) ?_
  · refine step_lit (by rfl) (by rfl) ?_
    intro z2 W' hb
    have hS' := ownS_keep hS hb
    refine hK.out _ _ hS' (fun _ => ?_)
    exact ownp_nd0_23 n0 n1 n2 n3 o0 o1 o2 o3 hQ W' hS' z2 z3 
  exact AllReadyH.nil

set_option maxRecDepth 20000 in
set_option maxHeartbeats 4000000 in
theorem ownp_nd0_n {b0 b1 b2 b3 : Addr} {c0 c1 c2 c3 : Nat} {l0 l1 l2 l3 : List (Int × Int)} {w : World} {Q : Exit → Act → World → Prop} (n0 : l0.length ≤ 1048576) (n1 : l1.length ≤ 1048576) (n2 : l2.length ≤ 1048576) (n3 : l3.length ≤ 1048576) (o0 : PRow w (some b0) l0) (o1 : PRow w (some b1) l1) (o2 : PRow w (some b2) l2) (o3 : PRow w (some b3) l3)
    (hQ : ∀ (W : World) (hS : ownS w (.slice (some b0) l0.length c0) (.slice (some b1) l1.length c1) (.slice (some b2) l2.length c2) (.slice (some b3) l3.length c3) W) (z0 z1 z2 z3 : Nat) (a0 : Option Addr) (e0 m1 : Nat) (t0 : RoomIn W (w.heap.size + 2) m1 a0 l0.length e0 l0) (g1 : m1 ≤ W.heap.size) (k1 : (w.heap.size + 2) ≤ m1) (a1 : Option Addr) (e1 m2 : Nat) (t1 : RoomIn W m1 m2 a1 l1.length e1 l1) (g2 : m2 ≤ W.heap.size) (k2 : m1 ≤ m2) (a2 : Option Addr) (e2 m3 : Nat) (t2 : RoomIn W m2 m3 a2 l2.length e2 l2) (g3 : m3 ≤ W.heap.size) (k3 : m2 ≤ m3) (a3 : Option Addr) (e3 m4 : Nat) (t3 : RoomIn W m3 m4 a3 l3.length e3 l3) (g4 : m4 ≤ W.heap.size) (k4 : m3 ≤ m4), Q .normal { tmps := #[.agg #[.slice (some b0) l0.length c0, .slice (some b1) l1.length c1, .slice (some b2) l2.length c2, .slice (some b3) l3.length c3], .pointer (some ⟨w.heap.size, 0, none⟩), .pointer (some ⟨w.heap.size + 1, 0, none⟩), .slice (some ⟨z0, 0, none⟩) 0 0, .pointer (some ⟨w.heap.size, 0, none⟩), .slice (some b0) l0.length c0, .slice a0 l0.length e0, .slice (some ⟨z1, 0, none⟩) 0 0, .pointer (some ⟨w.heap.size, 1, none⟩), .slice (some b1) l1.length c1, .slice a1 l1.length e1, .slice (some ⟨z2, 0, none⟩) 0 0, .pointer (some ⟨w.heap.size, 2, none⟩), .slice (some b2) l2.length c2, .slice a2 l2.length e2, .slice (some ⟨z3, 0, none⟩) 0 0, .pointer (some ⟨w.heap.size, 3, none⟩), .slice (some b3) l3.length c3, .slice a3 l3.length e3, .agg #[.slice a0 l0.length e0, .slice a1 l1.length e1, .slice a2 l2.length e2, .slice a3 l3.length e3]], defers := [] } ((((W.setCell ⟨w.heap.size + 1, 0, none⟩ (.slice a0 l0.length e0)).setCell ⟨w.heap.size + 1, 1, none⟩ (.slice a1 l1.length e1)).setCell ⟨w.heap.size + 1, 2, none⟩ (.slice a2 l2.length e2)).setCell ⟨w.heap.size + 1, 3, none⟩ (.slice a3 l3.length e3)))
    (W : World) (hS : ownS w (.slice (some b0) l0.length c0) (.slice (some b1) l1.length c1) (.slice (some b2) l2.length c2) (.slice (some b3) l3.length c3) W) :
    wpAnyH Try.prog .any ownOps Q (ownS w (.slice (some b0) l0.length c0) (.slice (some b1) l1.length c1) (.slice (some b2) l2.length c2) (.slice (some b3) l3.length c3)) 10 #[false, true, true, false, false, true, true, false, false, true, true, false, false, true, true, false, false, false] { tmps := #[.agg #[.slice (some b0) l0.length c0, .slice (some b1) l1.length c1, .slice (some b2) l2.length c2, .slice (some b3) l3.length c3], .pointer (some ⟨w.heap.size, 0, none⟩), .pointer (some ⟨w.heap.size + 1, 0, none⟩), undef, .pointer (some ⟨w.heap.size, 0, none⟩), .slice (some b0) l0.length c0, undef, undef, .pointer (some ⟨w.heap.size, 1, none⟩), .slice (some b1) l1.length c1, undef, undef, .pointer (some ⟨w.heap.size, 2, none⟩), .slice (some b2) l2.length c2, undef, undef, .pointer (some ⟨w.heap.size, 3, none⟩), .slice (some b3) l3.length c3, undef, undef], defers := [] } W := by
  refine wpAnyH_ready (rs := [0, 4, 8, 12]) (by kernel_rfl) (by simp) ?_
  refine AllReadyH.cons (o := ownOp0) rfl (fun K hK => ?_) ?_
  · refine step_lit (by rfl) (by rfl) ?_
    intro z0 W' hb
    have hS' := ownS_keep hS hb
    refine hK.out _ _ hS' (fun _ => ?_)
    exact ownp_nd0_0 n0 n1 n2 n3 o0 o1 o2 o3 hQ W' hS' z0 
  refine AllReadyH.cons (o := ownOp4) rfl (fun K hK => ?_) ?_
  · refine step_lit (by rfl) (by rfl) ?_
    intro z1 W' hb
    have hS' := ownS_keep hS hb
    refine hK.out _ _ hS' (fun _ => ?_)
    exact ownp_nd0_1 n0 n1 n2 n3 o0 o1 o2 o3 hQ W' hS' z1 
  refine AllReadyH.cons (o := ownOp8) rfl (fun K hK => ?_) ?_
  · refine step_lit (by rfl) (by rfl) ?_
    intro z2 W' hb
    have hS' := ownS_keep hS hb
    refine hK.out _ _ hS' (fun _ => ?_)
    exact ownp_nd0_2 n0 n1 n2 n3 o0 o1 o2 o3 hQ W' hS' z2 
  refine AllReadyH.cons (o := ownOp12) rfl (fun K hK => ?_) ?_
  · refine step_lit (by rfl) (by rfl) ?_
    intro z3 W' hb
    have hS' := ownS_keep hS hb
    refine hK.out _ _ hS' (fun _ => ?_)
    exact ownp_nd0_3 n0 n1 n2 n3 o0 o1 o2 o3 hQ W' hS' z3 
  exact AllReadyH.nil

set_option maxHeartbeats 4000000 in
theorem l1ownp_any (b0 b1 b2 b3 : Addr) (c0 c1 c2 c3 : Nat) (l0 l1 l2 l3 : List (Int × Int)) (w : World) (n0 : l0.length ≤ 1048576) (n1 : l1.length ≤ 1048576) (n2 : l2.length ≤ 1048576) (n3 : l3.length ≤ 1048576) (o0 : PRow w (some b0) l0) (o1 : PRow w (some b1) l1) (o2 : PRow w (some b2) l2) (o3 : PRow w (some b3) l3) :
    Calls Try.prog 132 #[.agg #[.slice (some b0) l0.length c0, .slice (some b1) l1.length c1, .slice (some b2) l2.length c2, .slice (some b3) l3.length c3]] w fun e w' => ∃ a0 a1 a2 a3 e0 e1 e2 e3 m1 m2 m3 m4,
      e = .returned (.agg #[.slice a0 l0.length e0, .slice a1 l1.length e1, .slice a2 l2.length e2, .slice a3 l3.length e3]) ∧
      RoomIn w' (w.heap.size + 2) m1 a0 l0.length e0 l0 ∧ RoomIn w' m1 m2 a1 l1.length e1 l1 ∧ RoomIn w' m2 m3 a2 l2.length e2 l2 ∧ RoomIn w' m3 m4 a3 l3.length e3 l3 ∧ w.heap.size + 2 ≤ m1 ∧ m1 ≤ m2 ∧ m2 ≤ m3 ∧ m3 ≤ m4 ∧ m4 ≤ w'.heap.size ∧ Below w.heap.size w w' := by
  have B0 := (Box.new w (.slice (some b0) l0.length c0) (.slice (some b1) l1.length c1) (.slice (some b2) l2.length c2) (.slice (some b3) l3.length c3) 28).below ((Below.refl _ _).alloc (Nat.le_refl _) (.cells #[.slice none 0 0, .slice none 0 0, .slice none 0 0, .slice none 0 0] 28)) (by simp)
  have R0 := Box.new (w.alloc (.cells #[.slice (some b0) l0.length c0, .slice (some b1) l1.length c1, .slice (some b2) l2.length c2, .slice (some b3) l3.length c3] 28)) (.slice none 0 0) (.slice none 0 0) (.slice none 0 0) (.slice none 0 0) 28
  have L0 : Below w.heap.size w ((w.alloc (.cells #[.slice (some b0) l0.length c0, .slice (some b1) l1.length c1, .slice (some b2) l2.length c2, .slice (some b3) l3.length c3] 28)).alloc (.cells #[.slice none 0 0, .slice none 0 0, .slice none 0 0, .slice none 0 0] 28)) := ((Below.refl _ _).alloc (Nat.le_refl _) _).alloc (by simp) _
  rw [World.size_alloc] at R0
  go_enter Try.func132, Try.ntmps132
  go_wp2
  generalize (w.alloc (.cells #[.slice (some b0) l0.length c0, .slice (some b1) l1.length c1, .slice (some b2) l2.length c2, .slice (some b3) l3.length c3] 28)).alloc (.cells #[.slice none 0 0, .slice none 0 0, .slice none 0 0, .slice none 0 0] 28) = W0 at *
  have O0 : Own W0.drew (w.heap.size + 1) 2 [] 0 := ⟨R0.lt, fun j hj => by
    have : j = 0 ∨ j = 1 ∨ j = 2 ∨ j = 3 := by omega
    rcases this with rfl | rfl | rfl | rfl
    · exact ⟨⟨_, R0.c0⟩, R0.f0⟩
    · exact ⟨⟨_, R0.c1⟩, R0.f1⟩
    · exact ⟨⟨_, R0.c2⟩, R0.f2⟩
    · exact ⟨⟨_, R0.c3⟩, R0.f3⟩, fun i hi => by omega⟩
  have hS0 : ownS w (.slice (some b0) l0.length c0) (.slice (some b1) l1.length c1) (.slice (some b2) l2.length c2) (.slice (some b3) l3.length c3) W0.drew := ⟨L0.drew, O0, B0.c0, B0.c1, B0.c2, B0.c3⟩
  clear R0 B0 O0
  refine wp_region_held_drew (S := ownS w (.slice (some b0) l0.length c0) (.slice (some b1) l1.length c1) (.slice (some b2) l2.length c2) (.slice (some b3) l3.length c3)) (by kernel_rfl) hS0 (fun _ => ?_)
  show wpAnyH Try.prog .any ownOps _ (ownS w (.slice (some b0) l0.length c0) (.slice (some b1) l1.length c1) (.slice (some b2) l2.length c2) (.slice (some b3) l3.length c3)) 18 #[false, false, false, false, false, false, false, false, false, false, false, false, false, false, false, false, false, false] { tmps := #[.agg #[.slice (some b0) l0.length c0, .slice (some b1) l1.length c1, .slice (some b2) l2.length c2, .slice (some b3) l3.length c3], .pointer (some ⟨w.heap.size, 0, none⟩), .pointer (some ⟨w.heap.size + 1, 0, none⟩), undef, undef, undef, undef, undef, undef, undef, undef, undef, undef, undef, undef, undef, undef, undef, undef, undef], defers := [] } W0.drew
  refine wpAnyH_take (i := 1) (oi := { dst := some 4, op := Op.fieldAddr 28 (Operand.tmp 1) 0, type := 0, pos := "l01_asn.go:137", after := #[], guard := none }) (v := .pointer (some ⟨w.heap.size, 0, none⟩)) rfl (by kernel_rfl) (by kernel_rfl) (by kernel_rfl) (fun _ _ _ h => h) (Or.inl ⟨by rfl, ?_⟩) hS0 ?_
  · intro W hSw; unfold ownS at hSw; obtain ⟨-, -, s0, s1, s2, s3⟩ := hSw; go_simp
  show wpAnyH Try.prog .any ownOps _ (ownS w (.slice (some b0) l0.length c0) (.slice (some b1) l1.length c1) (.slice (some b2) l2.length c2) (.slice (some b3) l3.length c3)) 17 #[false, true, false, false, false, false, false, false, false, false, false, false, false, false, false, false, false, false] { tmps := #[.agg #[.slice (some b0) l0.length c0, .slice (some b1) l1.length c1, .slice (some b2) l2.length c2, .slice (some b3) l3.length c3], .pointer (some ⟨w.heap.size, 0, none⟩), .pointer (some ⟨w.heap.size + 1, 0, none⟩), undef, .pointer (some ⟨w.heap.size, 0, none⟩), undef, undef, undef, undef, undef, undef, undef, undef, undef, undef, undef, undef, undef, undef, undef], defers := [] } W0.drew
  refine wpAnyH_take (i := 2) (oi := { dst := some 5, op := Op.load 26 (Operand.tmp 4), type := 26, pos := "l01_asn.go:137", after := #[{ on := 1, ground := Ground.data }], guard := none }) (v := .slice (some b0) l0.length c0) rfl (by kernel_rfl) (by kernel_rfl) (by kernel_rfl) (fun _ _ _ h => h) (Or.inl ⟨by rfl, ?_⟩) hS0 ?_
  · intro W hSw; unfold ownS at hSw; obtain ⟨-, -, s0, s1, s2, s3⟩ := hSw; go_simp
  show wpAnyH Try.prog .any ownOps _ (ownS w (.slice (some b0) l0.length c0) (.slice (some b1) l1.length c1) (.slice (some b2) l2.length c2) (.slice (some b3) l3.length c3)) 16 #[false, true, true, false, false, false, false, false, false, false, false, false, false, false, false, false, false, false] { tmps := #[.agg #[.slice (some b0) l0.length c0, .slice (some b1) l1.length c1, .slice (some b2) l2.length c2, .slice (some b3) l3.length c3], .pointer (some ⟨w.heap.size, 0, none⟩), .pointer (some ⟨w.heap.size + 1, 0, none⟩), undef, .pointer (some ⟨w.heap.size, 0, none⟩), .slice (some b0) l0.length c0, undef, undef, undef, undef, undef, undef, undef, undef, undef, undef, undef, undef, undef, undef], defers := [] } W0.drew
  refine wpAnyH_take (i := 5) (oi := { dst := some 8, op := Op.fieldAddr 28 (Operand.tmp 1) 1, type := 0, pos := "l01_asn.go:137", after := #[], guard := none }) (v := .pointer (some ⟨w.heap.size, 1, none⟩)) rfl (by kernel_rfl) (by kernel_rfl) (by kernel_rfl) (fun _ _ _ h => h) (Or.inl ⟨by rfl, ?_⟩) hS0 ?_
  · intro W hSw; unfold ownS at hSw; obtain ⟨-, -, s0, s1, s2, s3⟩ := hSw; go_simp
  show wpAnyH Try.prog .any ownOps _ (ownS w (.slice (some b0) l0.length c0) (.slice (some b1) l1.length c1) (.slice (some b2) l2.length c2) (.slice (some b3) l3.length c3)) 15 #[false, true, true, false, false, true, false, false, false, false, false, false, false, false, false, false, false, false] { tmps := #[.agg #[.slice (some b0) l0.length c0, .slice (some b1) l1.length c1, .slice (some b2) l2.length c2, .slice (some b3) l3.length c3], .pointer (some ⟨w.heap.size, 0, none⟩), .pointer (some ⟨w.heap.size + 1, 0, none⟩), undef, .pointer (some ⟨w.heap.size, 0, none⟩), .slice (some b0) l0.length c0, undef, undef, .pointer (some ⟨w.heap.size, 1, none⟩), undef, undef, undef, undef, undef, undef, undef, undef, undef, undef, undef], defers := [] } W0.drew
  refine wpAnyH_take (i := 6) (oi := { dst := some 9, op := Op.load 26 (Operand.tmp 8), type := 26, pos := "l01_asn.go:137", after := #[{ on := 5, ground := Ground.data }], guard := none }) (v := .slice (some b1) l1.length c1) rfl (by kernel_rfl) (by kernel_rfl) (by kernel_rfl) (fun _ _ _ h => h) (Or.inl ⟨by rfl, ?_⟩) hS0 ?_
  · intro W hSw; unfold ownS at hSw; obtain ⟨-, -, s0, s1, s2, s3⟩ := hSw; go_simp
  show wpAnyH Try.prog .any ownOps _ (ownS w (.slice (some b0) l0.length c0) (.slice (some b1) l1.length c1) (.slice (some b2) l2.length c2) (.slice (some b3) l3.length c3)) 14 #[false, true, true, false, false, true, true, false, false, false, false, false, false, false, false, false, false, false] { tmps := #[.agg #[.slice (some b0) l0.length c0, .slice (some b1) l1.length c1, .slice (some b2) l2.length c2, .slice (some b3) l3.length c3], .pointer (some ⟨w.heap.size, 0, none⟩), .pointer (some ⟨w.heap.size + 1, 0, none⟩), undef, .pointer (some ⟨w.heap.size, 0, none⟩), .slice (some b0) l0.length c0, undef, undef, .pointer (some ⟨w.heap.size, 1, none⟩), .slice (some b1) l1.length c1, undef, undef, undef, undef, undef, undef, undef, undef, undef, undef], defers := [] } W0.drew
  refine wpAnyH_take (i := 9) (oi := { dst := some 12, op := Op.fieldAddr 28 (Operand.tmp 1) 2, type := 0, pos := "l01_asn.go:137", after := #[], guard := none }) (v := .pointer (some ⟨w.heap.size, 2, none⟩)) rfl (by kernel_rfl) (by kernel_rfl) (by kernel_rfl) (fun _ _ _ h => h) (Or.inl ⟨by rfl, ?_⟩) hS0 ?_
  · intro W hSw; unfold ownS at hSw; obtain ⟨-, -, s0, s1, s2, s3⟩ := hSw; go_simp
  show wpAnyH Try.prog .any ownOps _ (ownS w (.slice (some b0) l0.length c0) (.slice (some b1) l1.length c1) (.slice (some b2) l2.length c2) (.slice (some b3) l3.length c3)) 13 #[false, true, true, false, false, true, true, false, false, true, false, false, false, false, false, false, false, false] { tmps := #[.agg #[.slice (some b0) l0.length c0, .slice (some b1) l1.length c1, .slice (some b2) l2.length c2, .slice (some b3) l3.length c3], .pointer (some ⟨w.heap.size, 0, none⟩), .pointer (some ⟨w.heap.size + 1, 0, none⟩), undef, .pointer (some ⟨w.heap.size, 0, none⟩), .slice (some b0) l0.length c0, undef, undef, .pointer (some ⟨w.heap.size, 1, none⟩), .slice (some b1) l1.length c1, undef, undef, .pointer (some ⟨w.heap.size, 2, none⟩), undef, undef, undef, undef, undef, undef, undef], defers := [] } W0.drew
  refine wpAnyH_take (i := 10) (oi := { dst := some 13, op := Op.load 26 (Operand.tmp 12), type := 26, pos := "l01_asn.go:137", after := #[{ on := 9, ground := Ground.data }], guard := none }) (v := .slice (some b2) l2.length c2) rfl (by kernel_rfl) (by kernel_rfl) (by kernel_rfl) (fun _ _ _ h => h) (Or.inl ⟨by rfl, ?_⟩) hS0 ?_
  · intro W hSw; unfold ownS at hSw; obtain ⟨-, -, s0, s1, s2, s3⟩ := hSw; go_simp
  show wpAnyH Try.prog .any ownOps _ (ownS w (.slice (some b0) l0.length c0) (.slice (some b1) l1.length c1) (.slice (some b2) l2.length c2) (.slice (some b3) l3.length c3)) 12 #[false, true, true, false, false, true, true, false, false, true, true, false, false, false, false, false, false, false] { tmps := #[.agg #[.slice (some b0) l0.length c0, .slice (some b1) l1.length c1, .slice (some b2) l2.length c2, .slice (some b3) l3.length c3], .pointer (some ⟨w.heap.size, 0, none⟩), .pointer (some ⟨w.heap.size + 1, 0, none⟩), undef, .pointer (some ⟨w.heap.size, 0, none⟩), .slice (some b0) l0.length c0, undef, undef, .pointer (some ⟨w.heap.size, 1, none⟩), .slice (some b1) l1.length c1, undef, undef, .pointer (some ⟨w.heap.size, 2, none⟩), .slice (some b2) l2.length c2, undef, undef, undef, undef, undef, undef], defers := [] } W0.drew
  refine wpAnyH_take (i := 13) (oi := { dst := some 16, op := Op.fieldAddr 28 (Operand.tmp 1) 3, type := 0, pos := "l01_asn.go:137", after := #[], guard := none }) (v := .pointer (some ⟨w.heap.size, 3, none⟩)) rfl (by kernel_rfl) (by kernel_rfl) (by kernel_rfl) (fun _ _ _ h => h) (Or.inl ⟨by rfl, ?_⟩) hS0 ?_
  · intro W hSw; unfold ownS at hSw; obtain ⟨-, -, s0, s1, s2, s3⟩ := hSw; go_simp
  show wpAnyH Try.prog .any ownOps _ (ownS w (.slice (some b0) l0.length c0) (.slice (some b1) l1.length c1) (.slice (some b2) l2.length c2) (.slice (some b3) l3.length c3)) 11 #[false, true, true, false, false, true, true, false, false, true, true, false, false, true, false, false, false, false] { tmps := #[.agg #[.slice (some b0) l0.length c0, .slice (some b1) l1.length c1, .slice (some b2) l2.length c2, .slice (some b3) l3.length c3], .pointer (some ⟨w.heap.size, 0, none⟩), .pointer (some ⟨w.heap.size + 1, 0, none⟩), undef, .pointer (some ⟨w.heap.size, 0, none⟩), .slice (some b0) l0.length c0, undef, undef, .pointer (some ⟨w.heap.size, 1, none⟩), .slice (some b1) l1.length c1, undef, undef, .pointer (some ⟨w.heap.size, 2, none⟩), .slice (some b2) l2.length c2, undef, undef, .pointer (some ⟨w.heap.size, 3, none⟩), undef, undef, undef], defers := [] } W0.drew
  refine wpAnyH_take (i := 14) (oi := { dst := some 17, op := Op.load 26 (Operand.tmp 16), type := 26, pos := "l01_asn.go:137", after := #[{ on := 13, ground := Ground.data }], guard := none }) (v := .slice (some b3) l3.length c3) rfl (by kernel_rfl) (by kernel_rfl) (by kernel_rfl) (fun _ _ _ h => h) (Or.inl ⟨by rfl, ?_⟩) hS0 ?_
  · intro W hSw; unfold ownS at hSw; obtain ⟨-, -, s0, s1, s2, s3⟩ := hSw; go_simp
  show wpAnyH Try.prog .any ownOps _ (ownS w (.slice (some b0) l0.length c0) (.slice (some b1) l1.length c1) (.slice (some b2) l2.length c2) (.slice (some b3) l3.length c3)) 10 #[false, true, true, false, false, true, true, false, false, true, true, false, false, true, true, false, false, false] { tmps := #[.agg #[.slice (some b0) l0.length c0, .slice (some b1) l1.length c1, .slice (some b2) l2.length c2, .slice (some b3) l3.length c3], .pointer (some ⟨w.heap.size, 0, none⟩), .pointer (some ⟨w.heap.size + 1, 0, none⟩), undef, .pointer (some ⟨w.heap.size, 0, none⟩), .slice (some b0) l0.length c0, undef, undef, .pointer (some ⟨w.heap.size, 1, none⟩), .slice (some b1) l1.length c1, undef, undef, .pointer (some ⟨w.heap.size, 2, none⟩), .slice (some b2) l2.length c2, undef, undef, .pointer (some ⟨w.heap.size, 3, none⟩), .slice (some b3) l3.length c3, undef, undef], defers := [] } W0.drew
  refine ownp_nd0_n n0 n1 n2 n3 o0 o1 o2 o3 ?_ _ hS0
  intro W hS z0 z1 z2 z3 a0 e0 m1 t0 g1 k1 a1 e1 m2 t1 g2 k2 a2 e2 m3 t2 g3 k3 a3 e3 m4 t3 g4 k4
  obtain ⟨F, FO⟩ := Own.fill hS.2.1 (.slice a0 l0.length e0) (.slice a1 l1.length e1) (.slice a2 l2.length e2) (.slice a3 l3.length e3)
  have hz := FO.size
  have hB := hS.1
  have q0 := t0.out FO (by omega); have q1 := t1.out FO (by omega); have q2 := t2.out FO (by omega); have q3 := t3.out FO (by omega)
  clear hS
  go_wp2
  have i0 := F.c0; have i1 := F.c1; have i2 := F.c2; have i3 := F.c3
  refine bodyPost_ret (v := .agg #[.slice a0 l0.length e0, .slice a1 l1.length e1, .slice a2 l2.length e2, .slice a3 l3.length e3]) ?_ rfl ⟨a0, a1, a2, a3, e0, e1, e2, e3, m1, m2, m3, m4, rfl, ?_, ?_, ?_, ?_, k1, k2, k3, k4, ?_, ?_⟩
  · simp [results, Try.results132, go_sem, i0, i1, i2, i3]
  · exact q0
  · exact q1
  · exact q2
  · exact q3
  · omega
  · exact hB.trans (FO.below (by omega) hB.size)

end Go.Proofs.Ytldhbooginlcpaa
