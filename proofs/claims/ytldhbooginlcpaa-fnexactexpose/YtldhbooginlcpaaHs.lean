/-
  The contracts of Heads.
-/
import Derived.Test.YtldhbooginlcpaaHd
import Derived.Test.YtldhbooginlcpaaAl
namespace Go.Proofs.Ytldhbooginlcpaa
open Go.RowKit
def headsA (l0 l1 l2 l3 : List (Int × Int)) : List Int := if asnB l0 l1 l2 l3 = true then headsV (clsV l0) l2 l3 else []
theorem headsA_le (l0 l1 l2 l3 : List (Int × Int)) : (headsA l0 l1 l2 l3).length ≤ 1048576 := by
  unfold headsA
  split
  · rename_i h
    unfold asnB at h
    simp only [Bool.and_eq_true, decide_eq_true_eq] at h
    unfold headsV
    rw [List.length_append, headsOf_len, headsOf_len]
    omega
  · exact Nat.zero_le _
theorem keepB {q : Nat} {y0 y1 y2 y3 : Value} {w w1 w2 : World}
    (h : Below w.heap.size w w1 ∧ w1.cell? ⟨q, 0, none⟩ = some y0 ∧ w1.cell? ⟨q, 1, none⟩ = some y1 ∧ w1.cell? ⟨q, 2, none⟩ = some y2 ∧ w1.cell? ⟨q, 3, none⟩ = some y3)
    (hb : Below w1.heap.size w1 w2) (h2 : q < w1.heap.size) :
    Below w.heap.size w w2 ∧ w2.cell? ⟨q, 0, none⟩ = some y0 ∧ w2.cell? ⟨q, 1, none⟩ = some y1 ∧ w2.cell? ⟨q, 2, none⟩ = some y2 ∧ w2.cell? ⟨q, 3, none⟩ = some y3 := by
  obtain ⟨a1, a2, a3, a4, a5⟩ := h
  refine ⟨a1.trans (hb.mono a1.size), ?_, ?_, ?_, ?_⟩
  · rw [hb.cell (p := ⟨q, _, none⟩) h2]; exact a2
  · rw [hb.cell (p := ⟨q, _, none⟩) h2]; exact a3
  · rw [hb.cell (p := ⟨q, _, none⟩) h2]; exact a4
  · rw [hb.cell (p := ⟨q, _, none⟩) h2]; exact a5

set_option maxRecDepth 3000 in
set_option maxHeartbeats 1000000 in
theorem sHeads_any (a0 a1 a2 a3 : Option Addr) (c0 c1 c2 c3 : Nat) (l0 l1 l2 l3 : List (Int × Int)) (w : World)
    (n0 : l0.length ≤ 1048576) (n1 : l1.length ≤ 1048576) (n2 : l2.length ≤ 1048576) (n3 : l3.length ≤ 1048576)
    (r0 : PRow w a0 l0) (r1 : PRow w a1 l1) (r2 : PRow w a2 l2) (r3 : PRow w a3 l3) :
    Calls Try.prog 64 #[.agg #[.slice a0 l0.length c0, .slice a1 l1.length c1, .slice a2 l2.length c2, .slice a3 l3.length c3]] w fun e w' => ∃ a cq, e = .returned (.slice a (headsA l0 l1 l2 l3).length cq) ∧ IntIn w' w.heap.size w'.heap.size a (headsA l0 l1 l2 l3).length (headsA l0 l1 l2 l3) ∧ Below w.heap.size w w' := by
  have B0 := Box.new w (.slice a0 l0.length c0) (.slice a1 l1.length c1) (.slice a2 l2.length c2) (.slice a3 l3.length c3) 28
  have L0 : Below w.heap.size w (w.alloc (.cells #[.slice a0 l0.length c0, .slice a1 l1.length c1, .slice a2 l2.length c2, .slice a3 l3.length c3] 28)) := (Below.refl _ _).alloc (Nat.le_refl _) _
  go_enter Try.func64, Try.ntmps64
  go_wp2_with fail
  refine (sAsnOk_any _ _ _ _ _ _ _ _ _ _ _ _ _ n0 n1 n2 n3 (by exact r0.below L0 (Nat.le_refl _)) (by exact r1.below L0 (Nat.le_refl _)) (by exact r2.below L0 (Nat.le_refl _)) (by exact r3.below L0 (Nat.le_refl _))).mono ?_
  rintro e w1 ⟨rfl, hb⟩
  have B1 := B0.below hb B0.lt; have L1 := L0.trans (hb.mono L0.size)
  clear hb B0 L0
  cases ha : asnB l0 l1 l2 l3
  · have HE : Hid (headsA l0 l1 l2 l3 = []) := by unfold Hid headsA; rw [ha]; rfl
    go_wp2
    go_ret
    rw [HE.out]
    exact ⟨none, 0, rfl, ⟨rfl, .inl rfl⟩, L1⟩
  have HE : Hid (headsA l0 l1 l2 l3 = headsV (clsV l0) l2 l3) := by unfold Hid headsA; rw [ha]; rfl
  have ht := asnB_tokA ha
  have HC := (Cls.all ht.1).1
  replace HC : Hid ((clsV l0).length = 16) := HC
  clear ha
  have x0 := B1.c0; have x1 := B1.c1; have x2 := B1.c2; have x3 := B1.c3
  go_wp2_with fail
  have hS0 : Below w.heap.size w w1.drew ∧ w1.drew.cell? ⟨w.heap.size, 0, none⟩ = some (.slice a0 l0.length c0) ∧ w1.drew.cell? ⟨w.heap.size, 1, none⟩ = some (.slice a1 l1.length c1) ∧ w1.drew.cell? ⟨w.heap.size, 2, none⟩ = some (.slice a2 l2.length c2) ∧ w1.drew.cell? ⟨w.heap.size, 3, none⟩ = some (.slice a3 l3.length c3) := ⟨L1.drew, x0, x1, x2, x3⟩
  have hq := B1.lt
  clear B1 x0 x1 x2 x3
  go_region_held3 (fun w' => Below w.heap.size w w' ∧ w'.cell? ⟨w.heap.size, 0, none⟩ = some (.slice a0 l0.length c0) ∧ w'.cell? ⟨w.heap.size, 1, none⟩ = some (.slice a1 l1.length c1) ∧ w'.cell? ⟨w.heap.size, 2, none⟩ = some (.slice a2 l2.length c2) ∧ w'.cell? ⟨w.heap.size, 3, none⟩ = some (.slice a3 l3.length c3))
    (first | exact hS0 | assumption | (refine ⟨?_, ?_, ?_, ?_, ?_⟩ <;> assumption))
    (first
      | (go_at_call 133; refine (l3classes_any _ _ _ _ _ _ _ _ _ _ _ _ _ n0 ht.1 (r0.below hS0.1 (Nat.le_refl _))).mono ?_; rintro e u0 ⟨b, cp, rfl, hbb, O, h0⟩; have k0 := keepB hS0 h0 (by simpa using hq))
      | (go_at_call 145; refine (l3heads_any _ _ _ _ _ _ _ _ _ _ _ _ b cp (clsV l0) HC.out _ n2 n3 ht.2.2.1 ht.2.2.2 (r2.below k0.1 (Nat.le_refl _)) (r3.below k0.1 (Nat.le_refl _)) O).mono ?_; rintro e u1 ⟨ag, cg, rfl, G, h1⟩; have k1 := keepB k0 h1 (by have := h0.size; simp at this; omega)))
  all_goals
    have s0 := k0.1.size
    go_wp2
    go_ret
    rw [HE.out]
    exact ⟨ag, cg, rfl, G.mono s0 (Nat.le_refl _), k1.1⟩

set_option maxRecDepth 3000 in
set_option maxHeartbeats 1000000 in
theorem iHeads_any (a0 a1 a2 a3 : Option Addr) (c0 c1 c2 c3 : Nat) (l0 l1 l2 l3 : List (Int × Int)) (w : World)
    (n0 : l0.length ≤ 1048576) (n1 : l1.length ≤ 1048576) (n2 : l2.length ≤ 1048576) (n3 : l3.length ≤ 1048576)
    (r0 : PRow w a0 l0) (r1 : PRow w a1 l1) (r2 : PRow w a2 l2) (r3 : PRow w a3 l3) :
    Calls Try.prog 65 #[.agg #[.slice a0 l0.length c0, .slice a1 l1.length c1, .slice a2 l2.length c2, .slice a3 l3.length c3]] w fun e w' => ∃ a cq, e = .returned (.slice a (headsA l0 l1 l2 l3).length cq) ∧ IntIn w' w.heap.size w'.heap.size a (headsA l0 l1 l2 l3).length (headsA l0 l1 l2 l3) ∧ Below w.heap.size w w' := by
  have B0 := Box.new w (.slice a0 l0.length c0) (.slice a1 l1.length c1) (.slice a2 l2.length c2) (.slice a3 l3.length c3) 28
  have L0 : Below w.heap.size w (w.alloc (.cells #[.slice a0 l0.length c0, .slice a1 l1.length c1, .slice a2 l2.length c2, .slice a3 l3.length c3] 28)) := (Below.refl _ _).alloc (Nat.le_refl _) _
  go_enter Try.func65, Try.ntmps65
  go_wp2_with fail
  refine (iAsnOk_any _ _ _ _ _ _ _ _ _ _ _ _ _ n0 n1 n2 n3 (by exact r0.below L0 (Nat.le_refl _)) (by exact r1.below L0 (Nat.le_refl _)) (by exact r2.below L0 (Nat.le_refl _)) (by exact r3.below L0 (Nat.le_refl _))).mono ?_
  rintro e w1 ⟨rfl, hb⟩
  have B1 := B0.below hb B0.lt; have L1 := L0.trans (hb.mono L0.size)
  clear hb B0 L0
  cases ha : asnB l0 l1 l2 l3
  · have HE : Hid (headsA l0 l1 l2 l3 = []) := by unfold Hid headsA; rw [ha]; rfl
    go_wp2
    go_ret
    rw [HE.out]
    exact ⟨none, 0, rfl, ⟨rfl, .inl rfl⟩, L1⟩
  have HE : Hid (headsA l0 l1 l2 l3 = headsV (clsV l0) l2 l3) := by unfold Hid headsA; rw [ha]; rfl
  have ht := asnB_tokA ha
  have HC := (Cls.all ht.1).1
  replace HC : Hid ((clsV l0).length = 16) := HC
  clear ha
  have x0 := B1.c0; have x1 := B1.c1; have x2 := B1.c2; have x3 := B1.c3
  go_wp2_with fail
  have hS0 : Below w.heap.size w w1.drew ∧ w1.drew.cell? ⟨w.heap.size, 0, none⟩ = some (.slice a0 l0.length c0) ∧ w1.drew.cell? ⟨w.heap.size, 1, none⟩ = some (.slice a1 l1.length c1) ∧ w1.drew.cell? ⟨w.heap.size, 2, none⟩ = some (.slice a2 l2.length c2) ∧ w1.drew.cell? ⟨w.heap.size, 3, none⟩ = some (.slice a3 l3.length c3) := ⟨L1.drew, x0, x1, x2, x3⟩
  have hq := B1.lt
  clear B1 x0 x1 x2 x3
  go_region_held3 (fun w' => Below w.heap.size w w' ∧ w'.cell? ⟨w.heap.size, 0, none⟩ = some (.slice a0 l0.length c0) ∧ w'.cell? ⟨w.heap.size, 1, none⟩ = some (.slice a1 l1.length c1) ∧ w'.cell? ⟨w.heap.size, 2, none⟩ = some (.slice a2 l2.length c2) ∧ w'.cell? ⟨w.heap.size, 3, none⟩ = some (.slice a3 l3.length c3))
    (first | exact hS0 | assumption | (refine ⟨?_, ?_, ?_, ?_, ?_⟩ <;> assumption))
    (first
      | (go_at_call 134; refine (classesOf_any _ _ _ _ _ _ _ _ _ _ _ _ _ n0 ht.1 (r0.below hS0.1 (Nat.le_refl _))).mono ?_; rintro e u0 ⟨rfl, h0⟩; have k0 := keepB hS0 h0 (by simpa using hq))
      | (go_at_call 141; refine (heads_any _ _ _ _ _ _ _ _ _ _ _ _ (clsV l0) HC.out _ n2 n3 ht.2.2.1 ht.2.2.2 (r2.below k0.1 (Nat.le_refl _)) (r3.below k0.1 (Nat.le_refl _))).mono ?_; rintro e u1 ⟨ag, cg, rfl, G, h1⟩; have k1 := keepB k0 h1 (by have := h0.size; simp at this; omega)))
  all_goals
    have s0 := k0.1.size
    go_wp2
    go_ret
    rw [HE.out]
    exact ⟨ag, cg, rfl, G.mono s0 (Nat.le_refl _), k1.1⟩
end Go.Proofs.Ytldhbooginlcpaa
