/-
  Plain lemmas and contracts of functions for the other texts of this seat: Os, St, Ci, Xi.
-/
import Derived.Test.YtphchdjbhbmnbaaGaj
import Derived.Test.YtphchdjbhbmnbaaGai
import Derived.Test.YtphchdjbhbmnbaaGac
import Derived.Maps.OwnSet
import Derived.Maps.OwnOps
import Derived.Maps.RangeWalk
import Derived.Maps.Ext
namespace Go.Proofs.Ytphchdjbhbmnbaa
open Go.RowKit
def openA (l0 l1 l2 l3 : List (Int × Int)) : Bool := asnB l0 l1 l2 l3 && openV (clsV l0) l1 l3

set_option linter.unusedSimpArgs false in
set_option maxRecDepth 3000 in
set_option maxHeartbeats 1000000 in
theorem sOpened_any (a0 a1 a2 a3 : Option Addr) (c0 c1 c2 c3 : Nat) (l0 l1 l2 l3 : List (Int × Int)) (w : World)
    (n0 : l0.length ≤ 1048576) (n1 : l1.length ≤ 1048576) (n2 : l2.length ≤ 1048576) (n3 : l3.length ≤ 1048576)
    (r0 : PRow w a0 l0) (r1 : PRow w a1 l1) (r2 : PRow w a2 l2) (r3 : PRow w a3 l3) :
    Calls Try.prog 74 #[.agg #[.slice a0 l0.length c0, .slice a1 l1.length c1, .slice a2 l2.length c2, .slice a3 l3.length c3]] w fun e w' => e = .returned (.bool (openA l0 l1 l2 l3)) ∧ Below w.heap.size w w' := by
  have B0 := Box.new w (.slice a0 l0.length c0) (.slice a1 l1.length c1) (.slice a2 l2.length c2) (.slice a3 l3.length c3) 28
  have L0 : Below w.heap.size w (w.alloc (.cells #[.slice a0 l0.length c0, .slice a1 l1.length c1, .slice a2 l2.length c2, .slice a3 l3.length c3] 28)) := (Below.refl _ _).alloc (Nat.le_refl _) _
  have x0 := B0.c0; have x1 := B0.c1; have x2 := B0.c2; have x3 := B0.c3
  have hq := B0.lt
  go_enter Try.func74, Try.ntmps74
  go_wp2_with fail
  have hS0 : Below w.heap.size w (w.alloc (.cells #[.slice a0 l0.length c0, .slice a1 l1.length c1, .slice a2 l2.length c2, .slice a3 l3.length c3] 28)).drew ∧ (w.alloc (.cells #[.slice a0 l0.length c0, .slice a1 l1.length c1, .slice a2 l2.length c2, .slice a3 l3.length c3] 28)).drew.cell? ⟨w.heap.size, 0, none⟩ = some (.slice a0 l0.length c0) ∧ (w.alloc (.cells #[.slice a0 l0.length c0, .slice a1 l1.length c1, .slice a2 l2.length c2, .slice a3 l3.length c3] 28)).drew.cell? ⟨w.heap.size, 1, none⟩ = some (.slice a1 l1.length c1) ∧ (w.alloc (.cells #[.slice a0 l0.length c0, .slice a1 l1.length c1, .slice a2 l2.length c2, .slice a3 l3.length c3] 28)).drew.cell? ⟨w.heap.size, 2, none⟩ = some (.slice a2 l2.length c2) ∧ (w.alloc (.cells #[.slice a0 l0.length c0, .slice a1 l1.length c1, .slice a2 l2.length c2, .slice a3 l3.length c3] 28)).drew.cell? ⟨w.heap.size, 3, none⟩ = some (.slice a3 l3.length c3) := ⟨L0.drew, x0, x1, x2, x3⟩
  clear B0 L0 x0 x1 x2 x3
  generalize w.alloc (.cells #[.slice a0 l0.length c0, .slice a1 l1.length c1, .slice a2 l2.length c2, .slice a3 l3.length c3] 28) = W at *
  cases ha : asnB l0 l1 l2 l3
  · have HE : Hid (openA l0 l1 l2 l3 = false) := by unfold Hid openA; rw [ha]; rfl
    obtain ⟨L1, x0, x1, x2, x3⟩ := hS0
    have hq3 : w.heap.size < W.drew.heap.size := hq
    refine wp_region_held_drew (S := fun _ => True) (by kernel_rfl) trivial (fun _ => ?_)
    generalize W.drew = W3 at *
    refine wpAnyH_ready (rs := [0]) (by kernel_rfl) (by simp) ?_
    refine AllReadyH.cons rfl (fun K hK => ?_) AllReadyH.nil
    rw [if_pos (by rfl)]
    go_simp
    refine hK.out _ _ trivial (fun _ => ?_)
    clear hK K
    refine wpAnyH_ready (rs := [1]) (by kernel_rfl) (by simp) ?_
    refine AllReadyH.cons rfl (fun K hK => ?_) AllReadyH.nil
    rw [if_pos (by rfl)]
    go_simp
    refine (sAsnOk_any _ _ _ _ _ _ _ _ _ _ _ _ _ n0 n1 n2 n3 (r0.below L1 (Nat.le_refl _)) (r1.below L1 (Nat.le_refl _)) (r2.below L1 (Nat.le_refl _)) (r3.below L1 (Nat.le_refl _))).mono ?_
    rintro e v0 ⟨rfl, g0⟩
    rw [ha]
    have L2 := L1.trans (g0.mono L1.size)
    clear g0 x0 x1 x2 x3 L1
    refine hK.out _ _ trivial (fun _ => ?_)
    clear hK K
    refine wpAnyH_ready (rs := [2]) (by kernel_rfl) (by simp) ?_
    refine AllReadyH.cons rfl (fun K hK => ?_) AllReadyH.nil
    rw [if_pos (by rfl)]
    go_simp
    refine hK.out _ _ trivial (fun _ => ?_)
    clear hK K
    refine wpAnyH_take (i := 3) (v := undef) rfl (by kernel_rfl) (by kernel_rfl) (by kernel_rfl) (fun _ _ _ h => h) (Or.inr ⟨by rfl, rfl⟩) trivial ?_
    simp only [Act.put, List.setIfInBounds_toArray, List.set_cons_zero, List.set_cons_succ]
    refine wpAnyH_take (i := 4) (v := undef) rfl (by kernel_rfl) (by kernel_rfl) (by kernel_rfl) (fun _ _ _ h => h) (Or.inr ⟨by rfl, rfl⟩) trivial ?_
    simp only [Act.put, List.setIfInBounds_toArray, List.set_cons_zero, List.set_cons_succ]
    refine wpAnyH_take (i := 5) (v := undef) rfl (by kernel_rfl) (by kernel_rfl) (by kernel_rfl) (fun _ _ _ h => h) (Or.inr ⟨by rfl, rfl⟩) trivial ?_
    simp only [Act.put, List.setIfInBounds_toArray, List.set_cons_zero, List.set_cons_succ]
    refine wpAnyH_take (i := 6) (v := undef) rfl (by kernel_rfl) (by kernel_rfl) (by kernel_rfl) (fun _ _ _ h => h) (Or.inr ⟨by rfl, rfl⟩) trivial ?_
    simp only [Act.put, List.setIfInBounds_toArray, List.set_cons_zero, List.set_cons_succ]
    refine wpAnyH_ready (rs := [7]) (by kernel_rfl) (by simp) ?_
    refine AllReadyH.cons rfl (fun K hK => ?_) AllReadyH.nil
    rw [if_pos (by rfl)]
    go_simp
    refine hK.out _ _ trivial (fun _ => ?_)
    clear hK K
    refine wpAnyH_ready (rs := [8]) (by kernel_rfl) (by simp) ?_
    refine AllReadyH.cons rfl (fun K hK => ?_) AllReadyH.nil
    rw [if_pos (by rfl)]
    go_simp
    refine hK.out _ _ trivial (fun _ => ?_)
    clear hK K
    refine wpAnyH_done (by kernel_rfl) ?_ _
    go_wp2
    go_ret
    exact ⟨by rw [HE.out]; rfl, L2⟩
  · have HE : Hid (openA l0 l1 l2 l3 = openV (clsV l0) l1 l3) := by unfold Hid openA; rw [ha]; rfl
    have ht := asnB_tokA ha
    have HC : Hid (Cls (clsV l0)) := Cls.all ht.1
    go_region_held3 (fun w' => Below w.heap.size w w' ∧ w'.cell? ⟨w.heap.size, 0, none⟩ = some (.slice a0 l0.length c0) ∧ w'.cell? ⟨w.heap.size, 1, none⟩ = some (.slice a1 l1.length c1) ∧ w'.cell? ⟨w.heap.size, 2, none⟩ = some (.slice a2 l2.length c2) ∧ w'.cell? ⟨w.heap.size, 3, none⟩ = some (.slice a3 l3.length c3))
      (first | exact hS0 | assumption | (refine ⟨?_, ?_, ?_, ?_, ?_⟩ <;> assumption))
      (first
        | (go_at_call 129; refine (sAsnOk_any _ _ _ _ _ _ _ _ _ _ _ _ _ n0 n1 n2 n3 (r0.below hS0.1 (Nat.le_refl _)) (r1.below hS0.1 (Nat.le_refl _)) (r2.below hS0.1 (Nat.le_refl _)) (r3.below hS0.1 (Nat.le_refl _))).mono ?_; rintro e v0 ⟨rfl, g0⟩; rw [ha]; have k0 := keepB hS0 g0 (by simpa using hq))
        | (go_at_call 151; refine (l3classes_any _ _ _ _ _ _ _ _ _ _ _ _ _ n0 ht.1 (r0.below k0.1 (Nat.le_refl _))).mono ?_; rintro e v1 ⟨b, cp, rfl, hbb, O, g1⟩; have k1 := keepB k0 g1 (by have s1 := g0.size; have s3 : W.drew.heap.size = W.heap.size := rfl; omega))
        | (go_at_call 154; refine (l3opened_any _ _ _ _ _ _ _ _ _ _ _ _ b cp (clsV l0) HC.out _ n1 n3 ht.2.1 ht.2.2.2 (r1.below k1.1 (Nat.le_refl _)) (r3.below k1.1 (Nat.le_refl _)) O).mono ?_; rintro e v2 ⟨rfl, g2⟩; have k2 := keepB k1 g2 (by have s1 := g0.size; have s2 := g1.size; have s3 : W.drew.heap.size = W.heap.size := rfl; omega)))
    all_goals
      go_wp2
      go_ret
      exact ⟨by rw [HE.out]; rfl, k2.1⟩


set_option linter.unusedSimpArgs false in
set_option maxRecDepth 3000 in
set_option maxHeartbeats 1000000 in
theorem iOpened_any (a0 a1 a2 a3 : Option Addr) (c0 c1 c2 c3 : Nat) (l0 l1 l2 l3 : List (Int × Int)) (w : World)
    (n0 : l0.length ≤ 1048576) (n1 : l1.length ≤ 1048576) (n2 : l2.length ≤ 1048576) (n3 : l3.length ≤ 1048576)
    (r0 : PRow w a0 l0) (r1 : PRow w a1 l1) (r2 : PRow w a2 l2) (r3 : PRow w a3 l3) :
    Calls Try.prog 75 #[.agg #[.slice a0 l0.length c0, .slice a1 l1.length c1, .slice a2 l2.length c2, .slice a3 l3.length c3]] w fun e w' => e = .returned (.bool (openA l0 l1 l2 l3)) ∧ Below w.heap.size w w' := by
  have B0 := Box.new w (.slice a0 l0.length c0) (.slice a1 l1.length c1) (.slice a2 l2.length c2) (.slice a3 l3.length c3) 28
  have L0 : Below w.heap.size w (w.alloc (.cells #[.slice a0 l0.length c0, .slice a1 l1.length c1, .slice a2 l2.length c2, .slice a3 l3.length c3] 28)) := (Below.refl _ _).alloc (Nat.le_refl _) _
  have x0 := B0.c0; have x1 := B0.c1; have x2 := B0.c2; have x3 := B0.c3
  have hq := B0.lt
  go_enter Try.func75, Try.ntmps75
  go_wp2_with fail
  have hS0 : Below w.heap.size w (w.alloc (.cells #[.slice a0 l0.length c0, .slice a1 l1.length c1, .slice a2 l2.length c2, .slice a3 l3.length c3] 28)).drew ∧ (w.alloc (.cells #[.slice a0 l0.length c0, .slice a1 l1.length c1, .slice a2 l2.length c2, .slice a3 l3.length c3] 28)).drew.cell? ⟨w.heap.size, 0, none⟩ = some (.slice a0 l0.length c0) ∧ (w.alloc (.cells #[.slice a0 l0.length c0, .slice a1 l1.length c1, .slice a2 l2.length c2, .slice a3 l3.length c3] 28)).drew.cell? ⟨w.heap.size, 1, none⟩ = some (.slice a1 l1.length c1) ∧ (w.alloc (.cells #[.slice a0 l0.length c0, .slice a1 l1.length c1, .slice a2 l2.length c2, .slice a3 l3.length c3] 28)).drew.cell? ⟨w.heap.size, 2, none⟩ = some (.slice a2 l2.length c2) ∧ (w.alloc (.cells #[.slice a0 l0.length c0, .slice a1 l1.length c1, .slice a2 l2.length c2, .slice a3 l3.length c3] 28)).drew.cell? ⟨w.heap.size, 3, none⟩ = some (.slice a3 l3.length c3) := ⟨L0.drew, x0, x1, x2, x3⟩
  clear B0 L0 x0 x1 x2 x3
  generalize w.alloc (.cells #[.slice a0 l0.length c0, .slice a1 l1.length c1, .slice a2 l2.length c2, .slice a3 l3.length c3] 28) = W at *
  cases ha : asnB l0 l1 l2 l3
  · have HE : Hid (openA l0 l1 l2 l3 = false) := by unfold Hid openA; rw [ha]; rfl
    obtain ⟨L1, x0, x1, x2, x3⟩ := hS0
    have hq3 : w.heap.size < W.drew.heap.size := hq
    refine wp_region_held_drew (S := fun _ => True) (by kernel_rfl) trivial (fun _ => ?_)
    generalize W.drew = W3 at *
    refine wpAnyH_ready (rs := [0]) (by kernel_rfl) (by simp) ?_
    refine AllReadyH.cons rfl (fun K hK => ?_) AllReadyH.nil
    rw [if_pos (by rfl)]
    go_simp
    refine hK.out _ _ trivial (fun _ => ?_)
    clear hK K
    refine wpAnyH_ready (rs := [1]) (by kernel_rfl) (by simp) ?_
    refine AllReadyH.cons rfl (fun K hK => ?_) AllReadyH.nil
    rw [if_pos (by rfl)]
    go_simp
    refine (iAsnOk_any _ _ _ _ _ _ _ _ _ _ _ _ _ n0 n1 n2 n3 (r0.below L1 (Nat.le_refl _)) (r1.below L1 (Nat.le_refl _)) (r2.below L1 (Nat.le_refl _)) (r3.below L1 (Nat.le_refl _))).mono ?_
    rintro e v0 ⟨rfl, g0⟩
    rw [ha]
    have L2 := L1.trans (g0.mono L1.size)
    clear g0 x0 x1 x2 x3 L1
    refine hK.out _ _ trivial (fun _ => ?_)
    clear hK K
    refine wpAnyH_ready (rs := [2]) (by kernel_rfl) (by simp) ?_
    refine AllReadyH.cons rfl (fun K hK => ?_) AllReadyH.nil
    rw [if_pos (by rfl)]
    go_simp
    refine hK.out _ _ trivial (fun _ => ?_)
    clear hK K
    refine wpAnyH_take (i := 3) (v := undef) rfl (by kernel_rfl) (by kernel_rfl) (by kernel_rfl) (fun _ _ _ h => h) (Or.inr ⟨by rfl, rfl⟩) trivial ?_
    simp only [Act.put, List.setIfInBounds_toArray, List.set_cons_zero, List.set_cons_succ]
    refine wpAnyH_take (i := 4) (v := undef) rfl (by kernel_rfl) (by kernel_rfl) (by kernel_rfl) (fun _ _ _ h => h) (Or.inr ⟨by rfl, rfl⟩) trivial ?_
    simp only [Act.put, List.setIfInBounds_toArray, List.set_cons_zero, List.set_cons_succ]
    refine wpAnyH_take (i := 5) (v := undef) rfl (by kernel_rfl) (by kernel_rfl) (by kernel_rfl) (fun _ _ _ h => h) (Or.inr ⟨by rfl, rfl⟩) trivial ?_
    simp only [Act.put, List.setIfInBounds_toArray, List.set_cons_zero, List.set_cons_succ]
    refine wpAnyH_take (i := 6) (v := undef) rfl (by kernel_rfl) (by kernel_rfl) (by kernel_rfl) (fun _ _ _ h => h) (Or.inr ⟨by rfl, rfl⟩) trivial ?_
    simp only [Act.put, List.setIfInBounds_toArray, List.set_cons_zero, List.set_cons_succ]
    refine wpAnyH_ready (rs := [7]) (by kernel_rfl) (by simp) ?_
    refine AllReadyH.cons rfl (fun K hK => ?_) AllReadyH.nil
    rw [if_pos (by rfl)]
    go_simp
    refine hK.out _ _ trivial (fun _ => ?_)
    clear hK K
    refine wpAnyH_ready (rs := [8]) (by kernel_rfl) (by simp) ?_
    refine AllReadyH.cons rfl (fun K hK => ?_) AllReadyH.nil
    rw [if_pos (by rfl)]
    go_simp
    refine hK.out _ _ trivial (fun _ => ?_)
    clear hK K
    refine wpAnyH_done (by kernel_rfl) ?_ _
    go_wp2
    go_ret
    exact ⟨by rw [HE.out]; rfl, L2⟩
  · have HE : Hid (openA l0 l1 l2 l3 = openV (clsV l0) l1 l3) := by unfold Hid openA; rw [ha]; rfl
    have ht := asnB_tokA ha
    have HC : Hid (Cls (clsV l0)) := Cls.all ht.1
    go_region_held3 (fun w' => Below w.heap.size w w' ∧ w'.cell? ⟨w.heap.size, 0, none⟩ = some (.slice a0 l0.length c0) ∧ w'.cell? ⟨w.heap.size, 1, none⟩ = some (.slice a1 l1.length c1) ∧ w'.cell? ⟨w.heap.size, 2, none⟩ = some (.slice a2 l2.length c2) ∧ w'.cell? ⟨w.heap.size, 3, none⟩ = some (.slice a3 l3.length c3))
      (first | exact hS0 | assumption | (refine ⟨?_, ?_, ?_, ?_, ?_⟩ <;> assumption))
      (first
        | (go_at_call 133; refine (iAsnOk_any _ _ _ _ _ _ _ _ _ _ _ _ _ n0 n1 n2 n3 (r0.below hS0.1 (Nat.le_refl _)) (r1.below hS0.1 (Nat.le_refl _)) (r2.below hS0.1 (Nat.le_refl _)) (r3.below hS0.1 (Nat.le_refl _))).mono ?_; rintro e v0 ⟨rfl, g0⟩; rw [ha]; have k0 := keepB hS0 g0 (by simpa using hq))
        | (go_at_call 152; refine (classesOf_any _ _ _ _ _ _ _ _ _ _ _ _ _ n0 ht.1 (r0.below k0.1 (Nat.le_refl _))).mono ?_; rintro e v1 ⟨rfl, g1⟩; have k1 := keepB k0 g1 (by have s1 := g0.size; have s3 : W.drew.heap.size = W.heap.size := rfl; omega))
        | (go_at_call 167; refine (opens_any _ _ _ _ _ _ _ _ _ _ _ _ (clsV l0) HC.out _ n1 n3 ht.2.1 ht.2.2.2 (r1.below k1.1 (Nat.le_refl _)) (r3.below k1.1 (Nat.le_refl _))).mono ?_; rintro e v2 ⟨rfl, g2⟩; have k2 := keepB k1 g2 (by have s1 := g0.size; have s2 := g1.size; have s3 : W.drew.heap.size = W.heap.size := rfl; omega)))
    all_goals
      go_wp2
      go_ret
      exact ⟨by rw [HE.out]; rfl, k2.1⟩

end Go.Proofs.Ytphchdjbhbmnbaa
namespace Go.Proofs.Ytphchdjbhbmnbaa
open Go.RowKit Go.Maps
theorem law3 : Keyed Try.prog 3 := int_keyed Try.underlying3
theorem zero3 (w : World) : (zeroValue 3).run Try.prog w = .ok (.int .i64 0) w := by kernel_rfl
theorem zero96 (w : World) : (zeroValue 153).run Try.prog w = .ok (.agg #[]) w := by kernel_rfl
abbrev ik (x : Int) : Lit := .int .i64 x
theorem ik_key (x : Int) : WideAt.IsKeyLit (ik x) := trivial
theorem ik_ne {x y : Int} (h : x ≠ y) : ik x ≠ ik y := fun e => h (by injection e)
/-- The set of integers in block b of w (at most N entries) has those of p, and nothing else. -/
def HS (w : World) (b N : Nat) (p : Int → Bool) : Prop :=
  ∃ D, w.ownsMap (H := Unit) Try.prog 3 unitElem b N D ∧ ∀ x, Maps.has D (ik x) = p x
theorem owns_block {H : Type} {w w' : World} {k b n : Nat} {R : Value → Option (DataW H × List MemPlace)} {D : DataW H} (h : w.ownsMap Try.prog k R b n D) (e : w'.heap[b]? = w.heap[b]?) : w'.ownsMap Try.prog k R b n D := by
  obtain ⟨es, clock, hb, F, hs, hD⟩ := h
  exact ⟨es, clock, e.trans hb, F, hs, hD⟩
theorem HS.lt {w : World} {b N : Nat} {p : Int → Bool} (h : HS w b N p) : b < w.heap.size := h.choose_spec.1.lt
theorem HS.block {w w' : World} {b N : Nat} {p : Int → Bool} (h : HS w b N p) (e : w'.heap[b]? = w.heap[b]?) : HS w' b N p := by
  obtain ⟨D, ho, hf⟩ := h
  exact ⟨D, owns_block ho e, hf⟩
theorem HS.below {w w' : World} {b N B : Nat} {p : Int → Bool} (h : HS w b N p) (hb : Below B w w') (hB : b < B) : HS w' b N p := h.block (hb.block b hB)
theorem HS.keep {w w' : World} {b N : Nat} {p : Int → Bool} (h : HS w b N p) (hb : Below w.heap.size w w') : HS w' b N p := h.below hb h.lt
theorem HS.out {lo hi : Nat} {w w' : World} {b N : Nat} {p : Int → Bool} (h : HS w b N p) (ho : Out lo hi w w') (hr : b < lo ∨ hi ≤ b) : HS w' b N p := h.block (ho.block b h.lt hr)
theorem HS.alloc {w : World} {b N : Nat} {p : Int → Bool} (h : HS w b N p) (o : Obj) : HS (w.alloc o) b N p := h.keep ((Below.refl _ _).alloc (Nat.le_refl _) o)
theorem HS.mono {w : World} {b N M : Nat} {p : Int → Bool} (h : HS w b N p) (hm : N ≤ M) : HS w b M p := by
  obtain ⟨D, ho, hf⟩ := h
  exact ⟨D, ho.mono hm, hf⟩
theorem HS.made (w : World) : HS (w.alloc (.map #[] 0)) w.heap.size 0 (fun _ => false) :=
  ⟨.map [], World.ownsMap_made _ _ _ _, fun _ => rfl⟩
theorem grown_out {w w' : World} {b : Nat} (h : w.grownBy w' (some b)) : Out b (b + 1) w w' :=
  ⟨h.os, h.tape, h.output, h.size, fun k hk hr => h.block k hk (fun e => by have := Option.some.inj e; omega)⟩
theorem hs_put {D : DataW Unit} {p : Int → Bool} {x : Int} (d : DataW Unit) (hm : IsMap D) (hf : ∀ x, Maps.has D (ik x) = p x) :
    ∀ z, Maps.has (D.put (ik x) d) (ik z) = (p z || decide (z = x)) := by
  intro z
  by_cases e : z = x
  · subst e
    rw [has_put_same hm (ik_key _)]; simp
  · rw [has_put_other (ik_ne e), hf z]; simp [e]
set_option maxHeartbeats 400000 in
theorem has_any (b N : Nat) (p : Int → Bool) (x : Int) (w : World) (wx : (Lit.int .i64 x).wf = true) (hm : HS w b N p) :
    Calls Try.prog 220 #[.map (some b), .int .i64 x] w fun e w' => e = .returned (.bool (p x)) ∧ Below w.heap.size w w' := by
  obtain ⟨Dm, hown, hf⟩ := hm
  have HF : Hid (Maps.has Dm (ik x) = p x) := hf x
  clear hf
  go_enter Try.func220, Try.ntmps220
  go_wp2_with (first
    | (at_lookup; refine wpList_lookup_own_unit _ rfl _ _ 116 rfl 3 153 law3 Try.underlying116 (zero96 _) b N _ rfl hown _ _ rfl (keyOf_int_mk Try.underlying3 wx) ?_)
    | go_in)
  go_ret
  exact ⟨ret_bool HF.out, (Below.refl _ _).alloc (Nat.le_refl _) _⟩
set_option maxHeartbeats 400000 in
theorem add_any (b N : Nat) (p : Int → Bool) (x : Int) (w : World) (wx : (Lit.int .i64 x).wf = true) (hN : N ≤ 1048576) (hm : HS w b N p) :
    Calls Try.prog 166 #[.map (some b), .int .i64 x] w fun e w' => e = .returned (.bool (!p x)) ∧ HS w' b (N + 1) (fun z => p z || decide (z = x)) ∧ Out b (b + 1) w w' := by
  have hc := has_any b N p x w wx hm
  cases hp : p x
  · rw [hp] at hc
    go_enter Try.func166, Try.ntmps166
    go_wp2_with fail
    refine hc.mono ?_
    rintro e w1 ⟨rfl, hb⟩
    obtain ⟨Dm, hown, hf⟩ := hm.keep hb
    have HF : Hid (∀ x, Maps.has Dm (ik x) = p x) := hf
    clear hf hc hm
    go_wp2_with (first
      | (at_mapUpdate; refine wpList_mapUpdate_own _ rfl _ _ _ 116 rfl 3 153 law3 Try.underlying116 _ b N _ rfl hown (by unfold maxLen; omega) _ _ _ rfl rfl (keyOf_int_mk Try.underlying3 wx) _ [] unitElem_mk ?_; intro w2 hown1 hgrow1)
      | go_in)
    go_ret
    exact ⟨rfl, ⟨_, hown1, hs_put _ hown.isMap HF.out⟩, (Out.ofBelow hb).trans (grown_out hgrow1)⟩
  · rw [hp] at hc
    have HP : Hid (p x = true) := hp
    clear hp
    go_enter Try.func166, Try.ntmps166
    go_wp2_with fail
    refine hc.mono ?_
    rintro e w1 ⟨rfl, hb⟩
    go_wp2
    go_ret
    refine ⟨rfl, ?_, Out.ofBelow hb⟩
    have e : (fun z => p z || decide (z = x)) = p := by
      funext z
      by_cases e : z = x
      · subst e; rw [HP.out]; rfl
      · simp [e]
    rw [e]
    exact (hm.keep hb).mono (Nat.le_succ _)
def WFL (l : List Int) : Prop := ∀ i, i < l.length → (Lit.int .i64 (l.getD i 0)).wf = true
theorem take_snoc {l : List Int} {k : Nat} (hk : k < l.length) : l.take (k + 1) = l.take k ++ [l.getD k 0] := by
  rw [List.take_add_one]
  simp [hk]
set_option maxHeartbeats 1000000 in
theorem setOf_some (b c : Nat) (l : List Int) (w : World) (hn : l.length ≤ 1048576) (hw : Hid (WFL l)) (ho : OwnI w b l.length l l.length) :
    Calls Try.prog 165 #[.slice (some ⟨b, 0, none⟩) l.length c] w fun e w' => e = .returned (.map (some w.heap.size)) ∧ HS w' w.heap.size l.length (fun q => decide (q ∈ l)) ∧ Below w.heap.size w w' := by
  have hmm := @run_makeMap Try.prog
  have h0 := HS.made w
  have L0 : Below w.heap.size w (w.alloc (.map #[] 0)) := (Below.refl _ _).alloc (Nat.le_refl _) _
  have HT : Hid (∀ k, k < l.length → l.take (k + 1) = l.take k ++ [l.getD k 0]) := fun k hk => take_snoc hk
  have HA : Hid (l.take l.length = l) := List.take_length
  have HW : Hid (∀ i, i < l.length → (Lit.int .i64 (l.getD i 0)).wf = true) := hw.out
  clear hw
  generalize hN : l.length = n at *
  clear hN
  have hbl := ho.1
  go_enter Try.func165, Try.ntmps165
  go_wp2
  go_loopw [5, 9] (fun _ i wr => ∃ k : Nat, k ≤ n ∧ i = .int .i64 k ∧ HS wr w.heap.size k (fun q => decide (q ∈ l.take k)) ∧ Below w.heap.size w wr) (fun _ i _ => n - (intOf i).toNat)
  case atStart => exact ⟨0, Nat.zero_le _, rfl, by simpa using h0, L0⟩
  case round =>
    clear h0 L0
    obtain ⟨k, hk, rfl, hm, hbw⟩ := hrel
    by_cases hlt : k < n
    · have hx := (ho.below hbw hbl).2.2 k hlt
      have wx := HW.out k hlt
      obtain ⟨x, ex⟩ : ∃ x, Hid (l.getD k 0 = x) := ⟨_, rfl⟩
      rw [ex.out] at hx wx
      have hc := add_any w.heap.size k _ x wr wx (by omega) hm
      have eS : (fun q => decide (q ∈ l.take k) || decide (q = x)) = fun q => decide (q ∈ l.take (k + 1)) := by
        funext q; rw [HT.out k hlt, ex.out]; simp
      rw [eS] at hc
      clear eS
      go_wp2_with fail
      refine hc.mono ?_
      rintro e w1 ⟨rfl, hm1, ho1⟩
      have hb1 := hbw.trans (ho1.below (Nat.le_refl _) hbw.size)
      clear hc hx hbw hm ho1
      go_wp2
      go_roundw
      case rel => exact ⟨k + 1, by omega, by go_num, hm1, hb1⟩
      case measure => simp [intOf]; omega
    · obtain rfl : k = n := by omega
      go_wp2
      go_ret
      exact ⟨rfl, by rw [HA.out] at hm; exact hm, hbw⟩
end Go.Proofs.Ytphchdjbhbmnbaa
namespace Go.Proofs.Ytphchdjbhbmnbaa
open Go.RowKit
def contraA (l0 l1 l2 l3 : List (Int × Int)) : Bool := asnB l0 l1 l2 l3 && (openV (clsV l0) l1 l3 && contraV (clsV l0) l1 l2 l3)
theorem contra_open (l0 l1 l2 l3 : List (Int × Int)) : contraA l0 l1 l2 l3 = (openA l0 l1 l2 l3 && contraV (clsV l0) l1 l2 l3) := by
  unfold contraA openA
  rw [Bool.and_assoc]
theorem wf16 {z : Int} (h0 : 0 ≤ z) (h1 : z < 16) : (Lit.int .i64 z).wf = true := by
  have : ∀ k : Nat, k < 16 → (Lit.int .i64 (k : Int)).wf = true := by decide +kernel
  obtain ⟨k, rfl⟩ := Int.eq_ofNat_of_zero_le h0
  exact this k (by omega)
theorem has_step {l : List Int} {k : Nat} (hk : k < l.length) (v : Int) : hasV (l.take (k + 1)) v = (hasV (l.take k) v || decide (l.getD k 0 = v)) := by
  unfold hasV
  rw [List.take_add_one, List.getElem?_eq_getElem hk]
  simp only [Option.toList_some, List.any_append, List.any_cons, List.any_nil, Bool.or_false]
  rw [List.getD_eq_getElem?_getD (l := l), List.getElem?_eq_getElem hk, Option.getD_some]
theorem headsOf_wf {c : List Int} (hc : Cls c) {l : List (Int × Int)} (ht : toks l = true) : ∀ z ∈ headsOf c l, 0 ≤ z ∧ z < 16 := by
  intro z hz
  unfold headsOf at hz
  rw [List.mem_map] at hz
  obtain ⟨p, hp, rfl⟩ := hz
  obtain ⟨k, hk, rfl⟩ := List.getElem_of_mem hp
  have := (toks_get ht hk).1
  rw [List.getD_eq_getElem?_getD, List.getElem?_eq_getElem hk, Option.getD_some] at this
  exact hc.2 _ (by omega)
theorem heads_wf {c : List Int} (hc : Cls c) {l2 l3 : List (Int × Int)} (h2 : toks l2 = true) (h3 : toks l3 = true) : ∀ j, j < (headsV c l2 l3).length → 0 ≤ (headsV c l2 l3).getD j 0 ∧ (headsV c l2 l3).getD j 0 < 16 := by
  intro j hj
  have hm : (headsV c l2 l3).getD j 0 ∈ headsV c l2 l3 := by
    rw [List.getD_eq_getElem?_getD, List.getElem?_eq_getElem hj, Option.getD_some]
    exact List.getElem_mem hj
  generalize (headsV c l2 l3).getD j 0 = z at *
  unfold headsV at hm
  rw [List.mem_append] at hm
  rcases hm with hm | hm
  · exact headsOf_wf hc h2 z hm
  · exact headsOf_wf hc h3 z hm

set_option maxRecDepth 3000 in
set_option maxHeartbeats 1000000 in
theorem sContra_any (a0 a1 a2 a3 : Option Addr) (c0 c1 c2 c3 : Nat) (l0 l1 l2 l3 : List (Int × Int)) (w : World)
    (n0 : l0.length ≤ 1048576) (n1 : l1.length ≤ 1048576) (n2 : l2.length ≤ 1048576) (n3 : l3.length ≤ 1048576)
    (r0 : PRow w a0 l0) (r1 : PRow w a1 l1) (r2 : PRow w a2 l2) (r3 : PRow w a3 l3) :
    Calls Try.prog 72 #[.agg #[.slice a0 l0.length c0, .slice a1 l1.length c1, .slice a2 l2.length c2, .slice a3 l3.length c3]] w fun e w' => e = .returned (.bool (contraA l0 l1 l2 l3)) ∧ Below w.heap.size w w' := by
  have B0 := Box.new w (.slice a0 l0.length c0) (.slice a1 l1.length c1) (.slice a2 l2.length c2) (.slice a3 l3.length c3) 28
  have L0 : Below w.heap.size w (w.alloc (.cells #[.slice a0 l0.length c0, .slice a1 l1.length c1, .slice a2 l2.length c2, .slice a3 l3.length c3] 28)) := (Below.refl _ _).alloc (Nat.le_refl _) _
  go_enter Try.func72, Try.ntmps72
  go_wp2_with fail
  refine (sAsnOk_any _ _ _ _ _ _ _ _ _ _ _ _ _ n0 n1 n2 n3 (by exact r0.below L0 (Nat.le_refl _)) (by exact r1.below L0 (Nat.le_refl _)) (by exact r2.below L0 (Nat.le_refl _)) (by exact r3.below L0 (Nat.le_refl _))).mono ?_
  rintro e w1 ⟨rfl, hb⟩
  have B1 := B0.below hb B0.lt; have L1 := L0.trans (hb.mono L0.size)
  clear hb B0 L0
  cases ha : asnB l0 l1 l2 l3
  · have HE : Hid (contraA l0 l1 l2 l3 = false) := by unfold Hid contraA; rw [ha]; rfl
    go_wp2
    go_ret
    exact ⟨by rw [HE.out]; rfl, L1⟩
  have ht := asnB_tokA ha
  have HE : Hid (contraA l0 l1 l2 l3 = (openV (clsV l0) l1 l3 && contraV (clsV l0) l1 l2 l3)) := by unfold Hid contraA; rw [ha]; rfl
  have HLE : Hid ((headsV (clsV l0) l2 l3).length ≤ 1048576) := by have := headsA_le l0 l1 l2 l3; unfold headsA at this; rw [if_pos ha] at this; exact this
  have HC : Hid (Cls (clsV l0)) := Cls.all ht.1
  clear ha
  have x0 := B1.c0; have x1 := B1.c1; have x2 := B1.c2; have x3 := B1.c3
  go_wp2_with fail
  refine (l3classes_any _ _ _ _ _ _ _ _ _ _ _ _ _ n0 ht.1 (by exact r0.below L1 (Nat.le_refl _))).mono ?_
  rintro e w2 ⟨b, cp, rfl, hbb, O, hb⟩
  have L2 := L1.trans (hb.mono L1.size)
  have B2 := B1.below hb B1.lt
  clear hb B1 L1 x0 x1 x2 x3
  generalize clsV l0 = c at *
  have x0 := B2.c0; have x1 := B2.c1; have x2 := B2.c2; have x3 := B2.c3
  go_wp2_with fail
  refine (l3opened_any _ _ _ _ _ _ _ _ _ _ _ _ b cp c HC.out _ n1 n3 ht.2.1 ht.2.2.2 (by exact r1.below L2 (Nat.le_refl _)) (by exact r3.below L2 (Nat.le_refl _)) (by exact O)).mono ?_
  rintro e w3 ⟨rfl, hb⟩
  have L3 := L2.trans (hb.mono L2.size)
  have B3 := B2.below hb B2.lt
  have O3 := O.below hb O.1
  clear hb B2 L2 O x0 x1 x2 x3
  have x0 := B3.c0; have x1 := B3.c1; have x2 := B3.c2; have x3 := B3.c3
  cases ho : openV c l1 l3
  · rw [ho] at HE
    go_wp2
    go_ret
    exact ⟨by rw [HE.out]; rfl, L3⟩
  rw [ho] at HE
  go_wp2_with fail
  refine (l3contra_any _ _ _ _ _ _ _ _ _ _ _ _ b cp c HC.out.1 _ n1 n2 n3 HLE.out ht.2.1 ht.2.2.1 ht.2.2.2 (by exact r1.below L3 (Nat.le_refl _)) (by exact r2.below L3 (Nat.le_refl _)) (by exact r3.below L3 (Nat.le_refl _)) (by exact O3)).mono ?_
  rintro e w4 ⟨rfl, hb⟩
  have L4 := L3.trans (hb.mono L3.size)
  clear hb
  go_wp2
  go_ret
  exact ⟨by rw [HE.out]; rfl, L4⟩

set_option maxRecDepth 3000 in
set_option maxHeartbeats 1000000 in
theorem iContra_any (a0 a1 a2 a3 : Option Addr) (c0 c1 c2 c3 : Nat) (l0 l1 l2 l3 : List (Int × Int)) (w : World)
    (n0 : l0.length ≤ 1048576) (n1 : l1.length ≤ 1048576) (n2 : l2.length ≤ 1048576) (n3 : l3.length ≤ 1048576)
    (r0 : PRow w a0 l0) (r1 : PRow w a1 l1) (r2 : PRow w a2 l2) (r3 : PRow w a3 l3) :
    Calls Try.prog 73 #[.agg #[.slice a0 l0.length c0, .slice a1 l1.length c1, .slice a2 l2.length c2, .slice a3 l3.length c3]] w fun e w' => e = .returned (.bool (contraA l0 l1 l2 l3)) ∧ Below w.heap.size w w' := by
  have B0 := Box.new w (.slice a0 l0.length c0) (.slice a1 l1.length c1) (.slice a2 l2.length c2) (.slice a3 l3.length c3) 28
  have L0 : Below w.heap.size w (w.alloc (.cells #[.slice a0 l0.length c0, .slice a1 l1.length c1, .slice a2 l2.length c2, .slice a3 l3.length c3] 28)) := (Below.refl _ _).alloc (Nat.le_refl _) _
  go_enter Try.func73, Try.ntmps73
  go_wp2_with fail
  refine (iOpened_any _ _ _ _ _ _ _ _ _ _ _ _ _ n0 n1 n2 n3 (by exact r0.below L0 (Nat.le_refl _)) (by exact r1.below L0 (Nat.le_refl _)) (by exact r2.below L0 (Nat.le_refl _)) (by exact r3.below L0 (Nat.le_refl _))).mono ?_
  rintro e w1 ⟨rfl, hb⟩
  have B1 := B0.below hb B0.lt; have L1 := L0.trans (hb.mono L0.size)
  clear hb B0 L0
  cases hop : openA l0 l1 l2 l3
  · have HE : Hid (contraA l0 l1 l2 l3 = false) := by unfold Hid; rw [contra_open, hop]; rfl
    go_wp2
    go_ret
    exact ⟨by rw [HE.out]; rfl, L1⟩
  have HE : Hid (contraA l0 l1 l2 l3 = contraV (clsV l0) l1 l2 l3) := by unfold Hid; rw [contra_open, hop]; rfl
  have ha : asnB l0 l1 l2 l3 = true := by unfold openA at hop; rw [Bool.and_eq_true] at hop; exact hop.1
  have ht := asnB_tokA ha
  have HLE : Hid ((headsV (clsV l0) l2 l3).length ≤ 1048576) := by have := headsA_le l0 l1 l2 l3; unfold headsA at this; rw [if_pos ha] at this; exact this
  have HC : Hid (Cls (clsV l0)) := Cls.all ht.1
  clear ha hop
  have x0 := B1.c0; have x1 := B1.c1; have x2 := B1.c2; have x3 := B1.c3
  go_wp2_with fail
  refine (classesOf_any _ _ _ _ _ _ _ _ _ _ _ _ _ n0 ht.1 (by exact r0.below L1 (Nat.le_refl _))).mono ?_
  rintro e w2 ⟨rfl, hb⟩
  have L2 := L1.trans (hb.mono L1.size)
  have B2 := B1.below hb B1.lt
  clear hb B1 L1 x0 x1 x2 x3
  unfold aV
  dsimp only
  iterate 4 go_step
  have Z := OwnI.zeros w2 102
  refine ws67 rfl (.tmp 3) (.tmp 13) rfl _ rfl (clsV l0) _ rfl Z HC.out.1 rfl ?_
  have C := Z.setAll HC.out.1
  have L3 := Below.setCells w2.heap.size L2.size (ic (clsV l0)) 0 _ (L2.alloc L2.size (.cells z16 102))
  have L23 := Below.setCells w2.heap.size (Nat.le_refl _) (ic (clsV l0)) 0 _ ((Below.refl w2.heap.size w2).alloc (Nat.le_refl _) (.cells z16 102))
  have B3 := B2.below L23 B2.lt
  have sb := B2.lt
  have s2 := L2.size
  clear Z L2 L23 B2
  generalize (w2.alloc (.cells z16 102)).setCells w2.heap.size 0 (ic (clsV l0)) = w3 at *
  generalize clsV l0 = c at *
  generalize w2.heap.size = q at *
  have x1 := B3.c1
  go_wp2_with fail
  clear x1
  go_loopw [17] (fun i wr => ∃ m : Nat, m ≤ l1.length ∧ i = .int .i64 m ∧ Hid (∀ j, j < m → ¬ c.getD (l1.getD j (0, 0)).1.toNat 0 = c.getD (l1.getD j (0, 0)).2.toNat 0) ∧ OwnI wr q 16 c 16 ∧ Box wr w.heap.size (.slice a0 l0.length c0) (.slice a1 l1.length c1) (.slice a2 l2.length c2) (.slice a3 l3.length c3) ∧ Below w.heap.size w wr) (fun i _ => l1.length - (intOf i).toNat)
  case atStart => exact ⟨0, Nat.zero_le _, rfl, fun j hj => absurd hj (Nat.not_lt_zero _), C, B3, L3⟩
  case round =>
    clear C B3 L3
    obtain ⟨m, hm, rfl, HM, C, B, L⟩ := hrel
    by_cases hlty : m < l1.length
    · rcases r1 with hnil | ⟨b1, off1, rfl, hb1, hcl1⟩
      · rw [hnil] at hlty; simp at hlty
      have hyq0 : wr.cell? ⟨b1, off1 + m * 2, none⟩ = some (.int .i64 (l1.getD m (0, 0)).1) := by rw [L.cell (p := ⟨b1, _, none⟩) hb1]; exact (hcl1 m hlty).1
      have hyq1 : wr.cell? ⟨b1, off1 + m * 2 + 1, none⟩ = some (.int .i64 (l1.getD m (0, 0)).2) := by rw [L.cell (p := ⟨b1, _, none⟩) hb1]; exact (hcl1 m hlty).2
      have hmn : (m : Int) < (l1.length : Int) := by omega
      have hm0 : (0 : Int) ≤ (m : Int) := by omega
      have htm := toks_get ht.2.1 hlty
      have HHIT : Hid (c.getD (l1.getD m (0, 0)).1.toNat 0 = c.getD (l1.getD m (0, 0)).2.toNat 0 → sameV c l1 = true) := fun h => same_hit hlty h
      have HM2 : Hid (¬ c.getD (l1.getD m (0, 0)).1.toNat 0 = c.getD (l1.getD m (0, 0)).2.toNat 0 → ∀ j, j < m + 1 → ¬ c.getD (l1.getD j (0, 0)).1.toNat 0 = c.getD (l1.getD j (0, 0)).2.toNat 0) := by
        intro hf j hj
        by_cases e : j = m
        · subst e; exact hf
        · exact HM.out j (by omega)
      generalize l1.getD m (0, 0) = pp at *
      clear hcl1
      obtain ⟨⟨q1, q2⟩, q3, q4⟩ := htm
      obtain ⟨s, t, rfl, hs, hts⟩ : ∃ s t : Nat, pp = ((s : Int), (t : Int)) ∧ s < 16 ∧ t < 16 := ⟨pp.1.toNat, pp.2.toNat, by rw [Int.toNat_of_nonneg q1, Int.toNat_of_nonneg q3], by omega, by omega⟩
      clear q1 q2 q3 q4
      dsimp only at hyq0 hyq1
      simp only [Int.toNat_natCast] at HHIT HM2
      have hsa : (s : Int) < 16 := by omega
      have hta : (t : Int) < 16 := by omega
      have hsb : (0 : Int) ≤ (s : Int) := by omega
      have htb : (0 : Int) ≤ (t : Int) := by omega
      go_wp2_with fail
      have P1 := PBox.new wr s t 69
      have L1 := L.alloc L.size (.cells #[.int .i64 (s : Int), .int .i64 (t : Int)] 69)
      have C1 := C.alloc (.cells #[.int .i64 (s : Int), .int .i64 (t : Int)] 69)
      have B1 := B.alloc (.cells #[.int .i64 (s : Int), .int .i64 (t : Int)] 69)
      clear hyq0 hyq1 C L B hb1
      generalize wr.alloc (.cells #[.int .i64 (s : Int), .int .i64 (t : Int)] 69) = W2 at *
      generalize wr.heap.size = p5 at *
      have eu := C1.2.2 s hs
      have ev := C1.2.2 t hts
      generalize c.getD s 0 = u at *
      generalize c.getD t 0 = v at *
      have hS0 : Below w.heap.size w W2.drew ∧ W2.drew.cell? ⟨p5, 0, none⟩ = some (.int .i64 s) ∧ W2.drew.cell? ⟨p5, 1, none⟩ = some (.int .i64 t) ∧ W2.drew.cell? ⟨q, s, none⟩ = some (.int .i64 u) ∧ W2.drew.cell? ⟨q, t, none⟩ = some (.int .i64 v) := ⟨L1.drew, P1.c0, P1.c1, eu, ev⟩
      replace C1 := C1.drew; replace B1 := B1.drew
      clear P1 eu ev L1
      go_region_held3 (fun w' => Below w.heap.size w w' ∧ w'.cell? ⟨p5, 0, none⟩ = some (.int .i64 s) ∧ w'.cell? ⟨p5, 1, none⟩ = some (.int .i64 t) ∧ w'.cell? ⟨q, s, none⟩ = some (.int .i64 u) ∧ w'.cell? ⟨q, t, none⟩ = some (.int .i64 v))
        (first | exact hS0 | assumption | (refine ⟨?_, ?_, ?_, ?_, ?_⟩ <;> assumption))
        (fail)
      have L := hS0.1
      clear hS0
      generalize W2.drew = wd at *
      by_cases h1 : u = v
      · have HV : Hid (contraV c l1 l2 l3 = true) := by unfold Hid contraV; rw [HHIT.out h1]; rfl
        go_wp2
        go_ret
        exact ⟨by rw [HE.out, HV.out]; rfl, L⟩
      · have HU2 : Hid (∀ j, j < m + 1 → ¬ c.getD (l1.getD j (0, 0)).1.toNat 0 = c.getD (l1.getD j (0, 0)).2.toNat 0) := HM2.out h1
        go_wp2
        go_roundw
        case rel => exact ⟨m + 1, by omega, by go_num, HU2, C1, B1, L⟩
        case measure => simp [intOf]; omega
    · have HA : Hid (contraV c l1 l2 l3 = dupV (headsV c l2 l3)) := by
        unfold Hid contraV
        rw [same_none (fun j hj => HM.out j (by omega))]
        rfl
      have hge : ¬ ((m : Int) < (l1.length : Int)) := by omega
      go_wp2_with fail
      have O0 : OwnI (wr.alloc (.cells #[.int .i64 0] 3)) wr.heap.size ([0] : List Int).length [0] ([0] : List Int).length := OwnI.new wr [0] 1 rfl 3
      refine (setOf_some _ _ [0] _ (by decide) (fun i hi => by obtain rfl : i = 0 := (by simp at hi; exact hi); rfl) O0).mono ?_
      rintro e w5 ⟨rfl, T5, hb⟩
      have L5 := (L.alloc L.size (.cells #[.int .i64 0] 3)).trans (hb.mono (L.alloc L.size _).size)
      have C5 := (C.alloc (.cells #[.int .i64 0] 3)).below hb (C.alloc _).1
      have B5 := (B.alloc (.cells #[.int .i64 0] 3)).below hb (B.alloc _).lt
      have st := (L.alloc L.size (.cells #[.int .i64 (0 : Int)] 3)).size
      clear hb C B L O0
      generalize (wr.alloc (.cells #[.int .i64 0] 3)).heap.size = T at *
      dsimp only
      iterate 10 go_step
      refine wl67 rfl (.tmp 3) rfl _ rfl C5 HC.out.1 ?_
      have y0 := B5.c0; have y1 := B5.c1; have y2 := B5.c2; have y3 := B5.c3
      go_wp2_with fail
      refine (heads_any _ _ _ _ _ _ _ _ _ _ _ _ c HC.out.1 _ n2 n3 ht.2.2.1 ht.2.2.2 (by exact r2.below L5 (Nat.le_refl _)) (by exact r3.below L5 (Nat.le_refl _))).mono ?_
      rintro e w6 ⟨ag, cg, rfl, G, hb⟩
      have L6 := L5.trans (hb.mono L5.size)
      have T6 := T5.keep hb
      have sT := T5.lt
      clear hb L5 C5 B5 y0 y1 y2 y3 T5
      have hn := HLE.out
      have HWF := heads_wf HC.out ht.2.2.1 ht.2.2.2
      generalize headsV c l2 l3 = hs at *
      replace HWF : Hid (∀ j, j < hs.length → 0 ≤ hs.getD j 0 ∧ hs.getD j 0 < 16) := HWF
      obtain ⟨_, hr⟩ := G
      generalize hn2 : hs.length = n at *
      replace hn2 : Hid (hs.length = n) := hn2
      have T7 : HS w6 T 1 (fun z => decide (z = 0) || hasV (hs.take 0) z) := by
        have e : (fun z => decide (z = 0) || hasV (hs.take 0) z) = fun (q : Int) => decide (q ∈ ([0] : List Int)) := by funext z; simp [hasV]
        rw [e]; exact T6
      clear T6
      go_wp2_with fail
      go_loopw [37] (fun i wx => ∃ k : Nat, k ≤ n ∧ i = .int .i64 k ∧ Hid (∀ j, j < k → (decide (hs.getD j 0 = 0) || hasV (hs.take j) (hs.getD j 0)) = false) ∧ HS wx T (k + 1) (fun z => decide (z = 0) || hasV (hs.take k) z) ∧ Out T (T + 1) w6 wx) (fun i _ => n - (intOf i).toNat)
      case atStart => exact ⟨0, Nat.zero_le _, rfl, fun j hj => absurd hj (Nat.not_lt_zero _), T7, Out.refl _ _ _⟩
      case round =>
        clear T7
        obtain ⟨k, hk, rfl, HK, TS, OU⟩ := hrel
        have L8 := L6.trans (OU.below st L6.size)
        by_cases hlt : k < n
        · rcases hr with h0 | ⟨bh, rfl, g1, g2, OH⟩
          · omega
          have OH2 := OH.out OU (by omega)
          have ev := OH2.2.2 k hlt
          have hkn : (k : Int) < (n : Int) := by omega
          have hk0 : (0 : Int) ≤ (k : Int) := by omega
          have hz := HWF.out k (by have := hn2.out; omega)
          have HHIT : Hid ((decide (hs.getD k 0 = 0) || hasV (hs.take k) (hs.getD k 0)) = true → contraV c l1 l2 l3 = true) := fun e => by rw [HA.out]; exact dup_hit (by have := hn2.out; omega) e
          have HK2 : Hid ((decide (hs.getD k 0 = 0) || hasV (hs.take k) (hs.getD k 0)) = false → ∀ j, j < k + 1 → (decide (hs.getD j 0 = 0) || hasV (hs.take j) (hs.getD j 0)) = false) := by
            intro hf j hj
            by_cases e : j = k
            · subst e; exact hf
            · exact HK.out j (by omega)
          have HST := has_step (l := hs) (k := k) (by have := hn2.out; omega)
          generalize hs.getD k 0 = z at *
          have hadd := add_any T (k + 1) _ z wr (wf16 hz.1 hz.2) (by omega) TS
          have eS : (fun (x : Int) => (decide (x = 0) || hasV (hs.take k) x) || decide (x = z)) = fun x => decide (x = 0) || hasV (hs.take (k + 1)) x := by
            funext x; rw [HST x, Bool.or_assoc]; congr 2; exact decide_eq_decide.2 ⟨Eq.symm, Eq.symm⟩
          rw [eS] at hadd
          clear eS HST TS
          generalize hp : (decide (z = 0) || hasV (hs.take k) z) = pz at *
          clear hp
          go_wp2_with fail
          refine hadd.mono ?_
          rintro e w7 ⟨rfl, T8, o8⟩
          have OU2 := OU.trans o8
          have L9 := L6.trans (OU2.below st L6.size)
          clear hadd o8 OU L8 OH2 ev
          cases pz
          · have HK3 : Hid (∀ j, j < k + 1 → (decide (hs.getD j 0 = 0) || hasV (hs.take j) (hs.getD j 0)) = false) := HK2.out rfl
            go_wp2
            go_roundw
            case rel => exact ⟨k + 1, by omega, by go_num, HK3, T8, OU2⟩
            case measure => simp [intOf]; omega
          · have HV : Hid (contraV c l1 l2 l3 = true) := HHIT.out rfl
            go_wp2
            go_ret
            exact ⟨by rw [HE.out, HV.out]; rfl, L9⟩
        · have HV : Hid (contraV c l1 l2 l3 = false) := by unfold Hid; rw [HA.out]; exact dup_none (fun j hj => HK.out j (by have := hn2.out; omega))
          have hge2 : ¬ ((k : Int) < (n : Int)) := by omega
          go_wp2
          go_ret
          exact ⟨by rw [HE.out, HV.out]; rfl, L8⟩

end Go.Proofs.Ytphchdjbhbmnbaa
namespace Go.Proofs.Ytphchdjbhbmnbaa
open Go.RowKit
set_option linter.unusedVariables false

theorem headAt_ex (l0 l1 l2 l3 : List (Int × Int)) (t : Int) : headAtA l0 l1 l2 l3 t = if (asnB l0 l1 l2 l3 && tok t) = true then exJ l0 l2 l3 t else -1 := rfl
theorem exJ_lt {l0 l2 l3 : List (Int × Int)} {t : Int} (h : 0 ≤ exJ l0 l2 l3 t) : exJ l0 l2 l3 t < (l2.length : Int) + (l3.length : Int) := by
  obtain ⟨k, e, hk, _⟩ := idx_lt (l := headsV (clsV l0) l2 l3) (v := (clsV l0).getD t.toNat 0) h
  unfold headsV at hk
  rw [List.length_append, headsOf_length, headsOf_length] at hk
  unfold exJ
  rw [e]
  omega
theorem open_one {c : List Int} {l1 l3 : List (Int × Int)} (h : openV c l1 l3 = true) {k : Nat} (hk : k < l3.length) : openV c l1 [l3.getD k (0, 0)] = true := by
  unfold openV at h ⊢
  rw [List.all_eq_true] at h
  simp only [List.all_cons, List.all_nil, Bool.and_true]
  exact h _ (by rw [List.getD_eq_getElem?_getD, List.getElem?_eq_getElem hk]; exact List.getElem_mem hk)

/-- Unfold of an opened one, at the place of a segment: it answers, or not, by whether there is a fresh name, and room. -/
theorem iUnfold_at (a0 a1 a2 a3 : Option Addr) (c0 c1 c2 c3 : Nat) (l0 l1 l2 l3 : List (Int × Int)) (i : Int) (w : World) (n0 : l0.length ≤ 1048576) (n1 : l1.length ≤ 1048576) (n2 : l2.length ≤ 1048576) (n3 : l3.length ≤ 1048576) (r0 : PRow w a0 l0) (r1 : PRow w a1 l1) (r2 : PRow w a2 l2) (r3 : PRow w a3 l3) (z0 : CapZ a0 l0.length c0) (z1 : CapZ a1 l1.length c1) (z2 : CapZ a2 l2.length c2) (z3 : CapZ a3 l3.length c3) (hu : unfB l0 l1 l2 l3 i = true) (U2 U3 : List (Int × Int)) (e2 : unfC l2 (l3.getD i.toNat (0, 0)) (freshF (usedV l0 l1 l2 l3)) = U2) (e3 : unfS l3 i.toNat (l3.getD i.toNat (0, 0)) (freshF (usedV l0 l1 l2 l3)) = U3) :
    Calls Try.prog 90 #[.agg #[.slice a0 l0.length c0, .slice a1 l1.length c1, .slice a2 l2.length c2, .slice a3 l3.length c3], .int .i64 i] w fun e w' => ∃ p0 p1 p2 p3 q0 q1 q2 q3, e = .returned (.tuple #[.agg #[.slice p0 l0.length q0, .slice p1 l1.length q1, .slice p2 U2.length q2, .slice p3 U3.length q3], .bool true]) ∧ Four w' w.heap.size w'.heap.size p0 p1 p2 p3 l0.length l1.length U2.length U3.length l0 l1 U2 U3 ∧ Below w.heap.size w w' := by
  refine (iUnfold_any a0 a1 a2 a3 c0 c1 c2 c3 l0 l1 l2 l3 i w n0 n1 n2 n3 r0 r1 r2 r3 z0 z1 z2 z3).mono ?_
  rintro e w' ⟨p0, p1, p2, p3, q0, q1, q2, q3, rfl, T, hb⟩
  rw [hu, e2, e3] at T ⊢
  simp only [okL, if_true] at T ⊢
  exact ⟨p0, p1, p2, p3, q0, q1, q2, q3, rfl, T, hb⟩
theorem iUnfold_out (a0 a1 a2 a3 : Option Addr) (c0 c1 c2 c3 : Nat) (l0 l1 l2 l3 : List (Int × Int)) (i : Int) (w : World) (n0 : l0.length ≤ 1048576) (n1 : l1.length ≤ 1048576) (n2 : l2.length ≤ 1048576) (n3 : l3.length ≤ 1048576) (r0 : PRow w a0 l0) (r1 : PRow w a1 l1) (r2 : PRow w a2 l2) (r3 : PRow w a3 l3) (z0 : CapZ a0 l0.length c0) (z1 : CapZ a1 l1.length c1) (z2 : CapZ a2 l2.length c2) (z3 : CapZ a3 l3.length c3) (hu : unfB l0 l1 l2 l3 i = false) :
    Calls Try.prog 90 #[.agg #[.slice a0 l0.length c0, .slice a1 l1.length c1, .slice a2 l2.length c2, .slice a3 l3.length c3], .int .i64 i] w fun e w' => ∃ p0 p1 p2 p3 q0 q1 q2 q3, e = .returned (.tuple #[.agg #[.slice p0 0 q0, .slice p1 0 q1, .slice p2 0 q2, .slice p3 0 q3], .bool false]) ∧ Below w.heap.size w w' := by
  refine (iUnfold_any a0 a1 a2 a3 c0 c1 c2 c3 l0 l1 l2 l3 i w n0 n1 n2 n3 r0 r1 r2 r3 z0 z1 z2 z3).mono ?_
  rintro e w' ⟨p0, p1, p2, p3, q0, q1, q2, q3, rfl, _, hb⟩
  rw [hu]
  exact ⟨p0, p1, p2, p3, q0, q1, q2, q3, rfl, hb⟩

set_option linter.unusedSimpArgs false in
set_option maxRecDepth 20000 in
set_option maxHeartbeats 4000000 in
theorem iExpose_any (a0 a1 a2 a3 : Option Addr) (c0 c1 c2 c3 : Nat) (l0 l1 l2 l3 : List (Int × Int)) (t : Int) (w : World) (n0 : l0.length ≤ 1048576) (n1 : l1.length ≤ 1048576) (n2 : l2.length ≤ 1048576) (n3 : l3.length ≤ 1048576) (r0 : PRow w a0 l0) (r1 : PRow w a1 l1) (r2 : PRow w a2 l2) (r3 : PRow w a3 l3) (z0 : CapZ a0 l0.length c0) (z1 : CapZ a1 l1.length c1) (z2 : CapZ a2 l2.length c2) (z3 : CapZ a3 l3.length c3) :
    Calls Try.prog 121 #[.agg #[.slice a0 l0.length c0, .slice a1 l1.length c1, .slice a2 l2.length c2, .slice a3 l3.length c3], .int .i64 t] w fun e w' => ∃ p0 p1 p2 p3 q0 q1 q2 q3, e = .returned (.tuple #[.agg #[.slice p0 (okL (exB l0 l1 l2 l3 t) l0).length q0, .slice p1 (okL (exB l0 l1 l2 l3 t) l1).length q1, .slice p2 (okL (exB l0 l1 l2 l3 t) (exL2 l0 l1 l2 l3 t)).length q2, .slice p3 (okL (exB l0 l1 l2 l3 t) (exL3 l0 l1 l2 l3 t)).length q3], .int .i64 (exI l0 l1 l2 l3 t), .bool (exB l0 l1 l2 l3 t)]) ∧ Four w' w.heap.size w'.heap.size p0 p1 p2 p3 (okL (exB l0 l1 l2 l3 t) l0).length (okL (exB l0 l1 l2 l3 t) l1).length (okL (exB l0 l1 l2 l3 t) (exL2 l0 l1 l2 l3 t)).length (okL (exB l0 l1 l2 l3 t) (exL3 l0 l1 l2 l3 t)).length (okL (exB l0 l1 l2 l3 t) l0) (okL (exB l0 l1 l2 l3 t) l1) (okL (exB l0 l1 l2 l3 t) (exL2 l0 l1 l2 l3 t)) (okL (exB l0 l1 l2 l3 t) (exL3 l0 l1 l2 l3 t)) ∧ Below w.heap.size w w' := by
  have A0 := (Box.new w (.slice a0 l0.length c0) (.slice a1 l1.length c1) (.slice a2 l2.length c2) (.slice a3 l3.length c3) 28).alloc (.cells #[.slice none 0 0, .slice none 0 0, .slice none 0 0, .slice none 0 0] 28)
  have R0 := Box.new (w.alloc (.cells #[.slice a0 l0.length c0, .slice a1 l1.length c1, .slice a2 l2.length c2, .slice a3 l3.length c3] 28)) (.slice none 0 0) (.slice none 0 0) (.slice none 0 0) (.slice none 0 0) 28
  have L0 : Below w.heap.size w ((w.alloc (.cells #[.slice a0 l0.length c0, .slice a1 l1.length c1, .slice a2 l2.length c2, .slice a3 l3.length c3] 28)).alloc (.cells #[.slice none 0 0, .slice none 0 0, .slice none 0 0, .slice none 0 0] 28)) := ((Below.refl _ _).alloc (Nat.le_refl _) _).alloc (by simp) _
  rw [World.size_alloc] at R0
  replace r0 := r0.below (L0) (Nat.le_refl _); replace r1 := r1.below (L0) (Nat.le_refl _); replace r2 := r2.below (L0) (Nat.le_refl _); replace r3 := r3.below (L0) (Nat.le_refl _)
  go_enter Try.func121, Try.ntmps121
  go_wp2_with fail
  refine (iHeadAt_any _ _ _ _ _ _ _ _ l0 l1 l2 l3 t _ n0 n1 n2 n3 r0 r1 r2 r3).mono ?_
  rintro e w1 ⟨rfl, hb⟩
  replace A0 := A0.below hb A0.lt; replace R0 := R0.below hb R0.lt; replace L0 := L0.trans (hb.mono L0.size)
  replace r0 := r0.below (hb) (Nat.le_refl _); replace r1 := r1.below (hb) (Nat.le_refl _); replace r2 := r2.below (hb) (Nat.le_refl _); replace r3 := r3.below (hb) (Nat.le_refl _)
  clear hb
  obtain ⟨hd, hhd⟩ : ∃ hd, Hid (headAtA l0 l1 l2 l3 t = hd) := ⟨_, rfl⟩
  rw [hhd.out]
  have A0c0 := A0.c0; have A0c1 := A0.c1; have A0c2 := A0.c2; have A0c3 := A0.c3
  go_wp2_with fail
  clear A0c0 A0c1 A0c2 A0c3
  refine (iOpened_any _ _ _ _ _ _ _ _ l0 l1 l2 l3 _ n0 n1 n2 n3 r0 r1 r2 r3).mono ?_
  rintro e w2 ⟨rfl, hb⟩
  replace A0 := A0.below hb A0.lt; replace R0 := R0.below hb R0.lt; replace L0 := L0.trans (hb.mono L0.size)
  replace r0 := r0.below (hb) (Nat.le_refl _); replace r1 := r1.below (hb) (Nat.le_refl _); replace r2 := r2.below (hb) (Nat.le_refl _); replace r3 := r3.below (hb) (Nat.le_refl _)
  clear hb
  cases hop : openA l0 l1 l2 l3
  · clear A0
    have HE : Hid ((exB l0 l1 l2 l3 t) = false) := by show (exB l0 l1 l2 l3 t) = false; unfold openA at hop; unfold exB; rw [Bool.and_right_comm (asnB l0 l1 l2 l3), hop]; simp
    have HI : Hid (exI l0 l1 l2 l3 t = -1) := by show exI l0 l1 l2 l3 t = -1; unfold exI; rw [HE.out]; rfl
    obtain ⟨F, FO⟩ := R0.fill (.slice none 0 0) (.slice none 0 0) (.slice none 0 0) (.slice none 0 0)
    have j0' := R0.c0; have j1' := R0.c1; have j2' := R0.c2; have j3' := R0.c3
    have g0 := R0.f0; have g1 := R0.f1; have g2 := R0.f2; have g3 := R0.f3
    go_wp2
    have i0 := F.c0; have i1 := F.c1; have i2 := F.c2; have i3 := F.c3
    refine bodyPost_ret (v := .tuple #[.agg #[.slice none 0 0, .slice none 0 0, .slice none 0 0, .slice none 0 0], .int .i64 (-1), .bool false]) ?_ rfl ⟨none, none, none, none, 0, 0, 0, 0, by rw [HE.out, HI.out]; rfl, ?_, ?_⟩
    · simp [results, Try.results121, go_sem, i0, i1, i2, i3]
    · rw [HE.out]; exact (Four.none _ w.heap.size).mono (Nat.le_refl _) (by have := FO.size; have := L0.size; omega)
    · exact L0.trans (FO.below (by omega) L0.size)

  obtain ⟨ha, ho⟩ : asnB l0 l1 l2 l3 = true ∧ openV (clsV l0) l1 l3 = true := by unfold openA at hop; simpa using hop
  have HA : Hid (asnB l0 l1 l2 l3 = true) := ha
  have HO : Hid (openV (clsV l0) l1 l3 = true) := ho
  clear ha ho hop
  have A0c0 := A0.c0; have A0c1 := A0.c1; have A0c2 := A0.c2; have A0c3 := A0.c3
  go_wp2_with fail
  clear A0c0 A0c1 A0c2 A0c3
  refine (iContra_any _ _ _ _ _ _ _ _ l0 l1 l2 l3 _ n0 n1 n2 n3 r0 r1 r2 r3).mono ?_
  rintro e w3 ⟨rfl, hb⟩
  replace A0 := A0.below hb A0.lt; replace R0 := R0.below hb R0.lt; replace L0 := L0.trans (hb.mono L0.size)
  replace r0 := r0.below (hb) (Nat.le_refl _); replace r1 := r1.below (hb) (Nat.le_refl _); replace r2 := r2.below (hb) (Nat.le_refl _); replace r3 := r3.below (hb) (Nat.le_refl _)
  clear hb
  have ec : contraA l0 l1 l2 l3 = contraV (clsV l0) l1 l2 l3 := by unfold contraA; rw [HA.out, HO.out]; rfl
  rw [ec]
  clear ec
  cases hco : contraV (clsV l0) l1 l2 l3
  rotate_left
  · clear A0
    have HE : Hid ((exB l0 l1 l2 l3 t) = false) := by show (exB l0 l1 l2 l3 t) = false; unfold exB; rw [hco]; simp
    have HI : Hid (exI l0 l1 l2 l3 t = -1) := by show exI l0 l1 l2 l3 t = -1; unfold exI; rw [HE.out]; rfl
    obtain ⟨F, FO⟩ := R0.fill (.slice none 0 0) (.slice none 0 0) (.slice none 0 0) (.slice none 0 0)
    have j0' := R0.c0; have j1' := R0.c1; have j2' := R0.c2; have j3' := R0.c3
    have g0 := R0.f0; have g1 := R0.f1; have g2 := R0.f2; have g3 := R0.f3
    go_wp2
    have i0 := F.c0; have i1 := F.c1; have i2 := F.c2; have i3 := F.c3
    refine bodyPost_ret (v := .tuple #[.agg #[.slice none 0 0, .slice none 0 0, .slice none 0 0, .slice none 0 0], .int .i64 (-1), .bool false]) ?_ rfl ⟨none, none, none, none, 0, 0, 0, 0, by rw [HE.out, HI.out]; rfl, ?_, ?_⟩
    · simp [results, Try.results121, go_sem, i0, i1, i2, i3]
    · rw [HE.out]; exact (Four.none _ w.heap.size).mono (Nat.le_refl _) (by have := FO.size; have := L0.size; omega)
    · exact L0.trans (FO.below (by omega) L0.size)

  have HCO : Hid (contraV (clsV l0) l1 l2 l3 = false) := hco
  clear hco
  have HD : Hid (hd = if tok t = true then exJ l0 l2 l3 t else -1) := by show hd = _; rw [← hhd.out, headAt_ex, HA.out, Bool.true_and]
  by_cases hneg : hd < 0
  · have HF : Hid ((exB l0 l1 l2 l3 t) = false) := by
      show (exB l0 l1 l2 l3 t) = false
      have h := HD.out
      unfold exB
      cases hx : tok t
      · simp
      · rw [hx, if_pos rfl] at h
        rw [decide_eq_false (p := 0 ≤ _) (by omega)]
        simp
    clear A0
    have HE : Hid ((exB l0 l1 l2 l3 t) = false) := by show (exB l0 l1 l2 l3 t) = false; exact HF.out
    have HI : Hid (exI l0 l1 l2 l3 t = -1) := by show exI l0 l1 l2 l3 t = -1; unfold exI; rw [HE.out]; rfl
    obtain ⟨F, FO⟩ := R0.fill (.slice none 0 0) (.slice none 0 0) (.slice none 0 0) (.slice none 0 0)
    have j0' := R0.c0; have j1' := R0.c1; have j2' := R0.c2; have j3' := R0.c3
    have g0 := R0.f0; have g1 := R0.f1; have g2 := R0.f2; have g3 := R0.f3
    go_wp2
    have i0 := F.c0; have i1 := F.c1; have i2 := F.c2; have i3 := F.c3
    refine bodyPost_ret (v := .tuple #[.agg #[.slice none 0 0, .slice none 0 0, .slice none 0 0, .slice none 0 0], .int .i64 (-1), .bool false]) ?_ rfl ⟨none, none, none, none, 0, 0, 0, 0, by rw [HE.out, HI.out]; rfl, ?_, ?_⟩
    · simp [results, Try.results121, go_sem, i0, i1, i2, i3]
    · rw [HE.out]; exact (Four.none _ w.heap.size).mono (Nat.le_refl _) (by have := FO.size; have := L0.size; omega)
    · exact L0.trans (FO.below (by omega) L0.size)

  obtain ⟨hx, hj⟩ : tok t = true ∧ hd = exJ l0 l2 l3 t := by
    have h := HD.out
    cases hx : tok t
    · rw [hx] at h; simp at h; omega
    · rw [hx, if_pos rfl] at h; exact ⟨rfl, h⟩
  have HX : Hid (tok t = true) := hx
  have HJ : Hid (exJ l0 l2 l3 t = hd) := hj.symm
  have HLT := exJ_lt (l0 := l0) (l2 := l2) (l3 := l3) (t := t) (by rw [HJ.out]; omega)
  rw [HJ.out] at HLT
  clear hx hj HD hhd
  have A0c2 := A0.c2
  by_cases hcell : hd < (l2.length : Int)
  · have HE : Hid ((exB l0 l1 l2 l3 t) = true) := by
      show (exB l0 l1 l2 l3 t) = true
      unfold exB
      rw [HJ.out, HA.out, HX.out, HO.out, HCO.out, decide_eq_true hcell, decide_eq_true (p := 0 ≤ hd) (by omega)]
      rfl
    have HI : Hid (exI l0 l1 l2 l3 t = hd) := by show exI _ _ _ _ _ = _; unfold exI; rw [HE.out, if_pos rfl, HJ.out, if_pos hcell]
    have HL2 : Hid (exL2 l0 l1 l2 l3 t = l2) := by show exL2 _ _ _ _ _ = _; unfold exL2; rw [HJ.out, if_pos hcell]
    have HL3 : Hid (exL3 l0 l1 l2 l3 t = l3) := by show exL3 _ _ _ _ _ = _; unfold exL3; rw [HJ.out, if_pos hcell]
    have A0c0 := A0.c0; have A0c1 := A0.c1; have A0c3 := A0.c3
    go_wp2_with fail
    clear A0c0 A0c1 A0c2 A0c3 A0
    refine (ownCopy_any _ _ _ _ _ _ _ _ l0 l1 l2 l3 _ n0 n1 n2 n3 r0 r1 r2 r3 z0 z1 z2 z3).mono ?_
    rintro e w6 ⟨p0, p1, p2, p3, q0, q1, q2, q3, rfl, T, _, hb⟩
    have zR := R0.lt
    replace R0 := R0.below hb R0.lt; replace L0 := L0.trans (hb.mono L0.size)
    clear hb
    obtain ⟨F, FO⟩ := R0.fill (.slice p0 l0.length q0) (.slice p1 l1.length q1) (.slice p2 l2.length q2) (.slice p3 l3.length q3)
    have j0' := R0.c0; have j1' := R0.c1; have j2' := R0.c2; have j3' := R0.c3
    have g0' := R0.f0; have g1' := R0.f1; have g2' := R0.f2; have g3' := R0.f3
    go_wp2
    have i0 := F.c0; have i1 := F.c1; have i2 := F.c2; have i3 := F.c3
    have hfs := FO.size
    refine bodyPost_ret (v := .tuple #[.agg #[.slice p0 l0.length q0, .slice p1 l1.length q1, .slice p2 l2.length q2, .slice p3 l3.length q3], .int .i64 hd, .bool true]) ?_ rfl ⟨p0, p1, p2, p3, q0, q1, q2, q3, by rw [HE.out, HI.out, HL2.out, HL3.out]; rfl, ?_, ?_⟩
    · simp [results, Try.results121, go_sem, i0, i1, i2, i3]
    · rw [HE.out, HL2.out, HL3.out]
      exact (T.out FO (.inr (by omega))).mono (by omega) (by omega)
    · exact L0.trans (FO.below (by omega) L0.size)
  have hwr : IntKind.i64.wrap (hd - (l2.length : Int)) = hd - (l2.length : Int) := by rw [IntKind.wrap_i64]; omega
  have HU : Hid (unfB l0 l1 l2 l3 (hd - (l2.length : Int)) = (decide (0 ≤ freshF (usedV l0 l1 l2 l3)) && decide (l2.length + l3.length < 6))) := by
    show unfB _ _ _ _ _ = _
    unfold unfB
    rw [HA.out, decide_eq_true (p := 0 ≤ hd - (l2.length : Int) ∧ _) (by omega), open_one HO.out (by omega)]
    rfl
  have HB : Hid ((exB l0 l1 l2 l3 t) = (decide (0 ≤ freshF (usedV l0 l1 l2 l3)) && decide (l2.length + l3.length < 6))) := by
    show (exB l0 l1 l2 l3 t) = _
    unfold exB
    rw [HJ.out, HA.out, HX.out, HO.out, HCO.out, decide_eq_false hcell, decide_eq_true (p := 0 ≤ hd) (by omega)]
    simp
  obtain ⟨cn, hcn⟩ : ∃ cn, Hid ((decide (0 ≤ freshF (usedV l0 l1 l2 l3)) && decide (l2.length + l3.length < 6)) = cn) := ⟨_, rfl⟩
  rw [hcn.out] at HU HB
  have A0c0 := A0.c0; have A0c1 := A0.c1; have A0c3 := A0.c3
  cases cn
  · go_wp2_with fail
    clear A0c0 A0c1 A0c2 A0c3 A0
    refine (iUnfold_out _ _ _ _ _ _ _ _ l0 l1 l2 l3 _ _ n0 n1 n2 n3 r0 r1 r2 r3 z0 z1 z2 z3 HU.out).mono ?_
    rintro e w6 ⟨p0, p1, p2, p3, q0, q1, q2, q3, rfl, hb⟩
    have al : Below w6.heap.size w6 (w6.alloc (.cells #[.slice p0 0 q0, .slice p1 0 q1, .slice p2 0 q2, .slice p3 0 q3] 28)) := (Below.refl _ _).alloc (Nat.le_refl _) _
    have zz : w.heap.size + 1 < w6.heap.size := Nat.lt_of_lt_of_le R0.lt hb.size
    replace R0 := (R0.below hb R0.lt).below al zz; replace L0 := (L0.trans (hb.mono L0.size)).trans (al.mono (Nat.le_trans L0.size hb.size))
    clear hb al
    go_upto_region 8 with fail
    generalize w6.alloc (.cells #[.slice p0 0 q0, .slice p1 0 q1, .slice p2 0 q2, .slice p3 0 q3] 28) = w7 at *
    have HE : Hid ((exB l0 l1 l2 l3 t) = false) := by show (exB l0 l1 l2 l3 t) = false; exact HB.out
    have HI : Hid (exI l0 l1 l2 l3 t = -1) := by show exI l0 l1 l2 l3 t = -1; unfold exI; rw [HE.out]; rfl
    obtain ⟨F, FO⟩ := R0.fill (.slice none 0 0) (.slice none 0 0) (.slice none 0 0) (.slice none 0 0)
    have j0' := R0.c0; have j1' := R0.c1; have j2' := R0.c2; have j3' := R0.c3
    have g0 := R0.f0; have g1 := R0.f1; have g2 := R0.f2; have g3 := R0.f3
    go_wp2
    have i0 := F.c0; have i1 := F.c1; have i2 := F.c2; have i3 := F.c3
    refine bodyPost_ret (v := .tuple #[.agg #[.slice none 0 0, .slice none 0 0, .slice none 0 0, .slice none 0 0], .int .i64 (-1), .bool false]) ?_ rfl ⟨none, none, none, none, 0, 0, 0, 0, by rw [HE.out, HI.out]; rfl, ?_, ?_⟩
    · simp [results, Try.results121, go_sem, i0, i1, i2, i3]
    · rw [HE.out]; exact (Four.none _ w.heap.size).mono (Nat.le_refl _) (by have := FO.size; have := L0.size; omega)
    · exact L0.trans (FO.below (by omega) L0.size)

  · have HI : Hid (exI l0 l1 l2 l3 t = (l2.length : Int)) := by show exI _ _ _ _ _ = _; unfold exI; rw [HB.out, if_pos rfl, HJ.out, if_neg hcell]
    obtain ⟨U2, hU2⟩ : ∃ U, Hid (unfC l2 (l3.getD (hd - (l2.length : Int)).toNat (0, 0)) (freshF (usedV l0 l1 l2 l3)) = U) := ⟨_, rfl⟩
    obtain ⟨U3, hU3⟩ : ∃ U, Hid (unfS l3 (hd - (l2.length : Int)).toNat (l3.getD (hd - (l2.length : Int)).toNat (0, 0)) (freshF (usedV l0 l1 l2 l3)) = U) := ⟨_, rfl⟩
    have HL2 : Hid (exL2 l0 l1 l2 l3 t = U2) := by show exL2 _ _ _ _ _ = _; unfold exL2; rw [HJ.out, if_neg hcell, hU2.out]
    have HL3 : Hid (exL3 l0 l1 l2 l3 t = U3) := by show exL3 _ _ _ _ _ = _; unfold exL3; rw [HJ.out, if_neg hcell, hU3.out]
    go_wp2_with fail
    clear A0c0 A0c1 A0c2 A0c3 A0
    refine (iUnfold_at _ _ _ _ _ _ _ _ l0 l1 l2 l3 _ _ n0 n1 n2 n3 r0 r1 r2 r3 z0 z1 z2 z3 HU.out U2 U3 hU2.out hU3.out).mono ?_
    rintro e w6 ⟨p0, p1, p2, p3, q0, q1, q2, q3, rfl, T, hb⟩
    have zR := R0.lt
    have al : Below w6.heap.size w6 (w6.alloc (.cells #[.slice p0 l0.length q0, .slice p1 l1.length q1, .slice p2 U2.length q2, .slice p3 U3.length q3] 28)) := (Below.refl _ _).alloc (Nat.le_refl _) _
    have zz : w.heap.size + 1 < w6.heap.size := Nat.lt_of_lt_of_le R0.lt hb.size
    replace R0 := (R0.below hb R0.lt).below al zz; replace L0 := (L0.trans (hb.mono L0.size)).trans (al.mono (Nat.le_trans L0.size hb.size))
    have BX := Box.new w6 (.slice p0 l0.length q0) (.slice p1 l1.length q1) (.slice p2 U2.length q2) (.slice p3 U3.length q3) 28
    replace T := T.below al (Nat.le_refl _)
    have zs := al.size
    clear hb al
    go_upto_region 8 with fail
    generalize w6.alloc (.cells #[.slice p0 l0.length q0, .slice p1 l1.length q1, .slice p2 U2.length q2, .slice p3 U3.length q3] 28) = w7 at *
    generalize w6.heap.size = Z at *
    have x0 := BX.c0; have x1 := BX.c1; have x2 := BX.c2; have x3 := BX.c3
    obtain ⟨F, FO⟩ := R0.fill (.slice p0 l0.length q0) (.slice p1 l1.length q1) (.slice p2 U2.length q2) (.slice p3 U3.length q3)
    have j0' := R0.c0; have j1' := R0.c1; have j2' := R0.c2; have j3' := R0.c3
    have g0' := R0.f0; have g1' := R0.f1; have g2' := R0.f2; have g3' := R0.f3
    go_wp2
    have i0 := F.c0; have i1 := F.c1; have i2 := F.c2; have i3 := F.c3
    have hfs := FO.size
    refine bodyPost_ret (v := .tuple #[.agg #[.slice p0 l0.length q0, .slice p1 l1.length q1, .slice p2 U2.length q2, .slice p3 U3.length q3], .int .i64 (l2.length : Int), .bool true]) ?_ rfl ⟨p0, p1, p2, p3, q0, q1, q2, q3, by rw [HB.out, HI.out, HL2.out, HL3.out]; rfl, ?_, ?_⟩
    · simp [results, Try.results121, go_sem, i0, i1, i2, i3]
    · rw [HB.out, HL2.out, HL3.out]
      exact (T.out FO (.inr (by omega))).mono (by omega) (by omega)
    · exact L0.trans (FO.below (by omega) L0.size)

end Go.Proofs.Ytphchdjbhbmnbaa
