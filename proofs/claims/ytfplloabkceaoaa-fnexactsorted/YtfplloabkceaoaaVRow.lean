/-
  Four slices in one block, filled one after the other; the contracts of impl.replaced and impl.asnOf.
-/
import Derived.Test.YtfplloabkceaoaaSSubst
import Derived.Test.YtfplloabkceaoaaPairs
import Derived.Deep.RegionLaw
import Derived.Deep.AppendLies
import Derived.Outline
namespace Go.Proofs.Ytfplloabkceaoaa
open Go.RowKit

/-- Block b holds the four values V 0 .. V 3. -/
def VRow (w : World) (b : Nat) (V : Nat → Value) : Prop := b < w.heap.size ∧ ∀ j, j < 4 → w.cell? ⟨b, j, none⟩ = some (V j) ∧ w.frozen? ⟨b, j, none⟩ = false

theorem VRow.below {B : Nat} {w w' : World} {b : Nat} {V : Nat → Value} (h : VRow w b V) (hb : Below B w w') (hB : b < B) : VRow w' b V :=
  ⟨Nat.lt_of_lt_of_le h.1 hb.size, fun j hj => by rw [hb.cell (p := ⟨b, j, none⟩) hB, hb.frozen (p := ⟨b, j, none⟩) hB]; exact h.2 j hj⟩

theorem VRow.grown {w w' : World} {b : Nat} {V : Nat → Value} {row : Option Nat} (h : VRow w b V) (hg : w.grownBy w' row) (hr : some b ≠ row) : VRow w' b V :=
  ⟨Nat.lt_of_lt_of_le h.1 hg.size, fun j hj => by rw [hg.cell_far ⟨b, j, none⟩ h.1 hr, hg.frozen_far ⟨b, j, none⟩ h.1 hr]; exact h.2 j hj⟩

theorem VRow.put {w : World} {b : Nat} {V : Nat → Value} (h : VRow w b V) (i : Nat) (v : Value) : VRow (w.setCell ⟨b, i, none⟩ v) b (fun j => if j = i then v else V j) := by
  refine ⟨by simpa using h.1, fun j hj => ⟨?_, by simpa using (h.2 j hj).2⟩⟩
  rw [cell_set (h.2 j hj).1]
  by_cases e : i = j
  · simp [e]
  · simp [e, show ¬ j = i from fun x => e x.symm]

theorem VRow.congr {w : World} {b : Nat} {V U : Nat → Value} (h : VRow w b V) (e : ∀ j, j < 4 → V j = U j) : VRow w b U := ⟨h.1, fun j hj => by rw [← e j hj]; exact h.2 j hj⟩

theorem VRow.new (w : World) (v0 v1 v2 v3 : Value) (t : TypeId) (V : Nat → Value) (e0 : V 0 = v0) (e1 : V 1 = v1) (e2 : V 2 = v2) (e3 : V 3 = v3) : VRow (w.alloc (.cells #[v0, v1, v2, v3] t)) w.heap.size V := by
  refine ⟨by simp, fun j hj => ⟨?_, by simp⟩⟩
  rw [World.cell?_alloc_new]
  match j, hj with
  | 0, _ => rw [e0]; rfl
  | 1, _ => rw [e1]; rfl
  | 2, _ => rw [e2]; rfl
  | 3, _ => rw [e3]; rfl

theorem Out.grown {lo hi : Nat} {a w w' : World} {row : Option Nat} (h : Out lo hi a w) (hg : w.grownBy w' row) (hr : ∀ k, row = some k → a.heap.size ≤ k) : Out lo hi a w' :=
  ⟨hg.os.trans h.os, hg.tape.trans h.tape, hg.output.trans h.output, Nat.le_trans h.size hg.size, fun k hk hk' => (hg.block k (Nat.lt_of_lt_of_le hk h.size) (fun e => by have := hr k e.symm; omega)).trans (h.block k hk hk')⟩

set_option maxHeartbeats 400000 in
theorem vreplaced_any (x t b : Int) (w : World) : Calls Try.prog 136 #[.int .i64 x, .int .i64 t, .int .i64 b] w fun e w' => e = .returned (.int .i64 (sw t b x)) ∧ w' = w := by
  cases h : (x == t)
  · go_enter Try.func136, Try.ntmps136
    go_wp2
    go_ret
    exact ⟨ret_int (by simp at h; simp [sw, h]), rfl⟩
  · go_enter Try.func136, Try.ntmps136
    go_wp2
    go_ret
    exact ⟨ret_int (by simp at h; simp [sw, h]), rfl⟩

set_option maxHeartbeats 400000 in
theorem asnOf_any (a0 a1 a2 a3 : Option Addr) (n0 n1 n2 n3 c0 c1 c2 c3 : Nat) (w : World) :
    Calls Try.prog 137 #[.agg #[.slice a0 n0 c0, .slice a1 n1 c1, .slice a2 n2 c2, .slice a3 n3 c3]] w fun e w' => e = .returned (.agg #[.slice a0 n0 c0, .slice a1 n1 c1, .slice a2 n2 c2, .slice a3 n3 c3]) ∧ Below w.heap.size w w' := by
  go_enter Try.func137, Try.ntmps137
  go_wp2
  exact bodyPost_ret (v := .agg #[.slice a0 n0 c0, .slice a1 n1 c1, .slice a2 n2 c2, .slice a3 n3 c3]) (by simp [results, Try.results137, go_sem]) rfl ⟨rfl, ((Below.refl _ _).alloc (Nat.le_refl _) _).alloc (by simp) _⟩

theorem idxK (b0 b1 b2 b3 : Nat) (c0 c1 c2 c3 : Nat) (l0 l1 l2 l3 : List (Int × Int)) (k : Nat) (hk : k < 4) (w : World) : (Instr.index 88 (.agg #[.slice (some ⟨b0, 0, none⟩) l0.length c0, .slice (some ⟨b1, 0, none⟩) l1.length c1, .slice (some ⟨b2, 0, none⟩) l2.length c2, .slice (some ⟨b3, 0, none⟩) l3.length c3]) (.int .i64 k)).run Try.prog w = .ok (.slice (some ⟨kindB b0 b1 b2 b3 k, 0, none⟩) (kindL l0 l1 l2 l3 k).length (kindB c0 c1 c2 c3 k)) w := by
  match k, hk with
  | 0, _ => exact idx0 _ _ _ _ _ _ _ _ _ _ _ _ w
  | 1, _ => exact idx1 _ _ _ _ _ _ _ _ _ _ _ _ w
  | 2, _ => exact idx2 _ _ _ _ _ _ _ _ _ _ _ _ w
  | 3, _ => exact idx3 _ _ _ _ _ _ _ _ _ _ _ _ w

theorem kindB_lt {b0 b1 b2 b3 X : Nat} (h0 : b0 < X) (h1 : b1 < X) (h2 : b2 < X) (h3 : b3 < X) (k : Int) : kindB b0 b1 b2 b3 k < X := by
  unfold kindB
  split
  · exact h0
  · split
    · exact h1
    · split
      · exact h2
      · exact h3

theorem news2 (w : World) (o : Obj) (x y : Int) (t : TypeId) : ∀ j u, (pc [(x, y)])[j]? = some u → (((w.alloc o).alloc (.cells #[.int .i64 x, .int .i64 y] t)).drew).cell? ((⟨w.heap.size + 1, 0, none⟩ : Addr).add j) = some u := by
  intro j u hj
  match j, hj with
  | 0, hj => simp [pc] at hj; subst hj; simp [addr_add]
  | 1, hj => simp [pc] at hj; subst hj; simp [addr_add]
  | j + 2, hj => simp [pc] at hj

end Go.Proofs.Ytfplloabkceaoaa
