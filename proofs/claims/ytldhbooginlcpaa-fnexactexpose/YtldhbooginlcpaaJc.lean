/-
  Classes of terms: sixteen numbers, joined by pairs. No statement is proved here.
-/
import Derived.Test.YtldhbooginlcpaaJn
namespace Go.Proofs.Ytldhbooginlcpaa
open Go.RowKit
/-- Each term's own number. -/
def ids : List Int := (List.range 16).map fun (i : Nat) => (i : Int)
theorem ids_length : ids.length = 16 := rfl
theorem ids_at {k : Nat} (h : k < 16) : ids.getD k 0 = (k : Int) := by simp [ids, h]
/-- Two classes become one. -/
def jn (c : List Int) (p : Int × Int) : List Int := reps c (max (c.getD p.1.toNat 0) (c.getD p.2.toNat 0)) (min (c.getD p.1.toNat 0) (c.getD p.2.toNat 0))
theorem jn_length (c : List Int) (p : Int × Int) : (jn c p).length = c.length := reps_length _ _ _
/-- The classes behind the pairs of l. -/
def clsV (l : List (Int × Int)) : List Int := l.foldl jn ids
theorem clsV_step {l : List (Int × Int)} {k : Nat} (hk : k < l.length) : clsV (l.take (k + 1)) = jn (clsV (l.take k)) (l.getD k (0, 0)) := by
  unfold clsV
  rw [List.take_add_one, List.getElem?_eq_getElem hk]
  simp only [Option.toList_some, List.foldl_append, List.foldl_cons, List.foldl_nil]
  rw [List.getD_eq_getElem?_getD, List.getElem?_eq_getElem hk, Option.getD_some]
/-- Sixteen numbers, each of them a term. -/
def Cls (c : List Int) : Prop := c.length = 16 ∧ ∀ k, k < 16 → 0 ≤ c.getD k 0 ∧ c.getD k 0 < 16
theorem Cls.ids : Cls ids := ⟨rfl, fun k hk => by rw [ids_at hk]; omega⟩
theorem Cls.reps {c : List Int} (h : Cls c) {u v : Int} (hv0 : 0 ≤ v) (hv1 : v < 16) : Cls (reps c u v) := by
  refine ⟨by rw [reps_length]; exact h.1, fun k hk => ?_⟩
  rw [reps_at c u v (by rw [h.1]; exact hk)]
  unfold rep
  have := h.2 k hk
  split <;> omega
theorem Cls.jn {c : List Int} (h : Cls c) {p : Int × Int} (h0 : 0 ≤ p.1 ∧ p.1 < 16) (h1 : 0 ≤ p.2 ∧ p.2 < 16) : Cls (jn c p) := by
  have := h.2 p.1.toNat (by omega)
  have := h.2 p.2.toNat (by omega)
  exact h.reps (by omega) (by omega)
theorem toks_get {l : List (Int × Int)} (h : toks l = true) {k : Nat} (hk : k < l.length) : (0 ≤ (l.getD k (0, 0)).1 ∧ (l.getD k (0, 0)).1 < 16) ∧ (0 ≤ (l.getD k (0, 0)).2 ∧ (l.getD k (0, 0)).2 < 16) := by
  simpa using toks_at h hk
theorem Cls.take {l : List (Int × Int)} (h : toks l = true) : ∀ k, k ≤ l.length → Cls (clsV (l.take k))
  | 0, _ => by simpa [clsV] using Cls.ids
  | k + 1, hk => by
    rw [clsV_step (by omega)]
    have ht := toks_get h (k := k) (by omega)
    exact (Cls.take h k (by omega)).jn ht.1 ht.2
theorem Cls.all {l : List (Int × Int)} (h : toks l = true) : Cls (clsV l) := by
  have := Cls.take h l.length (Nat.le_refl _)
  rwa [List.take_length] at this
theorem OwnI.zeros (w : World) (t : TypeId) : OwnI (w.alloc (.cells z16 t)) w.heap.size 16 (List.replicate 16 0) 16 := by
  rw [z16_ic]; exact OwnI.new w _ 16 rfl t
theorem OwnI.setCells {w : World} {b n k : Nat} {l : List Int} (h : OwnI w b n l k) (b' : Nat) (hp : b' ≠ b) : ∀ (vs : List Value), OwnI (w.setCells b' 0 vs) b n l k := by
  intro vs
  have go : ∀ (vs : List Value) (o : Nat) (w : World), OwnI w b n l k → OwnI (w.setCells b' o vs) b n l k := by
    intro vs
    induction vs with
    | nil => intro o w h; exact h
    | cons v vs ih => intro o w h; simp only [World.setCells]; exact ih _ _ (h.set_other b' o hp v)
  exact go vs 0 w h
theorem PBox.drew {w : World} {b : Nat} {x y : Int} (h : PBox w b x y) : PBox w.drew b x y := h.below ((Below.refl _ _).drew) h.lt
theorem PBox.range {w : World} {b : Nat} {x y : Int} (h : PBox w b x y) : w.rangeAt b 0 [.int .i64 x, .int .i64 y] := by
  intro j v hv
  match j, hv with
  | 0, hv => simp at hv; subst hv; exact h.c0
  | 1, hv => simp at hv; subst hv; exact h.c1
  | j + 2, hv => simp at hv
theorem OwnI.ofMid {w : World} {b : Nat} {c : List Int} (hl : c.length = 16) (h1 : w.rangeAt b 0 (ic c)) (h2 : w.there b 0 16) (h3 : b < w.heap.size) : OwnI w b 16 c 16 := by
  have hc : ∀ i, i < 16 → w.cell? ⟨b, i, none⟩ = some (.int .i64 (c.getD i 0)) := fun i hi => by
    have := h1 i _ (ic_get c (i := i) (by omega))
    rwa [Nat.zero_add] at this
  refine ⟨h3, fun j hj => ⟨⟨_, hc j hj⟩, ?_⟩, hc⟩
  have := (h2 j hj).2
  rwa [Nat.zero_add] at this

end Go.Proofs.Ytldhbooginlcpaa
