/-
  A row of assertions with where it lies: seen, or its own memory throughout; what laws does with it.
-/
import Derived.Test.YtphchdjbhbmnbaaGbb
namespace Go.Proofs.Ytphchdjbhbmnbaa
open Go.RowKit
set_option linter.unusedVariables false

theorem _root_.Go.World.ownsRow.out {lo hi base n : Nat} {v : Value} {w w' : World} {xs : List Value} (h : w.ownsRow base 28 4 v n xs) (ho : Out lo hi w w') (hr : ∀ g, v.ownBlock = some g → g < lo ∨ hi ≤ g) : w'.ownsRow base 28 4 v n xs := by
  have hlt := h.lt
  obtain ⟨h1, h2 | ⟨g', cap', cur, e1, e2, e3, e4⟩⟩ := h
  · exact ⟨h1, .inl h2⟩
  · subst e1
    have e3' := e3
    rw [← ho.block g' (hlt g' rfl).2 (hr g' rfl)] at e3'
    exact ⟨h1, .inr ⟨g', cap', cur, rfl, e2, e3', e4⟩⟩

/-- A row of assertions in blocks from lo to hi. -/
structure RA (w : World) (lo hi : Nat) (v : Value) (L : List A4) (xs : List Value) : Prop where
  own : w.ownsRow lo 28 4 v L.length xs
  lt : ∀ g, v.ownBlock = some g → g < hi
  vs : VS w lo hi L xs
/-- A row of assertions in blocks from lo to hi, no two of its rows of pairs in one. -/
structure RB (w : World) (lo hi : Nat) (v : Value) (L : List A4) (xs : List Value) : Prop where
  own : w.ownsRow lo 28 4 v L.length xs
  lt : ∀ g, v.ownBlock = some g → g < hi
  vo : VO w L lo hi xs
theorem RB.seen {w : World} {lo hi : Nat} {v : Value} {L : List A4} {xs : List Value} (h : RB w lo hi v L xs) : RA w lo hi v L xs := ⟨h.own, h.lt, h.vo.vs⟩
theorem RA.ofOwn {w : World} {lo : Nat} {v : Value} {L : List A4} {xs : List Value} (h : w.ownsRow lo 28 4 v L.length xs) (k : VS w lo w.heap.size L xs) : RA w lo w.heap.size v L xs := ⟨h, fun g e => (h.lt g e).2, k⟩
theorem RB.ofOwn {w : World} {lo : Nat} {v : Value} {L : List A4} {xs : List Value} (h : w.ownsRow lo 28 4 v L.length xs) (k : VO w L lo w.heap.size xs) : RB w lo w.heap.size v L xs := ⟨h, fun g e => (h.lt g e).2, k⟩
theorem RA.out {w w' : World} {lo hi lo' hi' : Nat} {v : Value} {L : List A4} {xs : List Value} (h : RA w lo hi v L xs) (ho : Out lo' hi' w w') (hr : hi ≤ lo' ∨ hi' ≤ lo) : RA w' lo hi v L xs :=
  ⟨h.own.out ho fun g e => by have := h.lt g e; have := (h.own.lt g e).1; omega, h.lt, h.vs.out ho hr⟩
theorem RB.out {w w' : World} {lo hi lo' hi' : Nat} {v : Value} {L : List A4} {xs : List Value} (h : RB w lo hi v L xs) (ho : Out lo' hi' w w') (hr : hi ≤ lo' ∨ hi' ≤ lo) : RB w' lo hi v L xs :=
  ⟨h.own.out ho fun g e => by have := h.lt g e; have := (h.own.lt g e).1; omega, h.lt, h.vo.out ho hr⟩
theorem RA.below {w w' : World} {lo hi : Nat} {v : Value} {L : List A4} {xs : List Value} (h : RA w lo hi v L xs) (hb : Below w.heap.size w w') (hr : hi ≤ w.heap.size) : RA w' lo hi v L xs :=
  ⟨owns_belowA h.own hb, h.lt, h.vs.below hb hr⟩
theorem RB.below {w w' : World} {lo hi : Nat} {v : Value} {L : List A4} {xs : List Value} (h : RB w lo hi v L xs) (hb : Below w.heap.size w w') (hr : hi ≤ w.heap.size) : RB w' lo hi v L xs :=
  ⟨owns_belowA h.own hb, h.lt, h.vo.out (lo' := hi) (hi' := hi) (Out.ofBelow hb) (.inl (Nat.le_refl _))⟩

theorem eqAsnS_any {lo hi lo' hi' : Nat} {v v' : Value} {L : List A4} {xs ys : List Value} {w : World} (hL : L.length ≤ 1048576) (hl : ∀ x ∈ L, x.1.length ≤ 1048576 ∧ x.2.1.length ≤ 1048576 ∧ x.2.2.1.length ≤ 1048576 ∧ x.2.2.2.length ≤ 1048576)
    (G : RA w lo hi v L xs) (z1 : hi ≤ w.heap.size) (W : RA w lo' hi' v' L ys) (z2 : hi' ≤ w.heap.size) :
    Calls Try.prog 84 #[v, v'] w fun e w' => e = .returned (.bool true) ∧ Below w.heap.size w w' :=
  eqAsnS_vs lo hi lo' hi' _ _ v v' L xs ys w hL hl G.own G.vs z1 W.own W.vs z2

theorem markAsnS_any {lo hi : Nat} {v : Value} {L : List A4} {k : Int} {ys : List Value} {w : World} (hL2 : L.length ≤ 1048576) (h0 : 0 ≤ k) (h1 : k + szL L ≤ 16777216) (G : RB w lo hi v L ys) :
    Calls Try.prog 85 #[v, .int .i64 k] w fun e w' => e = .returned (.int .i64 (k + szL L)) ∧ RB w' lo hi v (mkL k L) ys ∧ Out lo hi w w' := by
  obtain ⟨own, lt, vo⟩ := G
  by_cases hL : L.length = 0
  · obtain ⟨a, cap, rfl⟩ := owns_form own
    obtain rfl : L = [] := List.length_eq_zero_iff.1 hL
    exact (markAsnS_none a cap k w).mono fun e w' ⟨he, hw⟩ => ⟨by rw [he]; simp [szL], hw ▸ ⟨own, lt, vo⟩, hw ▸ Out.refl _ _ _⟩
  · obtain ⟨a, cap, rfl⟩ := owns_form own
    obtain ⟨g, rfl⟩ : ∃ g, a = some ⟨g, 0, none⟩ := by
      rcases own.2 with ⟨e1, -⟩ | ⟨g, c, cur, e1, -⟩
      · injection e1 with e1 e2 e3; omega
      · injection e1 with e1; exact ⟨g, e1⟩
    exact (markAsnS_some lo lo hi g cap L k ys w (by omega) hL2 h0 h1 own vo).mono fun e w' ⟨he, hv, ho, hM⟩ => ⟨he, ⟨by rw [mkL_len]; exact ho, lt, hv⟩, hM.out⟩

theorem heldAsnS_any {lo hi : Nat} {v : Value} {L : List A4} {k : Int} {ys : List Value} {w : World} (hL2 : L.length ≤ 1048576) (h0 : 0 ≤ k) (h1 : k + szL L ≤ 16777216) (G : RB w lo hi v (mkL k L) ys) :
    Calls Try.prog 86 #[v, .int .i64 k] w fun e w' => e = .returned (.int .i64 (k + szL L)) ∧ Below w.heap.size w w' := by
  obtain ⟨own, lt, vo⟩ := G
  rw [mkL_len] at own
  by_cases hL : L.length = 0
  · obtain ⟨a, cap, rfl⟩ := owns_form own
    obtain rfl : L = [] := List.length_eq_zero_iff.1 hL
    exact (heldAsnS_none a cap k w).mono fun e w' ⟨he, hw⟩ => ⟨by rw [he]; simp [szL], hw ▸ Below.refl _ _⟩
  · obtain ⟨a, cap, rfl⟩ := owns_form own
    obtain ⟨g, rfl⟩ : ∃ g, a = some ⟨g, 0, none⟩ := by
      rcases own.2 with ⟨e1, -⟩ | ⟨g, c, cur, e1, -⟩
      · injection e1 with e1 e2 e3; omega
      · injection e1 with e1; exact ⟨g, e1⟩
    exact (heldAsnS_some lo lo hi g cap L k ys w (by omega) hL2 h0 h1 own vo).mono fun e w' ⟨he, hw⟩ => ⟨he, hw ▸ Below.refl _ _⟩

theorem casesV_mem (l2 : List (Int × Int)) : ∀ (t l0 l1 l3 : List (Int × Int)) (x : A4), x ∈ casesV l2 t l0 l1 l3 → x.1.length ≤ l0.length + t.length ∧ x.2.1.length ≤ l1.length + t.length ∧ x.2.2.1.length = l2.length ∧ x.2.2.2.length ≤ l3.length + t.length
  | [], l0, l1, l3, x, h => by
    unfold casesV at h
    split at h
    · cases h
    · rw [List.mem_singleton] at h
      subst h
      simp
  | p :: t, l0, l1, l3, x, h => by
    unfold casesV at h
    rw [List.mem_append] at h
    rcases h with h | h
    · have := casesV_mem l2 t _ _ _ x h
      simp only [List.length_append, List.length_cons, List.length_nil] at *
      omega
    · have := casesV_mem l2 t _ _ _ x h
      simp only [List.length_append, List.length_cons, List.length_nil] at *
      omega
theorem szL_le (c : Int) : ∀ (L : List A4), (∀ x ∈ L, sz4 x ≤ c) → szL L ≤ c * L.length
  | [], _ => by simp [szL]
  | x :: L, h => by
    have h1 := h x (List.mem_cons_self ..)
    have h2 := szL_le c L fun y hy => h y (List.mem_cons_of_mem _ hy)
    show sz4 x + szL L ≤ _
    rw [List.length_cons]
    have : c * ((L.length + 1 : Nat) : Int) = c * L.length + c := by push_cast; rw [Int.mul_add, Int.mul_one]
    rw [this]
    omega

theorem okA_facts (l0 l1 l2 l3 : List (Int × Int)) : (okA (roomB l0 l1 l2 l3) (casesV l2 l3 l0 l1 [])).length ≤ 64 ∧ (∀ x ∈ okA (roomB l0 l1 l2 l3) (casesV l2 l3 l0 l1 []), x.1.length ≤ 12 ∧ x.2.1.length ≤ 12 ∧ x.2.2.1.length ≤ 6 ∧ x.2.2.2.length ≤ 6) := by
  by_cases h : roomB l0 l1 l2 l3 = true
  · rw [h]
    simp only [okA, if_true]
    have hk := h
    unfold roomB asnB at hk
    simp only [Bool.and_eq_true, decide_eq_true_eq] at hk
    refine ⟨casesV_le _ _ _ _ _ (by omega), fun x hx => ?_⟩
    have := casesV_mem _ _ _ _ _ x hx
    simp only [List.length_nil] at this
    omega
  · rw [okA, if_neg h]
    exact ⟨by simp, fun x hx => by cases hx⟩
theorem okA_sz {U : List A4} (h1 : U.length ≤ 64) (h2 : ∀ x ∈ U, x.1.length ≤ 12 ∧ x.2.1.length ≤ 12 ∧ x.2.2.1.length ≤ 6 ∧ x.2.2.2.length ≤ 6) : 1 + szL U ≤ 16777216 := by
  have := szL_le 72 U fun x hx => by have := h2 x hx; unfold sz4; omega
  have h3 : (U.length : Int) ≤ 64 := by omega
  omega

end Go.Proofs.Ytphchdjbhbmnbaa
