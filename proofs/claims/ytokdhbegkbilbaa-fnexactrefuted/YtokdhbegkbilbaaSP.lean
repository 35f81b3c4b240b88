/-
  What a function that answers a state and a flag leaves: a word for it.
-/
import Derived.Test.YtokdhbegkbilbaaOwn
import Derived.Test.YtokdhbegkbilbaaWh
namespace Go.Proofs.Ytokdhbegkbilbaa
open Go.RowKit Go.Maps

def tOf (t : List Int) (R : Option (List Int)) : List Int := if R.isSome = true then t else []

/-- The answer: the terms as they were and R's heap, each a row of its own behind what was there, and true; or nothing and false. -/
def SPost (t : List Int) (R : Option (List Int)) (w : World) (e : Ending) (w' : World) : Prop :=
  ∃ p0 p1 q0 q1 mi, e = .returned (.tuple #[.agg #[.slice p0 (tOf t R).length q0, .slice p1 (R.getD []).length q1], .bool R.isSome]) ∧ w.heap.size ≤ mi ∧ mi ≤ w'.heap.size ∧
    IntIn w' w.heap.size mi p0 (tOf t R).length (tOf t R) ∧ IntIn w' mi w'.heap.size p1 (R.getD []).length (R.getD []) ∧ Below w.heap.size w w'

theorem spost_none {t : List Int} {R : Option (List Int)} {w w' : World} (e : R = none) (L : Below w.heap.size w w') : SPost t R w (.returned (.tuple #[.agg #[.slice none 0 0, .slice none 0 0], .bool false])) w' := by
  subst e
  exact ⟨none, none, 0, 0, w.heap.size, rfl, Nat.le_refl _, L.size, ⟨rfl, .inl rfl⟩, ⟨rfl, .inl rfl⟩, L⟩

theorem spost_some {t l : List Int} {R : Option (List Int)} {w w' : World} {d0 d1 q0 q1 n : Nat} (e : R = some l) (hn : l.length = n) (g0 : w.heap.size ≤ d0) (g1 : d0 < d1) (h0 : OwnI w' d0 t.length t t.length) (h1 : OwnI w' d1 n l n) (L : Below w.heap.size w w') :
    SPost t R w (.returned (.tuple #[.agg #[.slice (some ⟨d0, 0, none⟩) t.length q0, .slice (some ⟨d1, 0, none⟩) n q1], .bool true])) w' := by
  subst e; subst hn
  exact ⟨some ⟨d0, 0, none⟩, some ⟨d1, 0, none⟩, q0, q1, d1, rfl, by omega, Nat.le_of_lt h1.1, IntIn.ofOwn h0 rfl g0 g1, IntIn.ofOwn h1 rfl (Nat.le_refl _) h1.1, L⟩

end Go.Proofs.Ytokdhbegkbilbaa
