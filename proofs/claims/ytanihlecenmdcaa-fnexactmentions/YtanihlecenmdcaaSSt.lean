/-
  Sets of integers in memory: words for them, and the contracts of impl's has, add and setOf.
-/
import Derived.Test.YtanihlecenmdcaaSMk
import Derived.Maps.OwnSet
import Derived.Maps.OwnOps
import Derived.Maps.RangeWalk
import Derived.Maps.Ext
namespace Go.Proofs.Ytanihlecenmdcaa.S
open Go.RowKit Go.Maps
theorem law3 : Keyed Try.prog 3 := int_keyed Try.underlying3
theorem zero3 (w : World) : (zeroValue 3).run Try.prog w = .ok (.int .i64 0) w := by kernel_rfl
theorem zero96 (w : World) : (zeroValue 128).run Try.prog w = .ok (.agg #[]) w := by kernel_rfl
abbrev ik (x : Int) : Lit := .int .i64 x
theorem ik_key (x : Int) : WideAt.IsKeyLit (ik x) := trivial
theorem ik_ne {x y : Int} (h : x ≠ y) : ik x ≠ ik y := fun e => h (by injection e)
/-- The set of integers in block b of w (at most N entries) has those of p, and nothing else. -/
def HS (w : World) (b N : Nat) (p : Int → Bool) : Prop :=
  ∃ D, w.ownsMap (H := Unit) Try.prog 3 unitElem b N D ∧ ∀ x, Maps.has D (ik x) = p x
theorem owns_block {H : Type} {w w' : World} {k b n : Nat} {R : Value → Option (DataW H × List MemPlace)} {D : DataW H} (h : w.ownsMap Try.prog k R b n D) (e : w'.heap[b]? = w.heap[b]?) : w'.ownsMap Try.prog k R b n D := by
  obtain ⟨es, clock, hb, F, hs, hD⟩ := h
  exact ⟨es, clock, e.trans hb, F, hs, hD⟩
theorem HS.lt {w : World} {b N : Nat} {p : Int → Bool} (h : HS w b N p) : b < w.heap.size := h.choose_spec.1.lt
theorem HS.block {w w' : World} {b N : Nat} {p : Int → Bool} (h : HS w b N p) (e : w'.heap[b]? = w.heap[b]?) : HS w' b N p := by
  obtain ⟨D, ho, hf⟩ := h
  exact ⟨D, owns_block ho e, hf⟩
theorem HS.below {w w' : World} {b N B : Nat} {p : Int → Bool} (h : HS w b N p) (hb : Below B w w') (hB : b < B) : HS w' b N p := h.block (hb.block b hB)
theorem HS.keep {w w' : World} {b N : Nat} {p : Int → Bool} (h : HS w b N p) (hb : Below w.heap.size w w') : HS w' b N p := h.below hb h.lt
theorem HS.out {lo hi : Nat} {w w' : World} {b N : Nat} {p : Int → Bool} (h : HS w b N p) (ho : Out lo hi w w') (hr : b < lo ∨ hi ≤ b) : HS w' b N p := h.block (ho.block b h.lt hr)
theorem HS.alloc {w : World} {b N : Nat} {p : Int → Bool} (h : HS w b N p) (o : Obj) : HS (w.alloc o) b N p := h.keep ((Below.refl _ _).alloc (Nat.le_refl _) o)
theorem HS.mono {w : World} {b N M : Nat} {p : Int → Bool} (h : HS w b N p) (hm : N ≤ M) : HS w b M p := by
  obtain ⟨D, ho, hf⟩ := h
  exact ⟨D, ho.mono hm, hf⟩
theorem HS.made (w : World) : HS (w.alloc (.map #[] 0)) w.heap.size 0 (fun _ => false) :=
  ⟨.map [], World.ownsMap_made _ _ _ _, fun _ => rfl⟩
theorem grown_out {w w' : World} {b : Nat} (h : w.grownBy w' (some b)) : Out b (b + 1) w w' :=
  ⟨h.os, h.tape, h.output, h.size, fun k hk hr => h.block k hk (fun e => by have := Option.some.inj e; omega)⟩
theorem hs_put {D : DataW Unit} {p : Int → Bool} {x : Int} (d : DataW Unit) (hm : IsMap D) (hf : ∀ x, Maps.has D (ik x) = p x) :
    ∀ z, Maps.has (D.put (ik x) d) (ik z) = (p z || decide (z = x)) := by
  intro z
  by_cases e : z = x
  · subst e
    rw [has_put_same hm (ik_key _)]; simp
  · rw [has_put_other (ik_ne e), hf z]; simp [e]
set_option maxHeartbeats 400000 in
theorem has_any (b N : Nat) (p : Int → Bool) (x : Int) (w : World) (wx : (Lit.int .i64 x).wf = true) (hm : HS w b N p) :
    Calls Try.prog 136 #[.map (some b), .int .i64 x] w fun e w' => e = .returned (.bool (p x)) ∧ Below w.heap.size w w' := by
  obtain ⟨Dm, hown, hf⟩ := hm
  have HF : Hid (Maps.has Dm (ik x) = p x) := hf x
  clear hf
  go_enter Try.func136, Try.ntmps136
  go_wp2_with (first
    | (at_lookup; refine wpList_lookup_own_unit _ rfl _ _ 93 rfl 3 128 law3 Try.underlying93 (zero96 _) b N _ rfl hown _ _ rfl (keyOf_int_mk Try.underlying3 wx) ?_)
    | go_in)
  go_ret
  exact ⟨ret_bool HF.out, (Below.refl _ _).alloc (Nat.le_refl _) _⟩
set_option maxHeartbeats 400000 in
theorem add_any (b N : Nat) (p : Int → Bool) (x : Int) (w : World) (wx : (Lit.int .i64 x).wf = true) (hN : N ≤ 1048576) (hm : HS w b N p) :
    Calls Try.prog 100 #[.map (some b), .int .i64 x] w fun e w' => e = .returned (.bool (!p x)) ∧ HS w' b (N + 1) (fun z => p z || decide (z = x)) ∧ Out b (b + 1) w w' := by
  have hc := has_any b N p x w wx hm
  cases hp : p x
  · rw [hp] at hc
    go_enter Try.func100, Try.ntmps100
    go_wp2_with fail
    refine hc.mono ?_
    rintro e w1 ⟨rfl, hb⟩
    obtain ⟨Dm, hown, hf⟩ := hm.keep hb
    have HF : Hid (∀ x, Maps.has Dm (ik x) = p x) := hf
    clear hf hc hm
    go_wp2_with (first
      | (at_mapUpdate; refine wpList_mapUpdate_own _ rfl _ _ _ 93 rfl 3 128 law3 Try.underlying93 _ b N _ rfl hown (by unfold maxLen; omega) _ _ _ rfl rfl (keyOf_int_mk Try.underlying3 wx) _ [] unitElem_mk ?_; intro w2 hown1 hgrow1)
      | go_in)
    go_ret
    exact ⟨rfl, ⟨_, hown1, hs_put _ hown.isMap HF.out⟩, (Out.ofBelow hb).trans (grown_out hgrow1)⟩
  · rw [hp] at hc
    have HP : Hid (p x = true) := hp
    clear hp
    go_enter Try.func100, Try.ntmps100
    go_wp2_with fail
    refine hc.mono ?_
    rintro e w1 ⟨rfl, hb⟩
    go_wp2
    go_ret
    refine ⟨rfl, ?_, Out.ofBelow hb⟩
    have e : (fun z => p z || decide (z = x)) = p := by
      funext z
      by_cases e : z = x
      · subst e; rw [HP.out]; rfl
      · simp [e]
    rw [e]
    exact (hm.keep hb).mono (Nat.le_succ _)
end Go.Proofs.Ytanihlecenmdcaa.S
