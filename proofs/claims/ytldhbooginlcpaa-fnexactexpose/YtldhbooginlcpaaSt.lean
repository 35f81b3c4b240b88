/-
  Sets of integers in memory: words for them, and the contracts of impl's has, add and setOf.
-/
import Derived.Test.YtldhbooginlcpaaL3
import Derived.Maps.OwnSet
import Derived.Maps.OwnOps
import Derived.Maps.RangeWalk
import Derived.Maps.Ext
namespace Go.Proofs.Ytldhbooginlcpaa
open Go.RowKit Go.Maps
theorem law3 : Keyed Try.prog 3 := int_keyed Try.underlying3
theorem zero3 (w : World) : (zeroValue 3).run Try.prog w = .ok (.int .i64 0) w := by kernel_rfl
theorem zero96 (w : World) : (zeroValue 141).run Try.prog w = .ok (.agg #[]) w := by kernel_rfl
abbrev ik (x : Int) : Lit := .int .i64 x
theorem ik_key (x : Int) : WideAt.IsKeyLit (ik x) := trivial
theorem ik_ne {x y : Int} (h : x ≠ y) : ik x ≠ ik y := fun e => h (by injection e)
/-- The set of integers in block b of w (at most N entries) has those of p, and nothing else. -/
def HS (w : World) (b N : Nat) (p : Int → Bool) : Prop :=
  ∃ D, w.ownsMap (H := Unit) Try.prog 3 unitElem b N D ∧ ∀ x, Maps.has D (ik x) = p x
theorem owns_block {H : Type} {w w' : World} {k b n : Nat} {R : Value → Option (DataW H × List MemPlace)} {D : DataW H} (h : w.ownsMap Try.prog k R b n D) (e : w'.heap[b]? = w.heap[b]?) : w'.ownsMap Try.prog k R b n D := by
  obtain ⟨es, clock, hb, F, hs, hD⟩ := h
  exact ⟨es, clock, e.trans hb, F, hs, hD⟩
theorem HS.lt {w : World} {b N : Nat} {p : Int → Bool} (h : HS w b N p) : b < w.heap.size := h.choose_spec.1.lt
theorem HS.block {w w' : World} {b N : Nat} {p : Int → Bool} (h : HS w b N p) (e : w'.heap[b]? = w.heap[b]?) : HS w' b N p := by
  obtain ⟨D, ho, hf⟩ := h
  exact ⟨D, owns_block ho e, hf⟩
theorem HS.below {w w' : World} {b N B : Nat} {p : Int → Bool} (h : HS w b N p) (hb : Below B w w') (hB : b < B) : HS w' b N p := h.block (hb.block b hB)
theorem HS.keep {w w' : World} {b N : Nat} {p : Int → Bool} (h : HS w b N p) (hb : Below w.heap.size w w') : HS w' b N p := h.below hb h.lt
theorem HS.out {lo hi : Nat} {w w' : World} {b N : Nat} {p : Int → Bool} (h : HS w b N p) (ho : Out lo hi w w') (hr : b < lo ∨ hi ≤ b) : HS w' b N p := h.block (ho.block b h.lt hr)
theorem HS.alloc {w : World} {b N : Nat} {p : Int → Bool} (h : HS w b N p) (o : Obj) : HS (w.alloc o) b N p := h.keep ((Below.refl _ _).alloc (Nat.le_refl _) o)
theorem HS.mono {w : World} {b N M : Nat} {p : Int → Bool} (h : HS w b N p) (hm : N ≤ M) : HS w b M p := by
  obtain ⟨D, ho, hf⟩ := h
  exact ⟨D, ho.mono hm, hf⟩
theorem HS.made (w : World) : HS (w.alloc (.map #[] 0)) w.heap.size 0 (fun _ => false) :=
  ⟨.map [], World.ownsMap_made _ _ _ _, fun _ => rfl⟩
theorem grown_out {w w' : World} {b : Nat} (h : w.grownBy w' (some b)) : Out b (b + 1) w w' :=
  ⟨h.os, h.tape, h.output, h.size, fun k hk hr => h.block k hk (fun e => by have := Option.some.inj e; omega)⟩
theorem hs_put {D : DataW Unit} {p : Int → Bool} {x : Int} (d : DataW Unit) (hm : IsMap D) (hf : ∀ x, Maps.has D (ik x) = p x) :
    ∀ z, Maps.has (D.put (ik x) d) (ik z) = (p z || decide (z = x)) := by
  intro z
  by_cases e : z = x
  · subst e
    rw [has_put_same hm (ik_key _)]; simp
  · rw [has_put_other (ik_ne e), hf z]; simp [e]
set_option maxHeartbeats 400000 in
theorem has_any (b N : Nat) (p : Int → Bool) (x : Int) (w : World) (wx : (Lit.int .i64 x).wf = true) (hm : HS w b N p) :
    Calls Try.prog 193 #[.map (some b), .int .i64 x] w fun e w' => e = .returned (.bool (p x)) ∧ Below w.heap.size w w' := by
  obtain ⟨Dm, hown, hf⟩ := hm
  have HF : Hid (Maps.has Dm (ik x) = p x) := hf x
  clear hf
  go_enter Try.func193, Try.ntmps193
  go_wp2_with (first
    | (at_lookup; refine wpList_lookup_own_unit _ rfl _ _ 109 rfl 3 141 law3 Try.underlying109 (zero96 _) b N _ rfl hown _ _ rfl (keyOf_int_mk Try.underlying3 wx) ?_)
    | go_in)
  go_ret
  exact ⟨ret_bool HF.out, (Below.refl _ _).alloc (Nat.le_refl _) _⟩
set_option maxHeartbeats 400000 in
theorem add_any (b N : Nat) (p : Int → Bool) (x : Int) (w : World) (wx : (Lit.int .i64 x).wf = true) (hN : N ≤ 1048576) (hm : HS w b N p) :
    Calls Try.prog 148 #[.map (some b), .int .i64 x] w fun e w' => e = .returned (.bool (!p x)) ∧ HS w' b (N + 1) (fun z => p z || decide (z = x)) ∧ Out b (b + 1) w w' := by
  have hc := has_any b N p x w wx hm
  cases hp : p x
  · rw [hp] at hc
    go_enter Try.func148, Try.ntmps148
    go_wp2_with fail
    refine hc.mono ?_
    rintro e w1 ⟨rfl, hb⟩
    obtain ⟨Dm, hown, hf⟩ := hm.keep hb
    have HF : Hid (∀ x, Maps.has Dm (ik x) = p x) := hf
    clear hf hc hm
    go_wp2_with (first
      | (at_mapUpdate; refine wpList_mapUpdate_own _ rfl _ _ _ 109 rfl 3 141 law3 Try.underlying109 _ b N _ rfl hown (by unfold maxLen; omega) _ _ _ rfl rfl (keyOf_int_mk Try.underlying3 wx) _ [] unitElem_mk ?_; intro w2 hown1 hgrow1)
      | go_in)
    go_ret
    exact ⟨rfl, ⟨_, hown1, hs_put _ hown.isMap HF.out⟩, (Out.ofBelow hb).trans (grown_out hgrow1)⟩
  · rw [hp] at hc
    have HP : Hid (p x = true) := hp
    clear hp
    go_enter Try.func148, Try.ntmps148
    go_wp2_with fail
    refine hc.mono ?_
    rintro e w1 ⟨rfl, hb⟩
    go_wp2
    go_ret
    refine ⟨rfl, ?_, Out.ofBelow hb⟩
    have e : (fun z => p z || decide (z = x)) = p := by
      funext z
      by_cases e : z = x
      · subst e; rw [HP.out]; rfl
      · simp [e]
    rw [e]
    exact (hm.keep hb).mono (Nat.le_succ _)
def WFL (l : List Int) : Prop := ∀ i, i < l.length → (Lit.int .i64 (l.getD i 0)).wf = true
theorem take_snoc {l : List Int} {k : Nat} (hk : k < l.length) : l.take (k + 1) = l.take k ++ [l.getD k 0] := by
  rw [List.take_add_one]
  simp [hk]
set_option maxHeartbeats 1000000 in
theorem setOf_some (b c : Nat) (l : List Int) (w : World) (hn : l.length ≤ 1048576) (hw : Hid (WFL l)) (ho : OwnI w b l.length l l.length) :
    Calls Try.prog 147 #[.slice (some ⟨b, 0, none⟩) l.length c] w fun e w' => e = .returned (.map (some w.heap.size)) ∧ HS w' w.heap.size l.length (fun q => decide (q ∈ l)) ∧ Below w.heap.size w w' := by
  have hmm := @run_makeMap Try.prog
  have h0 := HS.made w
  have L0 : Below w.heap.size w (w.alloc (.map #[] 0)) := (Below.refl _ _).alloc (Nat.le_refl _) _
  have HT : Hid (∀ k, k < l.length → l.take (k + 1) = l.take k ++ [l.getD k 0]) := fun k hk => take_snoc hk
  have HA : Hid (l.take l.length = l) := List.take_length
  have HW : Hid (∀ i, i < l.length → (Lit.int .i64 (l.getD i 0)).wf = true) := hw.out
  clear hw
  generalize hN : l.length = n at *
  clear hN
  have hbl := ho.1
  go_enter Try.func147, Try.ntmps147
  go_wp2
  go_loopw [5, 9] (fun _ i wr => ∃ k : Nat, k ≤ n ∧ i = .int .i64 k ∧ HS wr w.heap.size k (fun q => decide (q ∈ l.take k)) ∧ Below w.heap.size w wr) (fun _ i _ => n - (intOf i).toNat)
  case atStart => exact ⟨0, Nat.zero_le _, rfl, by simpa using h0, L0⟩
  case round =>
    clear h0 L0
    obtain ⟨k, hk, rfl, hm, hbw⟩ := hrel
    by_cases hlt : k < n
    · have hx := (ho.below hbw hbl).2.2 k hlt
      have wx := HW.out k hlt
      obtain ⟨x, ex⟩ : ∃ x, Hid (l.getD k 0 = x) := ⟨_, rfl⟩
      rw [ex.out] at hx wx
      have hc := add_any w.heap.size k _ x wr wx (by omega) hm
      have eS : (fun q => decide (q ∈ l.take k) || decide (q = x)) = fun q => decide (q ∈ l.take (k + 1)) := by
        funext q; rw [HT.out k hlt, ex.out]; simp
      rw [eS] at hc
      clear eS
      go_wp2_with fail
      refine hc.mono ?_
      rintro e w1 ⟨rfl, hm1, ho1⟩
      have hb1 := hbw.trans (ho1.below (Nat.le_refl _) hbw.size)
      clear hc hx hbw hm ho1
      go_wp2
      go_roundw
      case rel => exact ⟨k + 1, by omega, by go_num, hm1, hb1⟩
      case measure => simp [intOf]; omega
    · obtain rfl : k = n := by omega
      go_wp2
      go_ret
      exact ⟨rfl, by rw [HA.out] at hm; exact hm, hbw⟩
end Go.Proofs.Ytldhbooginlcpaa
