/-
  Heaps as maps and sets of addresses, in memory: words for them, and the contracts of impl.heapOf, there, has, add.
-/
import Derived.Test.YtokdhbegkbilbaaOk
import Derived.Maps.OwnSet
import Derived.Maps.OwnOps
import Derived.Maps.RangeWalk
namespace Go.Proofs.Ytokdhbegkbilbaa
open Go.RowKit Go.Maps

theorem law3 : Keyed Try.prog 3 := int_keyed Try.underlying3
theorem zero3 (w : World) : (zeroValue 3).run Try.prog w = .ok (.int .i64 0) w := by kernel_rfl
theorem zero114 (w : World) : (zeroValue 117).run Try.prog w = .ok (.agg #[]) w := by kernel_rfl

abbrev ik (x : Int) : Lit := .int .i64 x
theorem ik_key (x : Int) : WideAt.IsKeyLit (ik x) := trivial
theorem ik_ne {x y : Int} (h : x ≠ y) : ik x ≠ ik y := fun e => h (by injection e)

/-- The map of integers in block b of w (at most N entries) has f's pairs, and nothing else. -/
def HM (w : World) (b N : Nat) (f : Int → Option Int) : Prop :=
  ∃ D, w.ownsMap (H := Unit) Try.prog 3 (plainElem Try.prog 3) b N D ∧ ∀ x, (f x = none → Maps.has D (ik x) = false) ∧ ∀ y, f x = some y → Maps.has D (ik x) = true ∧ ∀ z, D.atKey (ik x) z = .lit (.int .i64 y)

/-- The set of integers in block b of w (at most N entries) has those of p, and nothing else. -/
def HS (w : World) (b N : Nat) (p : Int → Bool) : Prop :=
  ∃ D, w.ownsMap (H := Unit) Try.prog 3 unitElem b N D ∧ ∀ x, Maps.has D (ik x) = p x

theorem owns_block {H : Type} {w w' : World} {k b n : Nat} {R : Value → Option (DataW H × List MemPlace)} {D : DataW H} (h : w.ownsMap Try.prog k R b n D) (e : w'.heap[b]? = w.heap[b]?) : w'.ownsMap Try.prog k R b n D := by
  obtain ⟨es, clock, hb, F, hs, hD⟩ := h
  exact ⟨es, clock, e.trans hb, F, hs, hD⟩

theorem HM.lt {w : World} {b N : Nat} {f : Int → Option Int} (h : HM w b N f) : b < w.heap.size := h.choose_spec.1.lt
theorem HS.lt {w : World} {b N : Nat} {p : Int → Bool} (h : HS w b N p) : b < w.heap.size := h.choose_spec.1.lt
theorem HM.block {w w' : World} {b N : Nat} {f : Int → Option Int} (h : HM w b N f) (e : w'.heap[b]? = w.heap[b]?) : HM w' b N f := by
  obtain ⟨D, ho, hf⟩ := h
  exact ⟨D, owns_block ho e, hf⟩
theorem HS.block {w w' : World} {b N : Nat} {p : Int → Bool} (h : HS w b N p) (e : w'.heap[b]? = w.heap[b]?) : HS w' b N p := by
  obtain ⟨D, ho, hf⟩ := h
  exact ⟨D, owns_block ho e, hf⟩
theorem HM.below {w w' : World} {b N B : Nat} {f : Int → Option Int} (h : HM w b N f) (hb : Below B w w') (hB : b < B) : HM w' b N f := h.block (hb.block b hB)
theorem HS.below {w w' : World} {b N B : Nat} {p : Int → Bool} (h : HS w b N p) (hb : Below B w w') (hB : b < B) : HS w' b N p := h.block (hb.block b hB)
theorem HM.keep {w w' : World} {b N : Nat} {f : Int → Option Int} (h : HM w b N f) (hb : Below w.heap.size w w') : HM w' b N f := h.below hb h.lt
theorem HS.keep {w w' : World} {b N : Nat} {p : Int → Bool} (h : HS w b N p) (hb : Below w.heap.size w w') : HS w' b N p := h.below hb h.lt
theorem HM.out {lo hi : Nat} {w w' : World} {b N : Nat} {f : Int → Option Int} (h : HM w b N f) (ho : Out lo hi w w') (hr : b < lo ∨ hi ≤ b) : HM w' b N f := h.block (ho.block b h.lt hr)
theorem HS.out {lo hi : Nat} {w w' : World} {b N : Nat} {p : Int → Bool} (h : HS w b N p) (ho : Out lo hi w w') (hr : b < lo ∨ hi ≤ b) : HS w' b N p := h.block (ho.block b h.lt hr)
theorem HM.alloc {w : World} {b N : Nat} {f : Int → Option Int} (h : HM w b N f) (o : Obj) : HM (w.alloc o) b N f := h.keep ((Below.refl _ _).alloc (Nat.le_refl _) o)
theorem HS.alloc {w : World} {b N : Nat} {p : Int → Bool} (h : HS w b N p) (o : Obj) : HS (w.alloc o) b N p := h.keep ((Below.refl _ _).alloc (Nat.le_refl _) o)
theorem HM.mono {w : World} {b N M : Nat} {f : Int → Option Int} (h : HM w b N f) (hm : N ≤ M) : HM w b M f := by
  obtain ⟨D, ho, hf⟩ := h
  exact ⟨D, ho.mono hm, hf⟩
theorem HS.mono {w : World} {b N M : Nat} {p : Int → Bool} (h : HS w b N p) (hm : N ≤ M) : HS w b M p := by
  obtain ⟨D, ho, hf⟩ := h
  exact ⟨D, ho.mono hm, hf⟩
theorem HM.made (w : World) : HM (w.alloc (.map #[] 0)) w.heap.size 0 (fun _ => none) :=
  ⟨.map [], World.ownsMap_made _ _ _ _, fun _ => ⟨fun _ => rfl, fun y h => by cases h⟩⟩
theorem HS.made (w : World) : HS (w.alloc (.map #[] 0)) w.heap.size 0 (fun _ => false) :=
  ⟨.map [], World.ownsMap_made _ _ _ _, fun _ => rfl⟩

theorem grown_out {w w' : World} {b : Nat} (h : w.grownBy w' (some b)) : Out b (b + 1) w w' :=
  ⟨h.os, h.tape, h.output, h.size, fun k hk hr => h.block k hk (fun e => by have := Option.some.inj e; omega)⟩

theorem hm_put {D : DataW Unit} {f : Int → Option Int} {x y : Int} (hm : IsMap D) (hf : ∀ x, (f x = none → Maps.has D (ik x) = false) ∧ ∀ y, f x = some y → Maps.has D (ik x) = true ∧ ∀ z, D.atKey (ik x) z = .lit (.int .i64 y)) :
    ∀ z, ((fun q => if q = x then some y else f q) z = none → Maps.has (D.put (ik x) (.lit (.int .i64 y))) (ik z) = false) ∧
      ∀ v, (fun q => if q = x then some y else f q) z = some v → Maps.has (D.put (ik x) (.lit (.int .i64 y))) (ik z) = true ∧ ∀ d, (D.put (ik x) (.lit (.int .i64 y))).atKey (ik z) d = .lit (.int .i64 v) := by
  intro z
  by_cases e : z = x
  · subst e
    refine ⟨fun h => by simp at h, fun v h => ?_⟩
    simp at h
    subst h
    exact ⟨has_put_same hm (ik_key _) _, fun d => atKey_put_same hm (ik_key _) _ _⟩
  · simp only [if_neg e]
    rw [has_put_other (ik_ne e)]
    exact ⟨(hf z).1, fun v hv => ⟨((hf z).2 v hv).1, fun d => by rw [atKey_put_other (ik_ne e)]; exact ((hf z).2 v hv).2 d⟩⟩

theorem hs_put {D : DataW Unit} {p : Int → Bool} {x : Int} (d : DataW Unit) (hm : IsMap D) (hf : ∀ x, Maps.has D (ik x) = p x) :
    ∀ z, Maps.has (D.put (ik x) d) (ik z) = (p z || decide (z = x)) := by
  intro z
  by_cases e : z = x
  · subst e
    rw [has_put_same hm (ik_key _)]; simp
  · rw [has_put_other (ik_ne e), hf z]; simp [e]

/-- What a heap's list has by address, of the first k addresses. -/
def hp (l : List Int) (k : Nat) : Int → Option Int := fun x => if 0 ≤ x ∧ x < k ∧ l.getD x.toNat 0 ≠ -1 then some (l.getD x.toNat 0) else none

theorem hp_zero (l : List Int) : hp l 0 = fun _ => none := by funext x; unfold hp; rw [if_neg (by omega)]
theorem hp_no {l : List Int} {k : Nat} (h : l.getD k 0 = -1) : hp l (k + 1) = hp l k := by
  funext x
  unfold hp
  by_cases e : x = k
  · subst e
    rw [if_neg (by rw [Int.toNat_natCast]; exact fun q => q.2.2 h), if_neg (by omega)]
  · by_cases c : 0 ≤ x ∧ x < k ∧ l.getD x.toNat 0 ≠ -1
    · rw [if_pos c, if_pos ⟨c.1, by omega, c.2.2⟩]
    · rw [if_neg c, if_neg (fun q => c ⟨q.1, by omega, q.2.2⟩)]
theorem hp_yes {l : List Int} {k : Nat} {y : Int} (e0 : l.getD k 0 = y) (h : y ≠ -1) : hp l (k + 1) = fun q => if q = (k : Int) then some y else hp l k q := by
  subst e0
  funext x
  unfold hp
  by_cases e : x = k
  · subst e
    rw [if_pos (by rw [Int.toNat_natCast]; exact ⟨by omega, by omega, h⟩), if_pos rfl, Int.toNat_natCast]
  · rw [if_neg e]
    by_cases c : 0 ≤ x ∧ x < k ∧ l.getD x.toNat 0 ≠ -1
    · rw [if_pos c, if_pos ⟨c.1, by omega, c.2.2⟩]
    · rw [if_neg c, if_neg (fun q => c ⟨q.1, by omega, q.2.2⟩)]

set_option maxHeartbeats 1000000 in
theorem heapOf_any (b cap : Nat) (l : List Int) (w : World) (hn : l.length ≤ 1048576) (hl : Hid (∀ i, i < l.length → aOk (l.getD i 0) = true)) (ho : OwnI w b l.length l l.length) :
    Calls Try.prog 94 #[.slice (some ⟨b, 0, none⟩) l.length cap] w fun e w' => e = .returned (.map (some w.heap.size)) ∧ HM w' w.heap.size l.length (hp l l.length) ∧ Below w.heap.size w w' := by
  have hmm := @run_makeMap Try.prog
  have h0 := HM.made w
  have L0 : Below w.heap.size w (w.alloc (.map #[] 0)) := (Below.refl _ _).alloc (Nat.le_refl _) _
  generalize hN : l.length = n at *
  clear hN
  have hbl := ho.1
  go_enter Try.func94, Try.ntmps94
  go_wp2
  go_loopw [4, 5, 9] (fun _ _ i wr => ∃ k : Nat, k ≤ n ∧ i = .int .i64 k ∧ HM wr w.heap.size k (hp l k) ∧ Below w.heap.size w wr) (fun _ _ i _ => n - (intOf i).toNat)
  case atStart => exact ⟨0, Nat.zero_le _, rfl, by rw [hp_zero]; exact h0, L0⟩
  case round =>
    clear h0 L0
    obtain ⟨k, hk, rfl, hm, hbw⟩ := hrel
    by_cases hlt : k < n
    · have hx := (ho.below hbw hbl).2.2 k hlt
      have hok := hl.out k hlt
      obtain ⟨x, ex⟩ : ∃ x, Hid (l.getD k 0 = x) := ⟨_, rfl⟩
      rw [ex.out] at hx hok
      have hr : -1 ≤ x ∧ x ≤ 6 := by simpa [aOk] using hok
      clear hok
      by_cases c1 : x = -1
      · subst c1
        go_wp2
        go_roundw
        case rel => exact ⟨k + 1, by omega, by go_num, by rw [hp_no ex.out]; exact hm.mono (Nat.le_succ _), hbw⟩
        case measure => simp [intOf]; omega
      · obtain ⟨Dm, hown, hf⟩ := hm
        have HF : Hid (∀ x, (hp l k x = none → Maps.has Dm (ik x) = false) ∧ ∀ y, hp l k x = some y → Maps.has Dm (ik x) = true ∧ ∀ z, Dm.atKey (ik x) z = .lit (.int .i64 y)) := hf
        clear hf
        go_wp2_with (first
          | (at_mapUpdate; refine wpList_mapUpdate_own _ rfl _ _ _ 93 rfl 3 3 law3 Try.underlying93 _ w.heap.size k _ rfl hown (by unfold maxLen; omega) _ _ _ rfl rfl (keyOf_int_mk Try.underlying3 (WalkArith.wf_i64 (by omega))) _ [] (plainElem_int Try.underlying3 (WalkArith.wf_i64 (by omega))) ?_; intro w1 hown1 hgrow1)
          | go_in)
        go_roundw
        case rel => exact ⟨k + 1, by omega, by go_num, by rw [hp_yes ex.out c1]; exact ⟨_, hown1, hm_put hown.isMap HF.out⟩, hbw.grown hgrow1 hbw.size (fun j hj => by cases hj; exact Nat.le_refl _)⟩
        case measure => simp [intOf]; omega
    · obtain rfl : k = n := by omega
      go_wp2
      go_ret
      exact ⟨rfl, hm, hbw⟩

set_option maxHeartbeats 400000 in
theorem there_any (b N : Nat) (f : Int → Option Int) (x : Int) (w : World) (wx : (Lit.int .i64 x).wf = true) (hm : HM w b N f) :
    Calls Try.prog 104 #[.map (some b), .int .i64 x] w fun e w' => e = .returned (.bool (f x).isSome) ∧ w' = w := by
  obtain ⟨Dm, hown, hf⟩ := hm
  have HF : Hid (Maps.has Dm (ik x) = (f x).isSome) := by
    cases e : f x with
    | none => exact (hf x).1 e
    | some y => exact ((hf x).2 y e).1
  clear hf
  go_enter Try.func104, Try.ntmps104
  go_wp2_with (first
    | (at_lookup; refine wpList_lookup_own_ok_int _ rfl _ _ 93 rfl 3 3 .i64 law3 Try.underlying93 Try.underlying3 (zero3 _) b N _ rfl hown _ _ rfl (keyOf_int_mk Try.underlying3 wx) ?_; intro c hat hwc)
    | go_in)
  go_ret
  exact ⟨ret_bool HF.out, rfl⟩

set_option maxHeartbeats 400000 in
theorem has_any (b N : Nat) (p : Int → Bool) (x : Int) (w : World) (wx : (Lit.int .i64 x).wf = true) (hm : HS w b N p) :
    Calls Try.prog 126 #[.map (some b), .int .i64 x] w fun e w' => e = .returned (.bool (p x)) ∧ Below w.heap.size w w' := by
  obtain ⟨Dm, hown, hf⟩ := hm
  have HF : Hid (Maps.has Dm (ik x) = p x) := hf x
  clear hf
  go_enter Try.func126, Try.ntmps126
  go_wp2_with (first
    | (at_lookup; refine wpList_lookup_own_unit _ rfl _ _ 91 rfl 3 117 law3 Try.underlying91 (zero114 _) b N _ rfl hown _ _ rfl (keyOf_int_mk Try.underlying3 wx) ?_)
    | go_in)
  go_ret
  exact ⟨ret_bool HF.out, (Below.refl _ _).alloc (Nat.le_refl _) _⟩

end Go.Proofs.Ytokdhbegkbilbaa
