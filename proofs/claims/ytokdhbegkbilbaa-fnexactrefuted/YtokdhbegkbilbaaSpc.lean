/-
  Which addresses the pieces of an assertion take: plain functions for it, and lemmas on the sizes of sets and heaps. No statement is proved here.
-/
import Derived.Test.YtokdhbegkbilbaaHo
import Derived.Test.YtokdhbegkbilbaaDo
namespace Go.Proofs.Ytokdhbegkbilbaa
open Go.RowKit Go.Maps

def cellStep (t hv : List Int) (S : Option (List Int)) (p : Int × Int) : Option (List Int) :=
  match S with
  | none => none
  | some S => if okp hv (tv t p.1) = true ∧ gn hv (tv t p.1) = tv t p.2 ∧ tv t p.1 ∉ S then some (S ++ [tv t p.1]) else none
def segStep (t hv : List Int) (S : Option (List Int)) (p : Int × Int) : Option (List Int) :=
  match S with
  | none => none
  | some S => match seg hv 7 (tv t p.1) (tv t p.2) with
    | none => none
    | some l => if (S ++ l).Nodup then some (S ++ l) else none
def cellsV (t hv : List Int) (l : List (Int × Int)) : Option (List Int) := l.foldl (cellStep t hv) (some [])
def segsV (t hv : List Int) (S : Option (List Int)) (l : List (Int × Int)) : Option (List Int) := l.foldl (segStep t hv) S
def allIn (hv S : List Int) : Bool := (List.range 7).all fun (i : Nat) => !okp hv (i : Int) || decide ((i : Int) ∈ S)
def spaceV (t hv : List Int) (l2 l3 : List (Int × Int)) : Bool :=
  match segsV t hv (cellsV t hv l2) l3 with
  | none => false
  | some S => allIn hv S

theorem cells_none (t hv : List Int) : ∀ l : List (Int × Int), l.foldl (cellStep t hv) none = none
  | [] => rfl
  | _ :: l => cells_none t hv l
theorem segs_none (t hv : List Int) : ∀ l : List (Int × Int), l.foldl (segStep t hv) none = none
  | [] => rfl
  | _ :: l => segs_none t hv l
theorem take_snocP {l : List (Int × Int)} {k : Nat} (hk : k < l.length) : l.take (k + 1) = l.take k ++ [l.getD k (0, 0)] := by
  rw [List.take_add_one]
  simp [hk]
theorem cells_at {t hv : List Int} {l : List (Int × Int)} {k : Nat} (hk : k < l.length) : cellsV t hv (l.take (k + 1)) = cellStep t hv (cellsV t hv (l.take k)) (l.getD k (0, 0)) := by
  unfold cellsV
  rw [take_snocP hk, List.foldl_append]
  rfl
theorem segs_at {t hv : List Int} {S : Option (List Int)} {l : List (Int × Int)} {k : Nat} (hk : k < l.length) : segsV t hv S (l.take (k + 1)) = segStep t hv (segsV t hv S (l.take k)) (l.getD k (0, 0)) := by
  unfold segsV
  rw [take_snocP hk, List.foldl_append]
  rfl
theorem cells_dead {t hv : List Int} {l : List (Int × Int)} {k : Nat} (h : cellsV t hv (l.take k) = none) : cellsV t hv l = none := by
  have e : cellsV t hv l = (l.drop k).foldl (cellStep t hv) (cellsV t hv (l.take k)) := by
    unfold cellsV
    rw [← List.foldl_append, List.take_append_drop]
  rw [e, h]
  exact cells_none _ _ _
theorem segs_dead {t hv : List Int} {S : Option (List Int)} {l : List (Int × Int)} {k : Nat} (h : segsV t hv S (l.take k) = none) : segsV t hv S l = none := by
  have e : segsV t hv S l = (l.drop k).foldl (segStep t hv) (segsV t hv S (l.take k)) := by
    unfold segsV
    rw [← List.foldl_append, List.take_append_drop]
  rw [e, h]
  exact segs_none _ _ _
theorem space_cells {t hv : List Int} {l2 l3 : List (Int × Int)} (h : cellsV t hv l2 = none) : spaceV t hv l2 l3 = false := by
  unfold spaceV segsV
  rw [h, segs_none]
theorem space_segs {t hv : List Int} {l2 l3 : List (Int × Int)} {S : List Int} (h : cellsV t hv l2 = some S) (h2 : segsV t hv (some S) l3 = none) : spaceV t hv l2 l3 = false := by
  unfold spaceV
  rw [h, h2]
theorem space_end {t hv : List Int} {l2 l3 : List (Int × Int)} {S S2 : List Int} (h : cellsV t hv l2 = some S) (h2 : segsV t hv (some S) l3 = some S2) : spaceV t hv l2 l3 = allIn hv S2 := by
  unfold spaceV
  rw [h, h2]

theorem seg_ok {hv : List Int} {to : Int} : ∀ (n : Nat) (x : Int) (l : List Int), seg hv n x to = some l → ∀ y ∈ l, okp hv y = true
  | 0, x, l, e => by
    unfold seg at e
    split at e
    · injection e with e; subst e; simp
    · cases e
  | n + 1, x, l, e => by
    unfold seg at e
    split at e
    · injection e with e; subst e; simp
    · split at e
      · rename_i h1 h2
        obtain ⟨m, hm, rfl⟩ := Option.map_eq_some_iff.1 e
        intro y hy
        rw [List.mem_cons] at hy
        rcases hy with rfl | hy
        · exact h2
        · exact seg_ok n _ m hm y hy
      · cases e

theorem size_set {w : World} {b n : Nat} {D : DataW Unit} {R : Value → Option (DataW Unit × List MemPlace)} {S : List Int} (hown : w.ownsMap Try.prog 3 R b n D) (hn : S.Nodup) (hm : ∀ x, x ∈ S ↔ Maps.has D (ik x) = true) : Maps.size D = S.length := by
  have h0 : CollectedI D (fun _ => false) S := ⟨hn, fun x => by rw [hm x]; simp⟩
  have h1 := (h0.perm hown law3 Try.underlying3 (fun _ => rfl)).length_eq
  obtain ⟨es, rfl, _, _⟩ := hown.entries law3
  rw [h1]
  simp [intKeys, Maps.size]

theorem dom_size {w : World} {b n : Nat} {D : DataW Unit} {hv : List Int} (hown : w.ownsMap Try.prog 3 (plainElem Try.prog 3) b n D) (hf : ∀ x, (hp hv 7 x = none → Maps.has D (ik x) = false) ∧ ∀ y, hp hv 7 x = some y → Maps.has D (ik x) = true ∧ ∀ z, D.atKey (ik x) z = .lit (.int .i64 y)) :
    Maps.size D = (ascL (domP hv) 7).length := by
  refine size_set hown ((ascL_pair _ 7).imp (fun h => by omega)) (fun x => ?_)
  rw [ascL_mem domP_in]
  unfold domP
  cases e : hp hv 7 x with
  | none => rw [(hf x).1 e]; simp
  | some y => rw [((hf x).2 y e).1]; simp

theorem full_iff {hv S : List Int} (hn : S.Nodup) (hS : ∀ y ∈ S, okp hv y = true) : decide ((S.length : Int) = ((ascL (domP hv) 7).length : Int)) = allIn hv S := by
  have hd : (ascL (domP hv) 7).Nodup := (ascL_pair _ 7).imp (fun h => by omega)
  have hsub : ∀ y ∈ S, y ∈ ascL (domP hv) 7 := fun y hy => (ascL_mem domP_in y).2 (hS y hy)
  cases e : allIn hv S
  · refine decide_eq_false fun q => ?_
    unfold allIn at e
    rw [List.all_eq_false] at e
    obtain ⟨i, hi, h⟩ := e
    have h1 : okp hv (i : Int) = true ∧ (i : Int) ∉ S := by
      cases ho : okp hv (i : Int)
      · rw [ho] at h; simp at h
      · rw [ho] at h; simpa using h
    have := nodup_len (S ++ [(i : Int)]) (ascL (domP hv) 7) (nodup_snoc hn h1.2) (fun y hy => by
      rw [List.mem_append] at hy
      rcases hy with hy | hy
      · exact hsub y hy
      · simp at hy; rw [hy]; exact (ascL_mem domP_in _).2 h1.1)
    simp at this
    omega
  · refine decide_eq_true ?_
    unfold allIn at e
    rw [List.all_eq_true] at e
    have h1 := nodup_len S _ hn hsub
    have h2 := nodup_len _ S hd (fun y hy => by
      have hy2 := (ascL_mem domP_in y).1 hy
      have hr := domP_in y hy2
      have := e y.toNat (by simp; omega)
      rw [show ((y.toNat : Nat) : Int) = y by omega, show okp hv y = true from hy2] at this
      simpa using this)
    omega

theorem HM.look {w : World} {b N : Nat} {f : Int → Option Int} {x y : Int} (h : HM w b N f) (wx : (Lit.int .i64 x).wf = true) (e : f x = some y) : (Instr.lookup 93 (.map (some b)) (.int .i64 x) false).run Try.prog w = .ok (.int .i64 y) w := by
  obtain ⟨D, hown, hf⟩ := h
  obtain ⟨c, hrun, hat, _⟩ := hown.lookup_int law3 Try.underlying93 Try.underlying3 (zero3 _) (keyOf_int_mk Try.underlying3 wx)
  rw [((hf x).2 y e).2] at hat
  rw [hrun, intv hat]

end Go.Proofs.Ytokdhbegkbilbaa
