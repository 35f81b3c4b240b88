/-
  The contract of impl's ascending: the addresses of a set, in order.
-/
import Derived.Test.YtanihlecenmdcaaSSt
import Derived.Shelf.SlIterI.Nil
import Derived.Shelf.SortM.Plain
import Derived.Shelf.SortM.SortNone
import Derived.Ground.GgzProg
import Derived.Ground.SlgmProg
namespace Go.Proofs.Ytanihlecenmdcaa.S
open Go.RowKit Go.Maps Go.Sort Go.Shelf

shelf_lay_g SlLaysZI.n7 Ggz 7 at Try 130 as Try.keysA
shelf_lay_g SlLaysZI.n6 Ggz 6 at Try 129 as Try.sortedA
shelf_lay_g SlLaysM.n5 Slgm 5 at Try 155 as Try.sortA

theorem Try.sortsA (m : Nat) : AnyZI.SortsIn Try.prog Try.sortedA_ren Fence.wide m :=
  ⟨fun blk off cap ss W hH hblk hsz => callsIn_wide.2 (AnyM.slices_Sort_int Try.sortA blk off cap ss W hH hblk hsz),
   fun p cap W => callsIn_wide.2 (AnyM.slices_Sort_int_none Try.sortA p cap W)⟩

def ascL (p : Int → Bool) (k : Nat) : List Int := ((List.range k).map fun (i : Nat) => (i : Int)).filter p

theorem ascL_len (p : Int → Bool) (k : Nat) : (ascL p k).length ≤ k := by
  unfold ascL
  refine Nat.le_trans (List.length_filter_le _ _) ?_
  simp

theorem ascL_mem {p : Int → Bool} (hp : ∀ x, p x = true → 0 ≤ x ∧ x ≤ 6) (x : Int) : x ∈ ascL p 7 ↔ p x = true := by
  unfold ascL
  rw [List.mem_filter]
  refine ⟨fun h => h.2, fun h => ⟨?_, h⟩⟩
  rw [List.mem_map]
  have := hp x h
  exact ⟨x.toNat, by simp; omega, by omega⟩

theorem ascL_pair (p : Int → Bool) (k : Nat) : (ascL p k).Pairwise (fun x y => x < y) := by
  unfold ascL
  refine List.Pairwise.filter _ ?_
  rw [List.pairwise_map]
  refine List.Pairwise.imp ?_ (List.pairwise_lt_range (n := k))
  intro a b h
  omega

theorem asc_is {p : Int → Bool} {D : DataW Unit} {w : World} {b n : Nat} {ss : List Int} (hown : w.ownsMap Try.prog 3 unitElem b n D) (hp : ∀ x, p x = true → 0 ≤ x ∧ x ≤ 6) (hf : ∀ x, Maps.has D (ik x) = p x) (hs : ss.Perm (intKeys D)) :
    ss.mergeSort (fun x y => decide (x ≤ y)) = ascL p 7 := by
  have h0 : CollectedI D (fun _ => false) (ascL p 7) := ⟨(ascL_pair p 7).imp (fun h => by omega), fun x => by rw [ascL_mem hp, ← hf x]; simp⟩
  have h1 : (ascL p 7).Perm (intKeys D) := h0.perm hown law3 Try.underlying3 (fun _ => rfl)
  have h2 := (List.mergeSort_perm ss (fun x y => decide (x ≤ y))).trans (hs.trans h1.symm)
  refine List.Perm.eq_of_pairwise (le := fun x y => x ≤ y) (fun a b _ _ h3 h4 => by omega) ?_ ((ascL_pair p 7).imp (fun h => by omega)) h2
  exact (List.pairwise_mergeSort (le := fun x y : Int => decide (x ≤ y)) (fun a b c h3 h4 => by simp at *; omega) (fun a b => by simp; omega) ss).imp (fun h => by simpa using h)

set_option maxHeartbeats 1000000 in
theorem asc_raw (b nn : Nat) (D0 : DataW Unit) (w : World) (hown : w.ownsMap Try.prog 3 unitElem b nn D0) (hmax : Maps.size D0 ≤ maxLen) (hbytes : Maps.size D0 * 8 ≤ 140737488355328) :
    Calls Try.prog 93 #[.map (some b)] w fun e w' => ∃ (v : Value) (ss : List Int), e = .returned v ∧ ss.Perm (intKeys D0) ∧
      w'.ownsRow w.heap.size 3 1 v ss.length ((ss.mergeSort (fun x y => decide (x ≤ y))).map encZ) ∧ Below w.heap.size w w' := by
  refine (callsIn_wide (n := 6)).1 ?_
  have hbl := hown.lt
  have hseq : SeqGives Fence.wide 2 Try.prog 156 #[.pointer (some ⟨w.heap.size, 0, none⟩)] encZ (fun ss => ss.Perm (intKeys D0)) (Maps.size D0) (w.alloc (.cells #[.map (some b)] 93)) :=
    AnyZI.keys_gives (ρ := Try.keysA_ren) { Try.keysA with } Fence.wide _ trivial rfl (by omega) w.heap.size b nn D0 _ (by simp) (by simp) (by
      obtain ⟨es, clock, hb, Ft, hs, hD⟩ := hown
      exact ⟨es, clock, (Below.heap_alloc _ _ b hbl).trans hb, Ft, hs, hD⟩)
  have cK : ∀ mb W, CallsIn Fence.wide 5 Try.prog 130 #[.map mb] W fun e w' => e = .returned (.func (.func 156) #[] #[.pointer (some ⟨W.heap.size, 0, none⟩)]) ∧ w' = W.alloc (.cells #[.map mb] 93) := fun mb W => AnyZI.keys_in Try.keysA Fence.wide 5 trivial rfl mb W
  have cS := AnyZI.sorted_in Try.sortedA Fence.wide 5 trivial trivial trivial trivial rfl (by omega) (Try.sortsA _) (enters_of Try.func155 (by kernel_rfl) rfl) 156 #[.pointer (some ⟨w.heap.size, 0, none⟩)] trivial (enters_of Try.func156 (by kernel_rfl) rfl) _ _ hmax hbytes _ hseq
  change CallsIn _ _ Try.prog 129 _ _ _ at cS
  have hfK : Fence.wide.fn 130 := trivial
  have hfS : Fence.wide.fn 129 := trivial
  refine callsIn_of_wp Try.func93 rfl trivial ?_ rfl
  simp only [Try.ntmps93, List.size_toArray, List.length_cons, List.length_nil, Nat.reduceAdd, Nat.reduceSub, Array.replicate_succ, Array.replicate_zero, List.push_toArray, List.append_toArray, List.nil_append, List.cons_append]
  gi_wp2_with (first
    | (gi_at_call 130; refine (cK _ _).mono ?_; rintro e w' ⟨rfl, rfl⟩)
    | (gi_at_call 129; refine cS.mono ?_; rintro e w' ⟨v, ss, rfl, hS, hrow, hnil, hb⟩))
  go_ret
  exact ⟨v, ss, rfl, hS, ownsRow_base_a hrow (by simp), ((Below.refl _ w).alloc (Nat.le_refl _) _).trans (hb.mono (by simp))⟩

theorem asc_any (b N : Nat) (p : Int → Bool) (w : World) (hN : N ≤ 1048576) (hp : ∀ x, p x = true → 0 ≤ x ∧ x ≤ 6) (hs : HS w b N p) :
    Calls Try.prog 93 #[.map (some b)] w fun e w' => ∃ a c, e = .returned (.slice a (ascL p 7).length c) ∧ IntIn w' w.heap.size w'.heap.size a (ascL p 7).length (ascL p 7) ∧ Below w.heap.size w w' := by
  obtain ⟨D, hown, hf⟩ := hs
  have hsz := hown.size_le
  refine (asc_raw b N D w hown (by unfold maxLen; omega) (by omega)).mono ?_
  rintro e w' ⟨v, ss, rfl, hS, hrow, hb⟩
  have e1 := asc_is hown hp hf hS
  have e2 : ss.length = (ascL p 7).length := by rw [← e1, List.length_mergeSort]
  rw [e1, e2] at hrow
  obtain ⟨a, c, rfl, hin⟩ := IntIn.ofOwns (l := ascL p 7) hrow
  exact ⟨a, c, rfl, hin, hb⟩

end Go.Proofs.Ytanihlecenmdcaa.S
