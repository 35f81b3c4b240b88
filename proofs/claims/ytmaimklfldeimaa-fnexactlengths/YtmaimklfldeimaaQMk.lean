/-
  Marks of an assertion, from any number on.
-/
import Derived.Test.YtmaimklfldeimaaQRow
import Derived.Test.YtmaimklfldeimaaBase
namespace Go.Proofs.Ytmaimklfldeimaa.Q
open Go.RowKit

structure Kept (b : Nat) (w w' : World) : Prop where
  os : w'.os = w.os
  tape : w'.tape = w.tape
  output : w'.output = w.output
  size : w.heap.size ≤ w'.heap.size
  block : ∀ k, k ≠ b → k < w.heap.size → w'.heap[k]? = w.heap[k]?

theorem Kept.refl (b : Nat) (w : World) : Kept b w w := ⟨rfl, rfl, rfl, Nat.le_refl _, fun _ _ _ => rfl⟩
theorem Kept.below {b B : Nat} {w w' : World} (h : Kept b w w') (hB : B ≤ b) (hs : B ≤ w.heap.size) : Below B w w' :=
  ⟨h.os, h.tape, h.output, h.size, fun k hk => h.block k (by omega) (by omega)⟩
theorem Kept.set {b : Nat} {a w : World} (h : Kept b a w) (i : Nat) (u : Value) : Kept b a (w.setCell ⟨b, i, none⟩ u) :=
  ⟨h.os, h.tape, h.output, by simpa using h.size, fun k hk hs => (Below.heap_setCell _ _ _ _ (by simpa using hk)).trans (h.block k hk hs)⟩
theorem Kept.out {b lo hi : Nat} {w w' : World} (h : Kept b w w') (h1 : lo ≤ b) (h2 : b < hi) : Out lo hi w w' := ⟨h.os, h.tape, h.output, h.size, fun k hk hr => h.block k (by omega) hk⟩

def marks (k : Int) (n : Nat) : List (Int × Int) := (List.range n).map fun (i : Nat) => (k + 2 * i, k + 2 * i + 1)
theorem marks_length (k : Int) (n : Nat) : (marks k n).length = n := by simp [marks]
theorem marks_at (k : Int) (n : Nat) {i : Nat} (h : i < n) : (marks k n).getD i (0, 0) = (k + 2 * i, k + 2 * i + 1) := by simp [marks, h]

/-- A row as writable cells alone. -/
theorem Own.zero {w : World} {b n k : Nat} {l m : List (Int × Int)} (h : Own w b n l k) : Own w b n m 0 := ⟨h.1, h.2.1, fun i hi => by omega⟩

set_option maxHeartbeats 400000 in
theorem markPairS_some (b n cap : Nat) (k : Int) (l : List (Int × Int)) (w : World) (hn : n ≤ 8388608) (h0 : 0 ≤ k) (h1 : k ≤ 67108864) (ho : Own w b n l 0) :
    Calls Try.prog 74 #[.slice (some ⟨b, 0, none⟩) n cap, .int .i64 k] w fun e w' => e = .returned (.int .i64 (k + 2 * n)) ∧ Own w' b n (marks k n) n ∧ Kept b w w' := by
  go_enter Try.func74, Try.ntmps74
  go_wp2
  go_loopw [1, 5] (fun q i wr => ∃ j : Nat, j ≤ n ∧ i = .int .i64 j ∧ q = .int .i64 (k + 2 * j) ∧ Own wr b n (marks k n) j ∧ Kept b w wr) (fun _ i _ => n - (intOf i).toNat)
  case atStart => exact ⟨0, Nat.zero_le _, rfl, by simp, ho.zero, Kept.refl _ _⟩
  case round =>
    obtain ⟨j, hj, rfl, rfl, hw, hkp⟩ := hrel
    by_cases hlt : j < n
    · obtain ⟨v0, hv0⟩ := (hw.2.1 (j * 2) (by omega)).1
      obtain ⟨v1, hv1⟩ := (hw.2.1 (j * 2 + 1) (by omega)).1
      have hf0 := (hw.2.1 (j * 2) (by omega)).2
      have hf1 := (hw.2.1 (j * 2 + 1) (by omega)).2
      have hst := hw.step hlt
      rw [marks_at k n hlt] at hst
      have hk2 := (hkp.set (j * 2) (.int .i64 (k + 2 * j))).set (j * 2 + 1) (.int .i64 (k + 2 * j + 1))
      clear hw hkp
      go_wp2
      go_roundw
      case rel => exact ⟨j + 1, by omega, by go_num, by go_num, hst, hk2⟩
      case measure => simp [intOf]; omega
    · obtain rfl : j = n := by omega
      go_wp2
      go_ret
      exact ⟨rfl, hw, hkp⟩

set_option maxHeartbeats 400000 in
theorem markPairS_none (a : Option Addr) (cap : Nat) (k : Int) (w : World) : Calls Try.prog 74 #[.slice a 0 cap, .int .i64 k] w fun e w' => e = .returned (.int .i64 k) ∧ w' = w := by
  go_enter Try.func74, Try.ntmps74
  go_wp2
  go_loop [1, 5] (fun q i => i = .int .i64 0 ∧ q = .int .i64 k) (fun _ _ => 0)
  case atStart => exact ⟨rfl, rfl⟩
  case round =>
    obtain ⟨rfl, rfl⟩ := hrel
    go_wp2
    go_ret
    exact ⟨rfl, rfl⟩

theorem markPairS_any (lo hi : Nat) (a : Option Addr) (n cap : Nat) (k : Int) (l : List (Int × Int)) (w : World) (hn : n ≤ 8388608) (h0 : 0 ≤ k) (h1 : k ≤ 67108864) (hr : RowIn w lo hi a n l) :
    Calls Try.prog 74 #[.slice a n cap, .int .i64 k] w fun e w' => e = .returned (.int .i64 (k + 2 * n)) ∧ RowIn w' lo hi a n (marks k n) ∧ Out lo hi w w' := by
  obtain ⟨hl, rfl | ⟨b, rfl, h2, h3, ho⟩⟩ := hr
  · exact (markPairS_none a cap k w).mono fun e w' ⟨he, hw⟩ => ⟨by rw [he]; simp, hw ▸ ⟨by simp [marks], .inl rfl⟩, hw ▸ Out.refl _ _ _⟩
  · exact (markPairS_some b n cap k l w hn h0 h1 ho.zero).mono fun e w' ⟨he, h4, h5⟩ => ⟨he, RowIn.ofOwn h4 (marks_length k n) h2 h3, h5.out h2 h3⟩


set_option maxHeartbeats 1000000 in
theorem markAsnK_any (K : Int) (hK0 : 0 ≤ K) (hK1 : K ≤ 16777216) (lo h1 h2 h3 hi : Nat) (a0 a1 a2 a3 : Option Addr) (n0 n1 n2 n3 c0 c1 c2 c3 : Nat) (l0 l1 l2 l3 : List (Int × Int)) (w : World)
    (m0 : n0 ≤ 2097152) (m1 : n1 ≤ 2097152) (m2 : n2 ≤ 2097152) (m3 : n3 ≤ 2097152) (q0 : lo ≤ h1) (q1 : h1 ≤ h2) (q2 : h2 ≤ h3) (q3 : h3 ≤ hi) (hs : hi ≤ w.heap.size)
    (r0 : RowIn w lo h1 a0 n0 l0) (r1 : RowIn w h1 h2 a1 n1 l1) (r2 : RowIn w h2 h3 a2 n2 l2) (r3 : RowIn w h3 hi a3 n3 l3) :
    Calls Try.prog 24 #[.agg #[.slice a0 n0 c0, .slice a1 n1 c1, .slice a2 n2 c2, .slice a3 n3 c3], .int .i64 K] w fun e w' => e = .returned (.int .i64 (K + 2 * n0 + 2 * n1 + 2 * n2 + 2 * n3)) ∧
      RowIn w' lo h1 a0 n0 (marks K n0) ∧ RowIn w' h1 h2 a1 n1 (marks (K + 2 * n0) n1) ∧ RowIn w' h2 h3 a2 n2 (marks (K + 2 * n0 + 2 * n1) n2) ∧ RowIn w' h3 hi a3 n3 (marks (K + 2 * n0 + 2 * n1 + 2 * n2) n3) ∧ Out lo hi w w' := by
  have B0 := Box.new w (.slice a0 n0 c0) (.slice a1 n1 c1) (.slice a2 n2 c2) (.slice a3 n3 c3) 28
  have L : Below w.heap.size w (w.alloc (.cells #[.slice a0 n0 c0, .slice a1 n1 c1, .slice a2 n2 c2, .slice a3 n3 c3] 28)) := (Below.refl _ _).alloc (Nat.le_refl _) _
  have O0 : Out lo hi w (w.alloc (.cells #[.slice a0 n0 c0, .slice a1 n1 c1, .slice a2 n2 c2, .slice a3 n3 c3] 28)) := Out.ofBelow L
  replace r0 := r0.below L (by omega); replace r1 := r1.below L (by omega); replace r2 := r2.below L (by omega); replace r3 := r3.below L (by omega)
  clear L
  go_enter Try.func24, Try.ntmps24
  go_wp2_with fail
  refine (markPairS_any lo h1 _ _ _ _ _ _ (by omega) (by omega) (by omega) (by exact r0)).mono ?_
  rintro e w1 ⟨rfl, t0, ho⟩
  have B1 := B0.out ho (by omega)
  have O1 := O0.trans (ho.mono (by omega) (by omega))
  replace r1 := r1.out ho (by omega)
  replace r2 := r2.out ho (by omega)
  replace r3 := r3.out ho (by omega)
  clear ho B0 O0 r0
  have x := B1.c1
  go_wp2_with fail
  clear x
  refine (markPairS_any h1 h2 _ _ _ _ _ _ (by omega) (by omega) (by omega) (by exact r1)).mono ?_
  rintro e w2 ⟨rfl, t1, ho⟩
  have B2 := B1.out ho (by omega)
  have O2 := O1.trans (ho.mono (by omega) (by omega))
  replace t0 := t0.out ho (by omega)
  replace r2 := r2.out ho (by omega)
  replace r3 := r3.out ho (by omega)
  clear ho B1 O1 r1
  have x := B2.c2
  go_wp2_with fail
  clear x
  refine (markPairS_any h2 h3 _ _ _ _ _ _ (by omega) (by omega) (by omega) (by exact r2)).mono ?_
  rintro e w3 ⟨rfl, t2, ho⟩
  have B3 := B2.out ho (by omega)
  have O3 := O2.trans (ho.mono (by omega) (by omega))
  replace t0 := t0.out ho (by omega)
  replace t1 := t1.out ho (by omega)
  replace r3 := r3.out ho (by omega)
  clear ho B2 O2 r2
  have x := B3.c3
  go_wp2_with fail
  clear x
  refine (markPairS_any h3 hi _ _ _ _ _ _ (by omega) (by omega) (by omega) (by exact r3)).mono ?_
  rintro e w4 ⟨rfl, t3, ho⟩
  have B4 := B3.out ho (by omega)
  have O4 := O3.trans (ho.mono (by omega) (by omega))
  replace t0 := t0.out ho (by omega)
  replace t1 := t1.out ho (by omega)
  replace t2 := t2.out ho (by omega)
  clear ho B3 O3 r3
  go_wp2
  go_ret
  exact ⟨rfl, t0, t1, t2, t3, O4⟩

theorem Out.plain {lo hi : Nat} {w w' : World} (h : Out lo hi w w') : Go.Proofs.Ytmaimklfldeimaa.Out lo hi w w' := ⟨h.os, h.tape, h.output, h.size, h.block⟩
theorem Box.plain {lo hi : Nat} {w w' : World} {b : Nat} {v0 v1 v2 v3 : Value} (h : Box w b v0 v1 v2 v3) (ho : Go.Proofs.Ytmaimklfldeimaa.Out lo hi w w') (hr : b < lo ∨ hi ≤ b) : Box w' b v0 v1 v2 v3 := h.out ⟨ho.os, ho.tape, ho.output, ho.size, ho.block⟩ hr
theorem Own.plain {lo hi : Nat} {w w' : World} {b n k : Nat} {l : List (Int × Int)} (h : Own w b n l k) (ho : Go.Proofs.Ytmaimklfldeimaa.Out lo hi w w') (hr : b < lo ∨ hi ≤ b) : Own w' b n l k := h.out ⟨ho.os, ho.tape, ho.output, ho.size, ho.block⟩ hr

end Go.Proofs.Ytmaimklfldeimaa.Q
