/-
  The contracts of laws.markPairS, laws.heldPairS and laws.markAsn: what is written over a row of the call's own, and read again.
-/
import Derived.Test.YtfplloabkceaoaaUsed
import Derived.Test.YtfplloabkceaoaaEq
namespace Go.Proofs.Ytfplloabkceaoaa
open Go.RowKit

/-- Outside the blocks from lo to hi, what was there is as it was. -/
structure Out (lo hi : Nat) (w w' : World) : Prop where
  os : w'.os = w.os
  tape : w'.tape = w.tape
  output : w'.output = w.output
  size : w.heap.size ≤ w'.heap.size
  block : ∀ k, k < w.heap.size → k < lo ∨ hi ≤ k → w'.heap[k]? = w.heap[k]?

theorem Out.refl (lo hi : Nat) (w : World) : Out lo hi w w := ⟨rfl, rfl, rfl, Nat.le_refl _, fun _ _ _ => rfl⟩
theorem Out.trans {lo hi : Nat} {a b c : World} (h : Out lo hi a b) (k : Out lo hi b c) : Out lo hi a c :=
  ⟨k.os.trans h.os, k.tape.trans h.tape, k.output.trans h.output, Nat.le_trans h.size k.size, fun i hi' hr => (k.block i (Nat.lt_of_lt_of_le hi' h.size) hr).trans (h.block i hi' hr)⟩
theorem Out.mono {lo hi lo' hi' : Nat} {w w' : World} (h : Out lo hi w w') (h1 : lo' ≤ lo) (h2 : hi ≤ hi') : Out lo' hi' w w' :=
  ⟨h.os, h.tape, h.output, h.size, fun k hk hr => h.block k hk (by omega)⟩
theorem Out.below {B lo hi : Nat} {w w' : World} (h : Out lo hi w w') (hB : B ≤ lo) (hs : B ≤ w.heap.size) : Below B w w' :=
  ⟨h.os, h.tape, h.output, h.size, fun k hk => h.block k (by omega) (by omega)⟩
theorem Out.ofBelow {lo hi : Nat} {w w' : World} (h : Below w.heap.size w w') : Out lo hi w w' := ⟨h.os, h.tape, h.output, h.size, fun k hk _ => h.block k hk⟩
theorem Kept.out {b lo hi : Nat} {w w' : World} (h : Kept b w w') (h1 : lo ≤ b) (h2 : b < hi) : Out lo hi w w' := ⟨h.os, h.tape, h.output, h.size, fun k hk hr => h.block k (by omega) hk⟩

theorem Own.out {lo hi : Nat} {w w' : World} {b n k : Nat} {l : List (Int × Int)} (h : Own w b n l k) (ho : Out lo hi w w') (hr : b < lo ∨ hi ≤ b) : Own w' b n l k := by
  obtain ⟨h1, h2, h3⟩ := h
  have e : ∀ o, w'.cell? ⟨b, o, none⟩ = w.cell? ⟨b, o, none⟩ := fun o => World.cell?_of_block (w := w) (ho.block b h1 hr)
  have f : ∀ o, w'.frozen? ⟨b, o, none⟩ = w.frozen? ⟨b, o, none⟩ := fun o => World.frozen?_of_block (w := w) (ho.block b h1 hr)
  refine ⟨Nat.lt_of_lt_of_le h1 ho.size, fun j hj => ?_, fun i hi => ?_⟩
  · rw [e, f]; exact h2 j hj
  · rw [e, e]; exact h3 i hi

theorem Box.out {lo hi : Nat} {w w' : World} {b : Nat} {v0 v1 v2 v3 : Value} (h : Box w b v0 v1 v2 v3) (ho : Out lo hi w w') (hr : b < lo ∨ hi ≤ b) : Box w' b v0 v1 v2 v3 := by
  have e : ∀ o, w'.cell? ⟨b, o, none⟩ = w.cell? ⟨b, o, none⟩ := fun o => World.cell?_of_block (w := w) (ho.block b h.lt hr)
  have f : ∀ o, w'.frozen? ⟨b, o, none⟩ = w.frozen? ⟨b, o, none⟩ := fun o => World.frozen?_of_block (w := w) (ho.block b h.lt hr)
  exact ⟨Nat.lt_of_lt_of_le h.lt ho.size, by rw [e]; exact h.c0, by rw [e]; exact h.c1, by rw [e]; exact h.c2, by rw [e]; exact h.c3, by rw [f]; exact h.f0, by rw [f]; exact h.f1, by rw [f]; exact h.f2, by rw [f]; exact h.f3⟩

theorem Out.set (b i : Nat) (w : World) (u : Value) : Out b (b + 1) w (w.setCell ⟨b, i, none⟩ u) := ((Kept.refl b w).set i u).out (Nat.le_refl _) (Nat.lt_succ_self _)

/-- A box of four cells, filled anew. -/
theorem Box.fill {w : World} {b : Nat} {v0 v1 v2 v3 : Value} (h : Box w b v0 v1 v2 v3) (u0 u1 u2 u3 : Value) :
    Box ((((w.setCell ⟨b, 0, none⟩ u0).setCell ⟨b, 1, none⟩ u1).setCell ⟨b, 2, none⟩ u2).setCell ⟨b, 3, none⟩ u3) b u0 u1 u2 u3 ∧ Out b (b + 1) w ((((w.setCell ⟨b, 0, none⟩ u0).setCell ⟨b, 1, none⟩ u1).setCell ⟨b, 2, none⟩ u2).setCell ⟨b, 3, none⟩ u3) :=
  ⟨(((h.set0 u0).set1 u1).set2 u2).set3 u3, (((Out.set b 0 w u0).trans (Out.set b 1 _ u1)).trans (Out.set b 2 _ u2)).trans (Out.set b 3 _ u3)⟩

/-- A slice of n pairs that reads as l, in a block of the call's own from lo to hi. -/
def RowIn (w : World) (lo hi : Nat) (a : Option Addr) (n : Nat) (l : List (Int × Int)) : Prop :=
  l.length = n ∧ (n = 0 ∨ ∃ b, a = some ⟨b, 0, none⟩ ∧ lo ≤ b ∧ b < hi ∧ Own w b n l n)

theorem RowIn.row {w : World} {lo hi : Nat} {a : Option Addr} {n : Nat} {l : List (Int × Int)} (h : RowIn w lo hi a n l) : PRow w a l := by
  obtain ⟨rfl, h0 | ⟨b, rfl, _, _, ho⟩⟩ := h
  · exact .inl (List.eq_nil_of_length_eq_zero h0)
  · exact ho.row

theorem RowIn.ofOwn {w : World} {lo hi b n : Nat} {l : List (Int × Int)} (h : Own w b n l n) (hl : l.length = n) (h1 : lo ≤ b) (h2 : b < hi) : RowIn w lo hi (some ⟨b, 0, none⟩) n l := ⟨hl, .inr ⟨b, rfl, h1, h2, h⟩⟩

theorem RowIn.out {lo hi lo' hi' : Nat} {w w' : World} {a : Option Addr} {n : Nat} {l : List (Int × Int)} (h : RowIn w lo hi a n l) (ho : Out lo' hi' w w') (hr : hi ≤ lo' ∨ hi' ≤ lo) : RowIn w' lo hi a n l := by
  obtain ⟨hl, h0 | ⟨b, rfl, h1, h2, h3⟩⟩ := h
  · exact ⟨hl, .inl h0⟩
  · exact ⟨hl, .inr ⟨b, rfl, h1, h2, h3.out ho (by omega)⟩⟩

theorem RowIn.below {lo hi B : Nat} {w w' : World} {a : Option Addr} {n : Nat} {l : List (Int × Int)} (h : RowIn w lo hi a n l) (ho : Below B w w') (hr : hi ≤ B) : RowIn w' lo hi a n l := by
  obtain ⟨hl, h0 | ⟨b, rfl, h1, h2, h3⟩⟩ := h
  · exact ⟨hl, .inl h0⟩
  · exact ⟨hl, .inr ⟨b, rfl, h1, h2, h3.below ho (by omega)⟩⟩

theorem RowIn.mono {lo hi lo' hi' : Nat} {w : World} {a : Option Addr} {n : Nat} {l : List (Int × Int)} (h : RowIn w lo hi a n l) (h1 : lo' ≤ lo) (h2 : hi ≤ hi') : RowIn w lo' hi' a n l := by
  obtain ⟨hl, h0 | ⟨b, rfl, h3, h4, h5⟩⟩ := h
  · exact ⟨hl, .inl h0⟩
  · exact ⟨hl, .inr ⟨b, rfl, by omega, by omega, h5⟩⟩

def marks (k : Int) (n : Nat) : List (Int × Int) := (List.range n).map fun (i : Nat) => (k + 2 * i, k + 2 * i + 1)
theorem marks_length (k : Int) (n : Nat) : (marks k n).length = n := by simp [marks]
theorem marks_at (k : Int) (n : Nat) {i : Nat} (h : i < n) : (marks k n).getD i (0, 0) = (k + 2 * i, k + 2 * i + 1) := by simp [marks, h]

/-- A row as writable cells alone. -/
theorem Own.zero {w : World} {b n k : Nat} {l m : List (Int × Int)} (h : Own w b n l k) : Own w b n m 0 := ⟨h.1, h.2.1, fun i hi => by omega⟩

set_option maxHeartbeats 400000 in
theorem markPairS_some (b n cap : Nat) (k : Int) (l : List (Int × Int)) (w : World) (hn : n ≤ 8388608) (h0 : 0 ≤ k) (h1 : k ≤ 67108864) (ho : Own w b n l 0) :
    Calls Try.prog 53 #[.slice (some ⟨b, 0, none⟩) n cap, .int .i64 k] w fun e w' => e = .returned (.int .i64 (k + 2 * n)) ∧ Own w' b n (marks k n) n ∧ Kept b w w' := by
  go_enter Try.func53, Try.ntmps53
  go_wp2
  go_loopw [1, 5] (fun q i wr => ∃ j : Nat, j ≤ n ∧ i = .int .i64 j ∧ q = .int .i64 (k + 2 * j) ∧ Own wr b n (marks k n) j ∧ Kept b w wr) (fun _ i _ => n - (intOf i).toNat)
  case atStart => exact ⟨0, Nat.zero_le _, rfl, by simp, ho.zero, Kept.refl _ _⟩
  case round =>
    obtain ⟨j, hj, rfl, rfl, hw, hkp⟩ := hrel
    by_cases hlt : j < n
    · obtain ⟨v0, hv0⟩ := (hw.2.1 (j * 2) (by omega)).1
      obtain ⟨v1, hv1⟩ := (hw.2.1 (j * 2 + 1) (by omega)).1
      have hf0 := (hw.2.1 (j * 2) (by omega)).2
      have hf1 := (hw.2.1 (j * 2 + 1) (by omega)).2
      have hst := hw.step hlt
      rw [marks_at k n hlt] at hst
      have hk2 := (hkp.set (j * 2) (.int .i64 (k + 2 * j))).set (j * 2 + 1) (.int .i64 (k + 2 * j + 1))
      clear hw hkp
      go_wp2
      go_roundw
      case rel => exact ⟨j + 1, by omega, by go_num, by go_num, hst, hk2⟩
      case measure => simp [intOf]; omega
    · obtain rfl : j = n := by omega
      go_wp2
      go_ret
      exact ⟨rfl, hw, hkp⟩

set_option maxHeartbeats 400000 in
theorem markPairS_none (a : Option Addr) (cap : Nat) (k : Int) (w : World) : Calls Try.prog 53 #[.slice a 0 cap, .int .i64 k] w fun e w' => e = .returned (.int .i64 k) ∧ w' = w := by
  go_enter Try.func53, Try.ntmps53
  go_wp2
  go_loop [1, 5] (fun q i => i = .int .i64 0 ∧ q = .int .i64 k) (fun _ _ => 0)
  case atStart => exact ⟨rfl, rfl⟩
  case round =>
    obtain ⟨rfl, rfl⟩ := hrel
    go_wp2
    go_ret
    exact ⟨rfl, rfl⟩

theorem markPairS_any (lo hi : Nat) (a : Option Addr) (n cap : Nat) (k : Int) (l : List (Int × Int)) (w : World) (hn : n ≤ 8388608) (h0 : 0 ≤ k) (h1 : k ≤ 67108864) (hr : RowIn w lo hi a n l) :
    Calls Try.prog 53 #[.slice a n cap, .int .i64 k] w fun e w' => e = .returned (.int .i64 (k + 2 * n)) ∧ RowIn w' lo hi a n (marks k n) ∧ Out lo hi w w' := by
  obtain ⟨hl, rfl | ⟨b, rfl, h2, h3, ho⟩⟩ := hr
  · exact (markPairS_none a cap k w).mono fun e w' ⟨he, hw⟩ => ⟨by rw [he]; simp, hw ▸ ⟨by simp [marks], .inl rfl⟩, hw ▸ Out.refl _ _ _⟩
  · exact (markPairS_some b n cap k l w hn h0 h1 ho.zero).mono fun e w' ⟨he, h4, h5⟩ => ⟨he, RowIn.ofOwn h4 (marks_length k n) h2 h3, h5.out h2 h3⟩

set_option maxHeartbeats 400000 in
theorem heldPairS_some (b n cap : Nat) (k : Int) (w : World) (hn : n ≤ 8388608) (h0 : 0 ≤ k) (h1 : k ≤ 67108864) (ho : Own w b n (marks k n) n) :
    Calls Try.prog 54 #[.slice (some ⟨b, 0, none⟩) n cap, .int .i64 k] w fun e w' => e = .returned (.int .i64 (k + 2 * n)) ∧ w' = w := by
  go_enter Try.func54, Try.ntmps54
  go_wp2
  go_loop [1, 5] (fun q i => ∃ j : Nat, j ≤ n ∧ i = .int .i64 j ∧ q = .int .i64 (k + 2 * j)) (fun _ i => n - (intOf i).toNat)
  case atStart => exact ⟨0, Nat.zero_le _, rfl, by simp⟩
  case round =>
    obtain ⟨j, hj, rfl, rfl⟩ := hrel
    by_cases hlt : j < n
    · have hx := (ho.2.2 j hlt).1
      have hy := (ho.2.2 j hlt).2
      rw [marks_at k n hlt] at hx hy
      go_wp2
      go_round
      case rel => exact ⟨j + 1, by omega, by go_num, by go_num⟩
      case measure => simp [intOf]; omega
    · obtain rfl : j = n := by omega
      go_wp2
      go_ret
      exact ⟨rfl, rfl⟩

set_option maxHeartbeats 400000 in
theorem heldPairS_none (a : Option Addr) (cap : Nat) (k : Int) (w : World) : Calls Try.prog 54 #[.slice a 0 cap, .int .i64 k] w fun e w' => e = .returned (.int .i64 k) ∧ w' = w := by
  go_enter Try.func54, Try.ntmps54
  go_wp2
  go_loop [1, 5] (fun q i => i = .int .i64 0 ∧ q = .int .i64 k) (fun _ _ => 0)
  case atStart => exact ⟨rfl, rfl⟩
  case round =>
    obtain ⟨rfl, rfl⟩ := hrel
    go_wp2
    go_ret
    exact ⟨rfl, rfl⟩

theorem heldPairS_any (lo hi : Nat) (a : Option Addr) (n cap : Nat) (k : Int) (w : World) (hn : n ≤ 8388608) (h0 : 0 ≤ k) (h1 : k ≤ 67108864) (hr : RowIn w lo hi a n (marks k n)) :
    Calls Try.prog 54 #[.slice a n cap, .int .i64 k] w fun e w' => e = .returned (.int .i64 (k + 2 * n)) ∧ w' = w := by
  obtain ⟨hl, rfl | ⟨b, rfl, h2, h3, ho⟩⟩ := hr
  · exact (heldPairS_none a cap k w).mono fun e w' ⟨he, hw⟩ => ⟨by rw [he]; simp, hw⟩
  · exact heldPairS_some b n cap k w hn h0 h1 ho

theorem eqPairS_rows (lo hi lo' hi' : Nat) (a a' : Option Addr) (n cap cap' : Nat) (l : List (Int × Int)) (w : World) (hn : n ≤ 1048576) (hr : RowIn w lo hi a n l) (hr' : RowIn w lo' hi' a' n l) :
    Calls Try.prog 52 #[.slice a n cap, .slice a' n cap'] w fun e w' => e = .returned (.bool true) ∧ Below w.heap.size w w' := by
  have h := hr.row
  have h' := hr'.row
  obtain ⟨rfl, _⟩ := hr
  exact eqPairS_same a a' cap cap' l w hn h h'

set_option maxHeartbeats 1000000 in
theorem markAsn_any (lo h1 h2 h3 hi : Nat) (a0 a1 a2 a3 : Option Addr) (n0 n1 n2 n3 c0 c1 c2 c3 : Nat) (l0 l1 l2 l3 : List (Int × Int)) (w : World)
    (m0 : n0 ≤ 2097152) (m1 : n1 ≤ 2097152) (m2 : n2 ≤ 2097152) (m3 : n3 ≤ 2097152) (q0 : lo ≤ h1) (q1 : h1 ≤ h2) (q2 : h2 ≤ h3) (q3 : h3 ≤ hi) (hs : hi ≤ w.heap.size)
    (r0 : RowIn w lo h1 a0 n0 l0) (r1 : RowIn w h1 h2 a1 n1 l1) (r2 : RowIn w h2 h3 a2 n2 l2) (r3 : RowIn w h3 hi a3 n3 l3) :
    Calls Try.prog 44 #[.agg #[.slice a0 n0 c0, .slice a1 n1 c1, .slice a2 n2 c2, .slice a3 n3 c3], .int .i64 1] w fun e w' => e = .returned (.int .i64 (1 + 2 * n0 + 2 * n1 + 2 * n2 + 2 * n3)) ∧
      RowIn w' lo h1 a0 n0 (marks 1 n0) ∧ RowIn w' h1 h2 a1 n1 (marks (1 + 2 * n0) n1) ∧ RowIn w' h2 h3 a2 n2 (marks (1 + 2 * n0 + 2 * n1) n2) ∧ RowIn w' h3 hi a3 n3 (marks (1 + 2 * n0 + 2 * n1 + 2 * n2) n3) ∧ Out lo hi w w' := by
  have B0 := Box.new w (.slice a0 n0 c0) (.slice a1 n1 c1) (.slice a2 n2 c2) (.slice a3 n3 c3) 28
  have L : Below w.heap.size w (w.alloc (.cells #[.slice a0 n0 c0, .slice a1 n1 c1, .slice a2 n2 c2, .slice a3 n3 c3] 28)) := (Below.refl _ _).alloc (Nat.le_refl _) _
  have O0 : Out lo hi w (w.alloc (.cells #[.slice a0 n0 c0, .slice a1 n1 c1, .slice a2 n2 c2, .slice a3 n3 c3] 28)) := Out.ofBelow L
  replace r0 := r0.below L (by omega); replace r1 := r1.below L (by omega); replace r2 := r2.below L (by omega); replace r3 := r3.below L (by omega)
  clear L
  go_enter Try.func44, Try.ntmps44
  go_wp2_with fail
  refine (markPairS_any lo h1 _ _ _ _ _ _ (by omega) (by omega) (by omega) (by exact r0)).mono ?_
  rintro e w1 ⟨rfl, t0, ho⟩
  have B1 := B0.out ho (by omega)
  have O1 := O0.trans (ho.mono (by omega) (by omega))
  replace r1 := r1.out ho (by omega)
  replace r2 := r2.out ho (by omega)
  replace r3 := r3.out ho (by omega)
  clear ho B0 O0 r0
  have x := B1.c1
  go_wp2_with fail
  clear x
  refine (markPairS_any h1 h2 _ _ _ _ _ _ (by omega) (by omega) (by omega) (by exact r1)).mono ?_
  rintro e w2 ⟨rfl, t1, ho⟩
  have B2 := B1.out ho (by omega)
  have O2 := O1.trans (ho.mono (by omega) (by omega))
  replace t0 := t0.out ho (by omega)
  replace r2 := r2.out ho (by omega)
  replace r3 := r3.out ho (by omega)
  clear ho B1 O1 r1
  have x := B2.c2
  go_wp2_with fail
  clear x
  refine (markPairS_any h2 h3 _ _ _ _ _ _ (by omega) (by omega) (by omega) (by exact r2)).mono ?_
  rintro e w3 ⟨rfl, t2, ho⟩
  have B3 := B2.out ho (by omega)
  have O3 := O2.trans (ho.mono (by omega) (by omega))
  replace t0 := t0.out ho (by omega)
  replace t1 := t1.out ho (by omega)
  replace r3 := r3.out ho (by omega)
  clear ho B2 O2 r2
  have x := B3.c3
  go_wp2_with fail
  clear x
  refine (markPairS_any h3 hi _ _ _ _ _ _ (by omega) (by omega) (by omega) (by exact r3)).mono ?_
  rintro e w4 ⟨rfl, t3, ho⟩
  have B4 := B3.out ho (by omega)
  have O4 := O3.trans (ho.mono (by omega) (by omega))
  replace t0 := t0.out ho (by omega)
  replace t1 := t1.out ho (by omega)
  replace t2 := t2.out ho (by omega)
  clear ho B3 O3 r3
  go_wp2
  go_ret
  exact ⟨rfl, t0, t1, t2, t3, O4⟩

set_option maxHeartbeats 1000000 in
theorem heldAsn_any (lo h1 h2 h3 hi : Nat) (a0 a1 a2 a3 : Option Addr) (n0 n1 n2 n3 c0 c1 c2 c3 : Nat) (w : World)
    (m0 : n0 ≤ 2097152) (m1 : n1 ≤ 2097152) (m2 : n2 ≤ 2097152) (m3 : n3 ≤ 2097152) (_q0 : lo ≤ h1) (q1 : h1 ≤ h2) (q2 : h2 ≤ h3) (q3 : h3 ≤ hi) (hs : hi ≤ w.heap.size)
    (r0 : RowIn w lo h1 a0 n0 (marks 1 n0)) (r1 : RowIn w h1 h2 a1 n1 (marks (1 + 2 * n0) n1)) (r2 : RowIn w h2 h3 a2 n2 (marks (1 + 2 * n0 + 2 * n1) n2)) (r3 : RowIn w h3 hi a3 n3 (marks (1 + 2 * n0 + 2 * n1 + 2 * n2) n3)) :
    Calls Try.prog 45 #[.agg #[.slice a0 n0 c0, .slice a1 n1 c1, .slice a2 n2 c2, .slice a3 n3 c3], .int .i64 1] w fun e w' => e = .returned (.int .i64 (1 + 2 * n0 + 2 * n1 + 2 * n2 + 2 * n3)) ∧ Below w.heap.size w w' := by
  have L : Below w.heap.size w (w.alloc (.cells #[.slice a0 n0 c0, .slice a1 n1 c1, .slice a2 n2 c2, .slice a3 n3 c3] 28)) := (Below.refl _ _).alloc (Nat.le_refl _) _
  replace r0 := r0.below L (by omega); replace r1 := r1.below L (by omega); replace r2 := r2.below L (by omega); replace r3 := r3.below L (by omega)
  go_enter Try.func45, Try.ntmps45
  go_wp2_with fail
  refine (heldPairS_any lo h1 _ _ _ _ _ (by omega) (by omega) (by omega) (by exact r0)).mono ?_
  rintro e w1 ⟨rfl, rfl⟩
  go_wp2_with fail
  refine (heldPairS_any h1 h2 _ _ _ _ _ (by omega) (by omega) (by omega) (by exact r1)).mono ?_
  rintro e w1 ⟨rfl, rfl⟩
  go_wp2_with fail
  refine (heldPairS_any h2 h3 _ _ _ _ _ (by omega) (by omega) (by omega) (by exact r2)).mono ?_
  rintro e w1 ⟨rfl, rfl⟩
  go_wp2_with fail
  refine (heldPairS_any h3 hi _ _ _ _ _ (by omega) (by omega) (by omega) (by exact r3)).mono ?_
  rintro e w1 ⟨rfl, rfl⟩
  go_wp2
  go_ret
  exact ⟨rfl, L⟩

end Go.Proofs.Ytfplloabkceaoaa
