/-
  Plain lemmas and contracts of functions for the other texts of this seat: Ints, Cp, Ar, Jn, Jc, L3.
-/
import Derived.Test.YtphchdjbhbmnbaaGab
import Derived.Deep.RegionWith
import Derived.Outline
import Derived.WalkLawsBesides
import Derived.Deep.MidRow
import Derived.Deep.RegionHeld3
import Derived.Laws.AppendOwnNone
namespace Go.Proofs.Ytphchdjbhbmnbaa
open Go.RowKit

/-- Block b of w is a row of n integers of the call's own, the first k of which are those of l. -/
def OwnI (w : World) (b n : Nat) (l : List Int) (k : Nat) : Prop :=
  b < w.heap.size ∧ (∀ j, j < n → (∃ v, w.cell? ⟨b, j, none⟩ = some v) ∧ w.frozen? ⟨b, j, none⟩ = false) ∧ ∀ i, i < k → w.cell? ⟨b, i, none⟩ = some (.int .i64 (l.getD i 0))

theorem OwnI.below {B : Nat} {w w' : World} {b n k : Nat} {l : List Int} (h : OwnI w b n l k) (hb : Below B w w') (hB : b < B) : OwnI w' b n l k := by
  obtain ⟨h1, h2, h3⟩ := h
  refine ⟨Nat.lt_of_lt_of_le h1 hb.size, fun j hj => ?_, fun i hi => ?_⟩
  · rw [hb.cell (p := ⟨b, j, none⟩) hB, hb.frozen (p := ⟨b, j, none⟩) hB]; exact h2 j hj
  · rw [hb.cell (p := ⟨b, _, none⟩) hB]; exact h3 i hi

theorem OwnI.out {lo hi : Nat} {w w' : World} {b n k : Nat} {l : List Int} (h : OwnI w b n l k) (ho : Out lo hi w w') (hr : b < lo ∨ hi ≤ b) : OwnI w' b n l k := by
  obtain ⟨h1, h2, h3⟩ := h
  have e : ∀ o, w'.cell? ⟨b, o, none⟩ = w.cell? ⟨b, o, none⟩ := fun o => World.cell?_of_block (w := w) (ho.block b h1 hr)
  have f : ∀ o, w'.frozen? ⟨b, o, none⟩ = w.frozen? ⟨b, o, none⟩ := fun o => World.frozen?_of_block (w := w) (ho.block b h1 hr)
  refine ⟨Nat.lt_of_lt_of_le h1 ho.size, fun j hj => ?_, fun i hi => ?_⟩
  · rw [e, f]; exact h2 j hj
  · rw [e]; exact h3 i hi

theorem OwnI.step {w : World} {b n k : Nat} {l : List Int} (h : OwnI w b n l k) (hk : k < n) : OwnI (w.setCell ⟨b, k, none⟩ (.int .i64 (l.getD k 0))) b n l (k + 1) := by
  obtain ⟨h1, h2, h3⟩ := h
  refine ⟨by simpa using h1, fun j hj => ⟨?_, by simpa using (h2 j hj).2⟩, fun i hi => ?_⟩
  · obtain ⟨v, hv⟩ := (h2 j hj).1
    exact ⟨_, cell_set hv⟩
  · by_cases e : i = k
    · subst e
      obtain ⟨v, hv⟩ := (h2 i (by omega)).1
      rw [cell_set hv, if_pos rfl]
    · rw [cell_set (h3 i (by omega)), if_neg (by omega)]

theorem OwnI.zero {w : World} {b n k : Nat} {l m : List Int} (h : OwnI w b n l k) : OwnI w b n m 0 := ⟨h.1, h.2.1, fun i hi => by omega⟩

/-- A slice of n integers that reads as l, in a block of the call's own from lo to hi. -/
def IntIn (w : World) (lo hi : Nat) (a : Option Addr) (n : Nat) (l : List Int) : Prop :=
  l.length = n ∧ (n = 0 ∨ ∃ b, a = some ⟨b, 0, none⟩ ∧ lo ≤ b ∧ b < hi ∧ OwnI w b n l n)

theorem IntIn.out {lo hi lo' hi' : Nat} {w w' : World} {a : Option Addr} {n : Nat} {l : List Int} (h : IntIn w lo hi a n l) (ho : Out lo' hi' w w') (hr : hi ≤ lo' ∨ hi' ≤ lo) : IntIn w' lo hi a n l := by
  obtain ⟨hl, h0 | ⟨b, rfl, h1, h2, h3⟩⟩ := h
  · exact ⟨hl, .inl h0⟩
  · exact ⟨hl, .inr ⟨b, rfl, h1, h2, h3.out ho (by omega)⟩⟩

theorem IntIn.below {lo hi B : Nat} {w w' : World} {a : Option Addr} {n : Nat} {l : List Int} (h : IntIn w lo hi a n l) (ho : Below B w w') (hr : hi ≤ B) : IntIn w' lo hi a n l := by
  obtain ⟨hl, h0 | ⟨b, rfl, h1, h2, h3⟩⟩ := h
  · exact ⟨hl, .inl h0⟩
  · exact ⟨hl, .inr ⟨b, rfl, h1, h2, h3.below ho (by omega)⟩⟩

theorem IntIn.mono {lo hi lo' hi' : Nat} {w : World} {a : Option Addr} {n : Nat} {l : List Int} (h : IntIn w lo hi a n l) (h1 : lo' ≤ lo) (h2 : hi ≤ hi') : IntIn w lo' hi' a n l := by
  obtain ⟨hl, h0 | ⟨b, rfl, h3, h4, h5⟩⟩ := h
  · exact ⟨hl, .inl h0⟩
  · exact ⟨hl, .inr ⟨b, rfl, by omega, by omega, h5⟩⟩

def ic (l : List Int) : List Value := l.map fun x => Value.int .i64 x
theorem ic_length (l : List Int) : (ic l).length = l.length * 1 := by simp [ic]

theorem OwnI.ofOwns {w : World} {base n g cap : Nat} {l : List Int} (h : w.ownsRow base 3 1 (.slice (some ⟨g, 0, none⟩) n cap) n (ic l)) : l.length = n ∧ base ≤ g ∧ OwnI w g n l n := by
  have hl : l.length = n := by have := h.1; rw [ic_length] at this; omega
  obtain ⟨hb, hlt⟩ := h.lt g rfl
  refine ⟨hl, hb, hlt, fun j hj => ⟨?_, h.frozenAt j⟩, fun i hi => ?_⟩
  · rw [h.cellAt j (by omega)]
    exact ⟨(ic l)[j]'(by rw [ic_length]; omega), by rw [List.getElem?_eq_getElem]⟩
  · rw [h.cellAt _ (by omega)]
    have hi' : i < l.length := by omega
    simp [ic, hi']

theorem IntIn.ofOwns {w : World} {base n : Nat} {v : Value} {l : List Int} (h : w.ownsRow base 3 1 v n (ic l)) : ∃ a cap, v = .slice a n cap ∧ IntIn w base w.heap.size a n l := by
  rcases h.2 with ⟨rfl, rfl⟩ | ⟨g, cap, cur, rfl, _⟩
  · exact ⟨none, 0, rfl, by have := h.1; rw [ic_length] at this; omega, .inl rfl⟩
  · obtain ⟨hl, hb, ho⟩ := OwnI.ofOwns h
    exact ⟨_, _, rfl, hl, .inr ⟨g, rfl, hb, ho.1, ho⟩⟩

def imarks (k : Int) (n : Nat) : List Int := (List.range n).map fun (i : Nat) => k + 1 * i
theorem imarks_length (k : Int) (n : Nat) : (imarks k n).length = n := by simp [imarks]
theorem imarks_at (k : Int) (n : Nat) {i : Nat} (h : i < n) : (imarks k n).getD i 0 = k + i := by simp [imarks, h]

set_option maxHeartbeats 400000 in
theorem eqIntS_none (a a' : Option Addr) (cap cap' : Nat) (w : World) : Calls Try.prog 61 #[.slice a 0 cap, .slice a' 0 cap'] w fun e w' => e = .returned (.bool true) ∧ Below w.heap.size w w' := by
  go_enter Try.func61, Try.ntmps61
  go_wp2
  go_loopw [5] (fun i wr => i = .int .i64 0 ∧ Below w.heap.size w wr) (fun _ _ => 0)
  case atStart => exact ⟨rfl, Below.refl _ _⟩
  case round =>
    obtain ⟨rfl, hbw⟩ := hrel
    go_wp2
    go_ret
    exact ⟨rfl, hbw⟩

set_option maxHeartbeats 400000 in
theorem eqIntS_some (b b' n cap cap' : Nat) (l : List Int) (w : World) (hn : n ≤ 1048576) (ho : OwnI w b n l n) (ho' : OwnI w b' n l n) :
    Calls Try.prog 61 #[.slice (some ⟨b, 0, none⟩) n cap, .slice (some ⟨b', 0, none⟩) n cap'] w fun e w' => e = .returned (.bool true) ∧ Below w.heap.size w w' := by
  go_enter Try.func61, Try.ntmps61
  go_wp2
  go_loopw [5] (fun i wr => ∃ k : Nat, k ≤ n ∧ i = .int .i64 k ∧ Below w.heap.size w wr) (fun i _ => n - (intOf i).toNat)
  case atStart => exact ⟨0, Nat.zero_le _, rfl, Below.refl _ _⟩
  case round =>
    obtain ⟨k, hk, rfl, hbw⟩ := hrel
    by_cases hlt : k < n
    · have hx := (ho.below hbw ho.1).2.2 k hlt
      have hy := (ho'.below hbw ho'.1).2.2 k hlt
      generalize l.getD k 0 = x at *
      have hkn : (k : Int) < (n : Int) := by omega
      go_wp2
      go_region_with (fail)
      all_goals
        have hb2 := hbw.drew
        go_wp2
        go_roundw
        case rel => exact ⟨k + 1, by omega, by go_num, hb2⟩
        case measure => simp [intOf]; omega
    · go_wp2
      go_ret
      exact ⟨rfl, hbw⟩

theorem eqIntS_rows (lo hi lo' hi' : Nat) (a a' : Option Addr) (n cap cap' : Nat) (l : List Int) (w : World) (hn : n ≤ 1048576) (hr : IntIn w lo hi a n l) (hr' : IntIn w lo' hi' a' n l) :
    Calls Try.prog 61 #[.slice a n cap, .slice a' n cap'] w fun e w' => e = .returned (.bool true) ∧ Below w.heap.size w w' := by
  obtain ⟨hl, rfl | ⟨b, rfl, _, _, ho⟩⟩ := hr
  · exact eqIntS_none _ _ _ _ w
  · obtain ⟨_, rfl | ⟨b', rfl, _, _, ho'⟩⟩ := hr'
    · exact eqIntS_none _ _ _ _ w
    · exact eqIntS_some b b' n cap cap' l w hn ho ho'

set_option maxHeartbeats 400000 in
theorem markIntS_some (b n cap : Nat) (k : Int) (l : List Int) (w : World) (hn : n ≤ 8388608) (h0 : 0 ≤ k) (h1 : k ≤ 67108864) (ho : OwnI w b n l 0) :
    Calls Try.prog 62 #[.slice (some ⟨b, 0, none⟩) n cap, .int .i64 k] w fun e w' => e = .returned (.int .i64 (k + 1 * n)) ∧ OwnI w' b n (imarks k n) n ∧ Kept b w w' := by
  go_enter Try.func62, Try.ntmps62
  go_wp2
  go_loopw [1, 5] (fun q i wr => ∃ j : Nat, j ≤ n ∧ i = .int .i64 j ∧ q = .int .i64 (k + j) ∧ OwnI wr b n (imarks k n) j ∧ Kept b w wr) (fun _ i _ => n - (intOf i).toNat)
  case atStart => exact ⟨0, Nat.zero_le _, rfl, by simp, ho.zero, Kept.refl _ _⟩
  case round =>
    obtain ⟨j, hj, rfl, rfl, hw, hkp⟩ := hrel
    by_cases hlt : j < n
    · obtain ⟨v0, hv0⟩ := (hw.2.1 j hlt).1
      have hf0 := (hw.2.1 j hlt).2
      have hst := hw.step hlt
      rw [imarks_at k n hlt] at hst
      have hk2 := hkp.set j (.int .i64 (k + j))
      clear hw hkp
      go_wp2
      go_roundw
      case rel => exact ⟨j + 1, by omega, by go_num, by go_num, hst, hk2⟩
      case measure => simp [intOf]; omega
    · obtain rfl : j = n := by omega
      go_wp2
      go_ret
      exact ⟨ret_int (by omega), hw, hkp⟩

set_option maxHeartbeats 400000 in
theorem markIntS_none (a : Option Addr) (cap : Nat) (k : Int) (w : World) : Calls Try.prog 62 #[.slice a 0 cap, .int .i64 k] w fun e w' => e = .returned (.int .i64 k) ∧ w' = w := by
  go_enter Try.func62, Try.ntmps62
  go_wp2
  go_loop [1, 5] (fun q i => i = .int .i64 0 ∧ q = .int .i64 k) (fun _ _ => 0)
  case atStart => exact ⟨rfl, rfl⟩
  case round =>
    obtain ⟨rfl, rfl⟩ := hrel
    go_wp2
    go_ret
    exact ⟨rfl, rfl⟩

theorem markIntS_any (lo hi : Nat) (a : Option Addr) (n cap : Nat) (k : Int) (l : List Int) (w : World) (hn : n ≤ 8388608) (h0 : 0 ≤ k) (h1 : k ≤ 67108864) (hr : IntIn w lo hi a n l) :
    Calls Try.prog 62 #[.slice a n cap, .int .i64 k] w fun e w' => e = .returned (.int .i64 (k + 1 * n)) ∧ IntIn w' lo hi a n (imarks k n) ∧ Out lo hi w w' := by
  obtain ⟨hl, rfl | ⟨b, rfl, h2, h3, ho⟩⟩ := hr
  · exact (markIntS_none a cap k w).mono fun e w' ⟨he, hw⟩ => ⟨by rw [he]; simp, hw ▸ ⟨by simp [imarks], .inl rfl⟩, hw ▸ Out.refl _ _ _⟩
  · exact (markIntS_some b n cap k l w hn h0 h1 ho.zero).mono fun e w' ⟨he, h4, h5⟩ => ⟨he, ⟨imarks_length k n, .inr ⟨b, rfl, h2, h3, h4⟩⟩, h5.out h2 h3⟩

set_option maxHeartbeats 400000 in
theorem heldIntS_some (b n cap : Nat) (k : Int) (w : World) (hn : n ≤ 8388608) (h0 : 0 ≤ k) (h1 : k ≤ 67108864) (ho : OwnI w b n (imarks k n) n) :
    Calls Try.prog 63 #[.slice (some ⟨b, 0, none⟩) n cap, .int .i64 k] w fun e w' => e = .returned (.int .i64 (k + 1 * n)) ∧ w' = w := by
  go_enter Try.func63, Try.ntmps63
  go_wp2
  go_loop [1, 5] (fun q i => ∃ j : Nat, j ≤ n ∧ i = .int .i64 j ∧ q = .int .i64 (k + j)) (fun _ i => n - (intOf i).toNat)
  case atStart => exact ⟨0, Nat.zero_le _, rfl, by simp⟩
  case round =>
    obtain ⟨j, hj, rfl, rfl⟩ := hrel
    by_cases hlt : j < n
    · have hx := ho.2.2 j hlt
      rw [imarks_at k n hlt] at hx
      go_wp2
      go_round
      case rel => exact ⟨j + 1, by omega, by go_num, by go_num⟩
      case measure => simp [intOf]; omega
    · obtain rfl : j = n := by omega
      go_wp2
      go_ret
      exact ⟨ret_int (by omega), rfl⟩

set_option maxHeartbeats 400000 in
theorem heldIntS_none (a : Option Addr) (cap : Nat) (k : Int) (w : World) : Calls Try.prog 63 #[.slice a 0 cap, .int .i64 k] w fun e w' => e = .returned (.int .i64 k) ∧ w' = w := by
  go_enter Try.func63, Try.ntmps63
  go_wp2
  go_loop [1, 5] (fun q i => i = .int .i64 0 ∧ q = .int .i64 k) (fun _ _ => 0)
  case atStart => exact ⟨rfl, rfl⟩
  case round =>
    obtain ⟨rfl, rfl⟩ := hrel
    go_wp2
    go_ret
    exact ⟨rfl, rfl⟩

theorem heldIntS_any (lo hi : Nat) (a : Option Addr) (n cap : Nat) (k : Int) (w : World) (hn : n ≤ 8388608) (h0 : 0 ≤ k) (h1 : k ≤ 67108864) (hr : IntIn w lo hi a n (imarks k n)) :
    Calls Try.prog 63 #[.slice a n cap, .int .i64 k] w fun e w' => e = .returned (.int .i64 (k + 1 * n)) ∧ w' = w := by
  obtain ⟨hl, rfl | ⟨b, rfl, h2, h3, ho⟩⟩ := hr
  · exact (heldIntS_none a cap k w).mono fun e w' ⟨he, hw⟩ => ⟨by rw [he]; simp, hw⟩
  · exact heldIntS_some b n cap k w hn h0 h1 ho

end Go.Proofs.Ytphchdjbhbmnbaa
namespace Go.Proofs.Ytphchdjbhbmnbaa
open Go.RowKit
/-- The bits of a small whole number. -/
def fl (x : Int) : Nat := floatOfInt .f64 x
theorem fl_back {x : Int} (h0 : 0 ≤ x) (h1 : x < 16) : floatToIntVal .f64 (fl x) .i64 = some x := by
  have : ∀ k : Nat, k < 16 → floatToIntVal .f64 (fl (k : Int)) .i64 = some (k : Int) := by decide +kernel
  obtain ⟨k, rfl⟩ := Int.eq_ofNat_of_zero_le h0
  exact this k (by omega)
theorem fl_order {x y : Int} (h0 : 0 ≤ x) (h1 : x < 16) (h2 : 0 ≤ y) (h3 : y < 16) : (FloatKind.f64.format.order (fl x) (fl y) == some .eq) = decide (x = y) := by
  have : ∀ k : Nat, k < 16 → ∀ j : Nat, j < 16 → (FloatKind.f64.format.order (fl (k : Int)) (fl (j : Int)) == some .eq) = decide ((k : Int) = (j : Int)) := by decide +kernel
  obtain ⟨k, rfl⟩ := Int.eq_ofNat_of_zero_le h0
  obtain ⟨j, rfl⟩ := Int.eq_ofNat_of_zero_le h2
  exact this k (by omega) j (by omega)
/-- Two numbers as a couple: the lesser is the real part. -/
def cplV (x y : Int) : Value := .complex .f64 (fl (min x y)) (fl (max x y))
set_option maxHeartbeats 400000 in
theorem coupleOf_any (x y : Int) (w : World) : Calls Try.prog 156 #[.int .i64 x, .int .i64 y] w fun e w' => e = .returned (cplV x y) ∧ w' = w := by
  go_enter Try.func156, Try.ntmps156
  go_wp2
  all_goals
    go_ret
    refine ⟨?_, rfl⟩
    unfold cplV fl
  · rw [show min x y = y by omega, show max x y = x by omega]; rfl
  · rw [show min x y = x by omega, show max x y = y by omega]; rfl
  · rw [show min x y = x by omega, show max x y = x by omega]; rfl
set_option maxHeartbeats 400000 in
theorem lesser_any (x : Int) (g : Nat) (w : World) (h0 : 0 ≤ x) (h1 : x < 16) : Calls Try.prog 217 #[.complex .f64 (fl x) g] w fun e w' => e = .returned (.int .i64 x) ∧ w' = w := by
  have hc := fun (w : World) => run_convert_float_int (P := Try.prog) w 151 3 .f64 .i64 (fl x) x (by rw [Try.underlying151]; rfl) Try.underlying3 (fl_back h0 h1)
  generalize fl x = f at *
  clear h0 h1
  go_enter Try.func217, Try.ntmps217
  go_wp2
  go_ret
  exact ⟨rfl, rfl⟩
set_option maxHeartbeats 400000 in
theorem greater_any (x : Int) (g : Nat) (w : World) (h0 : 0 ≤ x) (h1 : x < 16) : Calls Try.prog 218 #[.complex .f64 g (fl x)] w fun e w' => e = .returned (.int .i64 x) ∧ w' = w := by
  have hc := fun (w : World) => run_convert_float_int (P := Try.prog) w 151 3 .f64 .i64 (fl x) x (by rw [Try.underlying151]; rfl) Try.underlying3 (fl_back h0 h1)
  generalize fl x = f at *
  clear h0 h1
  go_enter Try.func218, Try.ntmps218
  go_wp2
  go_ret
  exact ⟨rfl, rfl⟩
def rep (x t b : Int) : Int := if x = t then b else x
set_option maxHeartbeats 400000 in
theorem replaced_any (x t b : Int) (w : World) : Calls Try.prog 136 #[.int .i64 x, .int .i64 t, .int .i64 b] w fun e w' => e = .returned (.int .i64 (rep x t b)) ∧ w' = w := by
  go_enter Try.func136, Try.ntmps136
  by_cases h : x = t
  · go_wp2
    go_ret
    exact ⟨ret_int (by rw [rep, if_pos h]), rfl⟩
  · go_wp2
    go_ret
    exact ⟨ret_int (by rw [rep, if_neg h]), rfl⟩
end Go.Proofs.Ytphchdjbhbmnbaa
namespace Go.Proofs.Ytphchdjbhbmnbaa
open Go.RowKit
/-- An array of whole numbers as a value. -/
def aV (c : List Int) : Value := .agg (ic c).toArray
theorem ic_get (c : List Int) {i : Nat} (h : i < c.length) : (ic c)[i]? = some (.int .i64 (c.getD i 0)) := by simp [ic, h]
theorem ic_size (c : List Int) : (ic c).toArray.size = c.length := by simp [ic]
theorem OwnI.new (w : World) (c : List Int) (n : Nat) (hn : c.length = n) (t : TypeId) : OwnI (w.alloc (.cells (ic c).toArray t)) w.heap.size n c n := by
  have hc : ∀ i, i < n → (w.alloc (.cells (ic c).toArray t)).cell? ⟨w.heap.size, i, none⟩ = some (.int .i64 (c.getD i 0)) := by
    intro i hi
    have h := ic_get c (i := i) (by omega)
    simp [h]
  exact ⟨by simp, fun j hj => ⟨⟨_, hc j hj⟩, by simp⟩, hc⟩
theorem OwnI.alloc {w : World} {b n k : Nat} {l : List Int} (h : OwnI w b n l k) (o : Obj) : OwnI (w.alloc o) b n l k := h.below ((Below.refl _ _).alloc (Nat.le_refl _) _) h.1
theorem OwnI.drew {w : World} {b n k : Nat} {l : List Int} (h : OwnI w b n l k) : OwnI w.drew b n l k := h.below ((Below.refl _ _).drew) h.1
theorem OwnI.range {w : World} {b n : Nat} {l : List Int} (h : OwnI w b n l n) (hn : l.length = n) : w.rangeAt b 0 (ic l) := by
  intro j v hv
  have hj : j < l.length := by
    have := (List.getElem?_eq_some_iff.1 hv).1
    simpa [ic] using this
  rw [ic_get l hj] at hv
  cases hv
  rw [Nat.zero_add]
  exact h.2.2 j (by omega)
theorem ld67 {w : World} {b : Nat} {c : List Int} (h : OwnI w b 16 c 16) (hl : c.length = 16) : (Instr.loadAt 102 (.pointer (some ⟨b, 0, none⟩))).run Try.prog w = .ok (.agg (ic c).toArray) w :=
  run_loadAt_mid (P := Try.prog) w b 0 102 (ic c) _ (h.range hl) Try.underlying102 rfl (by rw [ic_length, hl]; kernel_rfl)
/-- A load of a whole array. -/
theorem wl67 {ops : Array Oper} {rest : List Oper} {op : Oper} {a : Act} {w : World} {Q : Exit → Act → World → Prop} (hgd : op.guard = none) (x : Operand) (ho : op.op = .load 102 x)
    (b : Nat) (hx : a.eval x = .pointer (some ⟨b, 0, none⟩)) {c : List Int} (h : OwnI w b 16 c 16) (hl : c.length = 16)
    (k : wpList Try.prog ops Q rest (a.put op.dst (.agg (ic c).toArray)) w) : wpList Try.prog ops Q (op :: rest) a w :=
  wpList_load_mid hgd 102 x ho b 0 hx (ic c) _ (h.range hl) Try.underlying102 rfl (by rw [ic_length, hl]; kernel_rfl) k
theorem ic_one (c : List Int) : (ic c).toArray.all (·.oneCell') = true := all_oneCell_toArray (by intro v hv; simp only [ic, List.mem_map] at hv; obtain ⟨x, _, rfl⟩ := hv; rfl)
theorem OwnI.there {w : World} {b n k : Nat} {l : List Int} (h : OwnI w b n l k) : w.there b 0 n := fun j hj => by
  obtain ⟨⟨v, hv⟩, hf⟩ := h.2.1 j hj
  rw [Nat.zero_add]
  exact ⟨by rw [hv]; rfl, hf⟩
/-- A store of a whole array. -/
theorem ws67 {ops : Array Oper} {rest : List Oper} {op : Oper} {a : Act} {w : World} {Q : Exit → Act → World → Prop} (hgd : op.guard = none) (x y : Operand) (ho : op.op = .store 102 x y)
    (b : Nat) (hx : a.eval x = .pointer (some ⟨b, 0, none⟩)) (c d : List Int) (hy : a.eval y = .agg (ic c).toArray) {k : Nat} (h : OwnI w b 16 d k) (hl : c.length = 16) (hn : op.dst = none)
    (kk : wpList Try.prog ops Q rest a (w.setCells b 0 (ic c))) : wpList Try.prog ops Q (op :: rest) a w := by
  refine wpList_store_mid hgd 102 x y ho b 0 (ic c).toArray hx hy (by rw [ic_size, hl]; exact h.there) (by rw [ic_size, hl]; kernel_rfl) (ic_one c) ?_
  simpa [hn, Act.put] using kk
theorem Below.setCells {B : Nat} {a : World} (b : Nat) (hp : B ≤ b) : ∀ (vs : List Value) (o : Nat) (w : World), Below B a w → Below B a (w.setCells b o vs)
  | [], _, _, h => h
  | v :: vs, o, w, h => by
    simp only [World.setCells]
    exact Below.setCells b hp vs (o + 1) _ (Below.set h b o hp v)
theorem OwnI.setAll {w : World} {b k : Nat} {d c : List Int} (h : OwnI w b 16 d k) (hl : c.length = 16) : OwnI (w.setCells b 0 (ic c)) b 16 c 16 := by
  have ht := h.there
  have hr := World.rangeAt_setCells_same w b 0 (ic c) (by rw [ic_length, hl]; exact ht)
  have ht2 := World.there_setCells ht b 0 (ic c)
  have hc : ∀ i, i < 16 → (w.setCells b 0 (ic c)).cell? ⟨b, i, none⟩ = some (.int .i64 (c.getD i 0)) := fun i hi => by
    have := hr i _ (ic_get c (i := i) (by omega))
    rwa [Nat.zero_add] at this
  refine ⟨?_, fun j hj => ⟨⟨_, hc j hj⟩, ?_⟩, hc⟩
  · exact Nat.lt_of_lt_of_le h.1 (Below.setCells (B := 0) (a := w) b (Nat.zero_le _) (ic c) 0 w (Below.refl _ _)).size
  · have := (ht2 j hj).2
    rwa [Nat.zero_add] at this
theorem idx67 (c : List Int) (k : Nat) (hl : c.length = 16) (hk : k < 16) (w : World) : (Instr.index 102 (.agg (ic c).toArray) (.int .i64 k)).run Try.prog w = .ok (.int .i64 (c.getD k 0)) w := by
  have h0 : (0 : Int) ≤ (k : Int) ∧ (k : Int) < (16 : Nat) := by omega
  have hg := ic_get c (i := k) (by omega)
  have hi : (sizeOf 3).run Try.prog w = .ok 1 w := by kernel_rfl
  simp [Instr.index, run_underlying Try.underlying102, asIntOf, h0, part, isAgg, run_underlying Try.underlying3, hi, hg, Sem.run_bind, go_sem]
  omega
/-- The result is a whole array in a block. -/
theorem ret67 {fn : Func} {p : Tmp} (h : fn.results = #[.cell p 102]) (tmps : Array Value) (w : World) (b : Nat) (hb : tmps.getD p undef = .pointer (some ⟨b, 0, none⟩)) {c : List Int} (ho : OwnI w b 16 c 16) (hl : c.length = 16) :
    (results fn tmps).run Try.prog w = .ok (.agg (ic c).toArray) w := by
  have hv := run_loadVar_mid (P := Try.prog) w b 0 102 (ic c) _ (ho.range hl) Try.underlying102 rfl (by rw [ic_length, hl]; kernel_rfl)
  simp only [results, h]
  have hb2 : tmps[p]?.getD undef = .pointer (some ⟨b, 0, none⟩) := by simpa using hb
  simp [hb2, asAddr, hv]
/-- A pair of whole numbers in a block. -/
structure PBox (w : World) (b : Nat) (x y : Int) : Prop where
  lt : b < w.heap.size
  c0 : w.cell? ⟨b, 0, none⟩ = some (.int .i64 x)
  c1 : w.cell? ⟨b, 1, none⟩ = some (.int .i64 y)
theorem PBox.new (w : World) (x y : Int) (t : TypeId) : PBox (w.alloc (.cells #[.int .i64 x, .int .i64 y] t)) w.heap.size x y := ⟨by simp, by simp, by simp⟩
theorem PBox.below {B : Nat} {w w' : World} {b : Nat} {x y : Int} (h : PBox w b x y) (hb : Below B w w') (hB : b < B) : PBox w' b x y :=
  ⟨Nat.lt_of_lt_of_le h.lt hb.size, by rw [hb.cell (p := ⟨b, 0, none⟩) hB]; exact h.c0, by rw [hb.cell (p := ⟨b, 1, none⟩) hB]; exact h.c1⟩
set_option maxHeartbeats 1000000 in
theorem of_any (c : List Int) (x y : Nat) (w : World) (hl : c.length = 16) (hx : x < 16) (hy : y < 16) :
    Calls Try.prog 178 #[aV c, .agg #[.int .i64 x, .int .i64 y]] w fun e w' => e = .returned (cplV (c.getD x 0) (c.getD y 0)) ∧ Below w.heap.size w w' := by
  have A0 := OwnI.new w c 16 hl 102
  have B0 := PBox.new (w.alloc (.cells (ic c).toArray 102)) x y 69
  have A1 := A0.alloc (.cells #[.int .i64 x, .int .i64 y] 69)
  have L1 : Below w.heap.size w ((w.alloc (.cells (ic c).toArray 102)).alloc (.cells #[.int .i64 x, .int .i64 y] 69)) := ((Below.refl _ _).alloc (Nat.le_refl _) _).alloc (by simp) _
  rw [World.size_alloc] at B0
  have ex := A1.2.2 x hx
  have ey := A1.2.2 y hy
  have HX : Hid (x < 16) := hx
  have HY : Hid (y < 16) := hy
  have E0 := B0.c0
  have E1 := B0.c1
  clear A0 A1 B0
  unfold aV
  generalize c.getD x 0 = u at *
  generalize c.getD y 0 = v at *
  go_enter Try.func178, Try.ntmps178
  go_wp2_with fail
  generalize ((w.alloc (.cells (ic c).toArray 102)).alloc (.cells #[.int .i64 x, .int .i64 y] 69)) = W at *
  have hS0 : Below w.heap.size w W.drew ∧ W.drew.cell? ⟨w.heap.size, x, none⟩ = some (.int .i64 u) ∧ W.drew.cell? ⟨w.heap.size, y, none⟩ = some (.int .i64 v) ∧ W.drew.cell? ⟨w.heap.size + 1, 0, none⟩ = some (.int .i64 x) ∧ W.drew.cell? ⟨w.heap.size + 1, 1, none⟩ = some (.int .i64 y) := ⟨L1.drew, ex, ey, E0, E1⟩
  have hx0 : (0 : Int) ≤ (x : Int) := by omega
  have hx1 : (x : Int) < 16 := by have := HX.out; omega
  have hy0 : (0 : Int) ≤ (y : Int) := by omega
  have hy1 : (y : Int) < 16 := by have := HY.out; omega
  clear L1 ex ey E0 E1
  go_region_held3 (fun w' => Below w.heap.size w w' ∧ w'.cell? ⟨w.heap.size, x, none⟩ = some (.int .i64 u) ∧ w'.cell? ⟨w.heap.size, y, none⟩ = some (.int .i64 v) ∧ w'.cell? ⟨w.heap.size + 1, 0, none⟩ = some (.int .i64 x) ∧ w'.cell? ⟨w.heap.size + 1, 1, none⟩ = some (.int .i64 y))
    (first | exact hS0 | assumption | (refine ⟨?_, ?_, ?_, ?_, ?_⟩ <;> assumption))
    (first
      | (go_at_call 156; refine (coupleOf_any _ _ _).mono ?_; rintro e wz ⟨rfl, rfl⟩))
  all_goals
    go_wp2
    go_ret
    exact ⟨rfl, hS0.1⟩
end Go.Proofs.Ytphchdjbhbmnbaa
namespace Go.Proofs.Ytphchdjbhbmnbaa
open Go.RowKit
abbrev z16 : Array Value := #[.int .i64 0, .int .i64 0, .int .i64 0, .int .i64 0, .int .i64 0, .int .i64 0, .int .i64 0, .int .i64 0, .int .i64 0, .int .i64 0, .int .i64 0, .int .i64 0, .int .i64 0, .int .i64 0, .int .i64 0, .int .i64 0]
theorem z16_ic : z16 = (ic (List.replicate 16 0)).toArray := rfl
/-- All of c that are h become l. -/
def reps (c : List Int) (h l : Int) : List Int := c.map fun z => rep z h l
theorem reps_length (c : List Int) (h l : Int) : (reps c h l).length = c.length := by simp [reps]
theorem reps_at (c : List Int) (h l : Int) {i : Nat} (hi : i < c.length) : (reps c h l).getD i 0 = rep (c.getD i 0) h l := by simp [reps, hi]
/-- Block b has the first k of d, and then those of c. -/
def Mix (w : World) (b : Nat) (d c : List Int) (k : Nat) : Prop :=
  b < w.heap.size ∧ (∀ j, j < 16 → w.frozen? ⟨b, j, none⟩ = false) ∧ ∀ j, j < 16 → w.cell? ⟨b, j, none⟩ = some (.int .i64 (if j < k then d.getD j 0 else c.getD j 0))
theorem Mix.start {w : World} {b : Nat} {c : List Int} (d : List Int) (h : OwnI w b 16 c 16) : Mix w b d c 0 := ⟨h.1, fun j hj => (h.2.1 j hj).2, fun j hj => by rw [if_neg (by omega)]; exact h.2.2 j hj⟩
theorem Mix.done {w : World} {b : Nat} {d c : List Int} (h : Mix w b d c 16) : OwnI w b 16 d 16 := by
  have hc : ∀ j, j < 16 → w.cell? ⟨b, j, none⟩ = some (.int .i64 (d.getD j 0)) := fun j hj => by have := h.2.2 j hj; rwa [if_pos hj] at this
  exact ⟨h.1, fun j hj => ⟨⟨_, hc j hj⟩, h.2.1 j hj⟩, hc⟩
theorem Mix.below {B : Nat} {w w' : World} {b k : Nat} {d c : List Int} (h : Mix w b d c k) (hb : Below B w w') (hB : b < B) : Mix w' b d c k :=
  ⟨Nat.lt_of_lt_of_le h.1 hb.size, fun j hj => by rw [hb.frozen (p := ⟨b, j, none⟩) hB]; exact h.2.1 j hj, fun j hj => by rw [hb.cell (p := ⟨b, j, none⟩) hB]; exact h.2.2 j hj⟩
theorem Mix.drew {w : World} {b k : Nat} {d c : List Int} (h : Mix w b d c k) : Mix w.drew b d c k := h.below ((Below.refl _ _).drew) h.1
theorem Mix.step {w : World} {b k : Nat} {d c : List Int} (h : Mix w b d c k) : Mix (w.setCell ⟨b, k, none⟩ (.int .i64 (d.getD k 0))) b d c (k + 1) := by
  obtain ⟨h1, h2, h3⟩ := h
  refine ⟨by simpa using h1, fun j hj => by simpa using h2 j hj, fun j hj => ?_⟩
  rw [cell_set (h3 j hj)]
  by_cases e : k = j
  · subst e; rw [if_pos rfl, if_pos (by omega)]
  · rw [if_neg e]
    by_cases g : j < k
    · rw [if_pos g, if_pos (by omega)]
    · rw [if_neg g, if_neg (by omega)]
theorem OwnI.set_other {w : World} {b n k : Nat} {l : List Int} (h : OwnI w b n l k) (b' i' : Nat) (hp : b' ≠ b) (u : Value) : OwnI (w.setCell ⟨b', i', none⟩ u) b n l k := by
  obtain ⟨h1, h2, h3⟩ := h
  have e : ∀ o, (w.setCell ⟨b', i', none⟩ u).cell? ⟨b, o, none⟩ = w.cell? ⟨b, o, none⟩ := fun o => World.cell?_setCell_other w _ _ u (by intro h; cases h; exact hp rfl)
  refine ⟨by simpa using h1, fun j hj => ?_, fun i hi => by rw [e]; exact h3 i hi⟩
  rw [e]
  exact ⟨(h2 j hj).1, by simpa using (h2 j hj).2⟩
set_option maxRecDepth 3000 in
set_option maxHeartbeats 1000000 in
theorem joined_any (c : List Int) (u v : Int) (hs : c.length = 16) (hu0 : 0 ≤ u) (hu1 : u < 16) (hv0 : 0 ≤ v) (hv1 : v < 16) (w : World) :
    Calls Try.prog 215 #[aV c, cplV u v] w fun e w' => e = .returned (aV (reps c (max u v) (min u v))) ∧ Below w.heap.size w w' := by
  unfold aV cplV
  have hg0 : 0 ≤ max u v := by omega
  have hg1 : max u v < 16 := by omega
  have hk0 : 0 ≤ min u v := by omega
  have hk1 : min u v < 16 := by omega
  generalize max u v = g at *
  generalize min u v = l at *
  clear hu0 hu1 hv0 hv1
  have A0 := (OwnI.new w c 16 hs 102).alloc (.cells z16 102)
  have R0 := OwnI.new (w.alloc (.cells (ic c).toArray 102)) (List.replicate 16 0) 16 rfl 102
  rw [← z16_ic, World.size_alloc] at R0
  have L0 : Below w.heap.size w ((w.alloc (.cells (ic c).toArray 102)).alloc (.cells z16 102)) := ((Below.refl _ _).alloc (Nat.le_refl _) _).alloc (by simp) _
  go_enter Try.func215, Try.ntmps215
  iterate 15 go_step
  refine wl67 rfl (.tmp 2) rfl _ rfl A0 hs ?_
  generalize (w.alloc (.cells (ic c).toArray 102)).alloc (.cells z16 102) = W at *
  have HS : Hid (c.length = 16) := hs
  clear hs
  go_wp2_with fail
  go_loopw [8] (fun i wr => ∃ k : Nat, k ≤ 16 ∧ i = .int .i64 k ∧ Mix wr w.heap.size (reps c g l) c k ∧ OwnI wr (w.heap.size + 1) 16 (List.replicate 16 0) 16 ∧ Below w.heap.size w wr) (fun i _ => 16 - (intOf i).toNat)
  case atStart => exact ⟨0, Nat.zero_le _, rfl, Mix.start _ A0, R0, L0⟩
  case round =>
    clear A0 R0 L0
    obtain ⟨k, hk, rfl, M, R, L⟩ := hrel
    by_cases hlt : k < 16
    · have hkn : (k : Int) < 16 := by omega
      have hk0' : (0 : Int) ≤ (k : Int) := by omega
      have hix := idx67 c k HS.out hlt
      have hcell := M.2.2 k hlt
      have hfr := M.2.1 k hlt
      rw [if_neg (Nat.lt_irrefl k)] at hcell
      have hst := M.step
      rw [reps_at c g l (by have := HS.out; omega)] at hst
      generalize c.getD k 0 = x at *
      go_wp2_with fail
      refine (greater_any g _ _ hg0 hg1).mono ?_
      rintro e wz ⟨rfl, rfl⟩
      go_wp2_with fail
      refine (lesser_any l _ _ hk0 hk1).mono ?_
      rintro e wz ⟨rfl, rfl⟩
      go_wp2_with fail
      refine (replaced_any _ _ _ _).mono ?_
      rintro e wz ⟨rfl, rfl⟩
      have R2 := R.set_other w.heap.size k (by omega) (.int .i64 (rep x g l))
      have L2 := Below.set L w.heap.size k (Nat.le_refl _) (.int .i64 (rep x g l))
      generalize rep x g l = y at *
      clear M R L
      go_wp2
      go_roundw
      case rel => exact ⟨k + 1, by omega, by go_num, hst, R2, L2⟩
      case measure => simp [intOf]; omega
    · obtain rfl : k = 16 := by omega
      have D := M.done
      have hnl : ¬ (((16 : Nat) : Int) < 16) := by omega
      have HR : (reps c g l).length = 16 := by rw [reps_length]; exact HS.out
      iterate 18 go_step
      refine wl67 rfl (.tmp 2) rfl _ rfl D HR ?_
      refine ws67 rfl (.tmp 4) (.tmp 21) rfl _ rfl (reps c g l) _ rfl R HR rfl ?_
      have F := R.setAll HR
      have L2 := Below.setCells (w.heap.size + 1) (Nat.le_succ _) (ic (reps c g l)) 0 _ L
      generalize wr.setCells (w.heap.size + 1) 0 (ic (reps c g l)) = wz at *
      iterate 5 go_step
      exact bodyPost_ret (ret67 rfl _ _ _ rfl F HR) rfl ⟨rfl, L2⟩
end Go.Proofs.Ytphchdjbhbmnbaa
namespace Go.Proofs.Ytphchdjbhbmnbaa
open Go.RowKit
/-- Each term's own number. -/
def ids : List Int := (List.range 16).map fun (i : Nat) => (i : Int)
theorem ids_length : ids.length = 16 := rfl
theorem ids_at {k : Nat} (h : k < 16) : ids.getD k 0 = (k : Int) := by simp [ids, h]
/-- Two classes become one. -/
def jn (c : List Int) (p : Int × Int) : List Int := reps c (max (c.getD p.1.toNat 0) (c.getD p.2.toNat 0)) (min (c.getD p.1.toNat 0) (c.getD p.2.toNat 0))
theorem jn_length (c : List Int) (p : Int × Int) : (jn c p).length = c.length := reps_length _ _ _
/-- The classes behind the pairs of l. -/
def clsV (l : List (Int × Int)) : List Int := l.foldl jn ids
theorem clsV_step {l : List (Int × Int)} {k : Nat} (hk : k < l.length) : clsV (l.take (k + 1)) = jn (clsV (l.take k)) (l.getD k (0, 0)) := by
  unfold clsV
  rw [List.take_add_one, List.getElem?_eq_getElem hk]
  simp only [Option.toList_some, List.foldl_append, List.foldl_cons, List.foldl_nil]
  rw [List.getD_eq_getElem?_getD, List.getElem?_eq_getElem hk, Option.getD_some]
/-- Sixteen numbers, each of them a term. -/
def Cls (c : List Int) : Prop := c.length = 16 ∧ ∀ k, k < 16 → 0 ≤ c.getD k 0 ∧ c.getD k 0 < 16
theorem Cls.ids : Cls ids := ⟨rfl, fun k hk => by rw [ids_at hk]; omega⟩
theorem Cls.reps {c : List Int} (h : Cls c) {u v : Int} (hv0 : 0 ≤ v) (hv1 : v < 16) : Cls (reps c u v) := by
  refine ⟨by rw [reps_length]; exact h.1, fun k hk => ?_⟩
  rw [reps_at c u v (by rw [h.1]; exact hk)]
  unfold rep
  have := h.2 k hk
  split <;> omega
theorem Cls.jn {c : List Int} (h : Cls c) {p : Int × Int} (h0 : 0 ≤ p.1 ∧ p.1 < 16) (h1 : 0 ≤ p.2 ∧ p.2 < 16) : Cls (jn c p) := by
  have := h.2 p.1.toNat (by omega)
  have := h.2 p.2.toNat (by omega)
  exact h.reps (by omega) (by omega)
theorem toks_get {l : List (Int × Int)} (h : toks l = true) {k : Nat} (hk : k < l.length) : (0 ≤ (l.getD k (0, 0)).1 ∧ (l.getD k (0, 0)).1 < 16) ∧ (0 ≤ (l.getD k (0, 0)).2 ∧ (l.getD k (0, 0)).2 < 16) := by
  simpa using toks_at h hk
theorem Cls.take {l : List (Int × Int)} (h : toks l = true) : ∀ k, k ≤ l.length → Cls (clsV (l.take k))
  | 0, _ => by simpa [clsV] using Cls.ids
  | k + 1, hk => by
    rw [clsV_step (by omega)]
    have ht := toks_get h (k := k) (by omega)
    exact (Cls.take h k (by omega)).jn ht.1 ht.2
theorem Cls.all {l : List (Int × Int)} (h : toks l = true) : Cls (clsV l) := by
  have := Cls.take h l.length (Nat.le_refl _)
  rwa [List.take_length] at this
theorem OwnI.zeros (w : World) (t : TypeId) : OwnI (w.alloc (.cells z16 t)) w.heap.size 16 (List.replicate 16 0) 16 := by
  rw [z16_ic]; exact OwnI.new w _ 16 rfl t
theorem OwnI.setCells {w : World} {b n k : Nat} {l : List Int} (h : OwnI w b n l k) (b' : Nat) (hp : b' ≠ b) : ∀ (vs : List Value), OwnI (w.setCells b' 0 vs) b n l k := by
  intro vs
  have go : ∀ (vs : List Value) (o : Nat) (w : World), OwnI w b n l k → OwnI (w.setCells b' o vs) b n l k := by
    intro vs
    induction vs with
    | nil => intro o w h; exact h
    | cons v vs ih => intro o w h; simp only [World.setCells]; exact ih _ _ (h.set_other b' o hp v)
  exact go vs 0 w h
theorem PBox.drew {w : World} {b : Nat} {x y : Int} (h : PBox w b x y) : PBox w.drew b x y := h.below ((Below.refl _ _).drew) h.lt
theorem PBox.range {w : World} {b : Nat} {x y : Int} (h : PBox w b x y) : w.rangeAt b 0 [.int .i64 x, .int .i64 y] := by
  intro j v hv
  match j, hv with
  | 0, hv => simp at hv; subst hv; exact h.c0
  | 1, hv => simp at hv; subst hv; exact h.c1
  | j + 2, hv => simp at hv
theorem OwnI.ofMid {w : World} {b : Nat} {c : List Int} (hl : c.length = 16) (h1 : w.rangeAt b 0 (ic c)) (h2 : w.there b 0 16) (h3 : b < w.heap.size) : OwnI w b 16 c 16 := by
  have hc : ∀ i, i < 16 → w.cell? ⟨b, i, none⟩ = some (.int .i64 (c.getD i 0)) := fun i hi => by
    have := h1 i _ (ic_get c (i := i) (by omega))
    rwa [Nat.zero_add] at this
  refine ⟨h3, fun j hj => ⟨⟨_, hc j hj⟩, ?_⟩, hc⟩
  have := (h2 j hj).2
  rwa [Nat.zero_add] at this

end Go.Proofs.Ytphchdjbhbmnbaa
namespace Go.Proofs.Ytphchdjbhbmnbaa
open Go.RowKit
theorem Try.i3 : ∃ i, Try.prog.info? 3 = some i ∧ i.zero = some (.int .i64 0) ∧ i.size = 1 ∧ i.bytes = 8 := by
  have h : (Try.prog.info? 3).map (fun i => (i.zero, i.size, i.bytes)) = some (some (.int .i64 0), 1, 8) := by kernel_rfl
  cases hi : Try.prog.info? 3 with
  | none => rw [hi] at h; simp at h
  | some i =>
    rw [hi] at h
    simp only [Option.map_some, Option.some.injEq, Prod.mk.injEq] at h
    exact ⟨i, rfl, h.1, h.2.1, h.2.2⟩
theorem Mix.keep {w : World} {b k : Nat} {d c : List Int} (h : Mix w b d c k) (e : d.getD k 0 = c.getD k 0) : Mix w b d c (k + 1) := by
  refine ⟨h.1, h.2.1, fun j hj => ?_⟩
  rw [h.2.2 j hj]
  by_cases g : j < k
  · rw [if_pos g, if_pos (by omega)]
  · rw [if_neg g]
    by_cases q : j = k
    · subst q; rw [if_pos (by omega), e]
    · rw [if_neg (by omega)]
theorem ids_take {k : Nat} (h : k < 16) : ids.take (k + 1) = ids.take k ++ [(k : Int)] := by
  rw [List.take_add_one, List.getElem?_eq_getElem (by rw [ids_length]; exact h)]
  simp [ids]
theorem ids_take_len {k : Nat} (h : k ≤ 16) : (ids.take k).length = k := by rw [List.length_take, ids_length]; omega

set_option maxRecDepth 3000 in
set_option maxHeartbeats 1000000 in
theorem l3classes_any (a0 a1 a2 a3 : Option Addr) (c0 c1 c2 c3 : Nat) (l0 l1 l2 l3 : List (Int × Int)) (w : World) (n0 : l0.length ≤ 1048576) (ht : toks l0 = true) (r0 : PRow w a0 l0) :
    Calls Try.prog 151 #[.agg #[.slice a0 l0.length c0, .slice a1 l1.length c1, .slice a2 l2.length c2, .slice a3 l3.length c3]] w fun e w' => ∃ b c, e = .returned (.slice (some ⟨b, 0, none⟩) 16 c) ∧ w.heap.size ≤ b ∧ OwnI w' b 16 (clsV l0) 16 ∧ Below w.heap.size w w' := by
  have B0 := Box.new w (.slice a0 l0.length c0) (.slice a1 l1.length c1) (.slice a2 l2.length c2) (.slice a3 l3.length c3) 28
  have L0 : Below w.heap.size w (w.alloc (.cells #[.slice a0 l0.length c0, .slice a1 l1.length c1, .slice a2 l2.length c2, .slice a3 l3.length c3] 28)) := (Below.refl _ _).alloc (Nat.le_refl _) _
  obtain ⟨i0, hi, hz0, hz1, hz2⟩ := Try.i3
  have s0 : w.heap.size ≤ (w.alloc (.cells #[.slice a0 l0.length c0, .slice a1 l1.length c1, .slice a2 l2.length c2, .slice a3 l3.length c3] 28)).heap.size := by simp
  go_enter Try.func151, Try.ntmps151
  go_wp2_with fail
  generalize w.alloc (.cells #[.slice a0 l0.length c0, .slice a1 l1.length c1, .slice a2 l2.length c2, .slice a3 l3.length c3] 28) = W at *
  go_loopw [3, 4] (fun v i wr => ∃ k : Nat, k ≤ 16 ∧ i = .int .i64 k ∧ wr.ownsRow W.heap.size 3 1 v k (ic (ids.take k)) ∧ Below W.heap.size W wr) (fun _ i _ => 16 - (intOf i).toNat)
  case atStart => exact ⟨0, by omega, rfl, World.ownsRow_nil _ _ _ _, Below.refl _ _⟩
  case round =>
    obtain ⟨k, hk, rfl, hown, hbw⟩ := hrel
    by_cases hlt : k < 16
    · have HF : Hid (ids.take (k + 1) = ids.take k ++ [(k : Int)]) := ids_take hlt
      generalize ids.take k = ls at *
      have hkn : (k : Int) < 16 := by omega
      go_wp2_with (at_builtin; refine wpList_append_own _ rfl _ _ 44 rfl W.heap.size 3 i0 (.int .i64 0) 1 8 Try.underlying44 hi hz0 hz1 hz2 rfl (by decide) _ _ _ rfl (hown.alloc _) ⟨wr.heap.size, 0, none⟩ 1 1 [.int .i64 k] rfl rfl ?c1 ?c2 ?c3 ?c4 ?c5 ?_)
      case c1 =>
        intro j u hj
        match j, hj with
        | 0, hj => simp at hj; subst hj; simp [Addr.add]
      case c2 => intro u hu; simp at hu; subst hu; rfl
      case c3 => unfold maxLen; omega
      case c4 => omega
      case c5 => have := hbw.size; simp; omega
      · intro v' w4 hown' hg hiff
        have hb2 := (hbw.alloc hbw.size _).grown hg (Nat.le_trans hbw.size (by simp)) (by intro q hq; exact (hown.lt q hq).1)
        clear hiff hg hown hbw
        go_wp2
        first
          | (go_roundw
             case rel => exact ⟨k + 1, by omega, by go_num, by rw [HF.out]; simpa [ic] using hown', hb2⟩
             case measure => simp [intOf]; omega)
          | ((repeat apply Exists.intro); exact ⟨⟨k + 1, by omega, by go_num, by rw [HF.out]; simpa [ic] using hown', hb2⟩, rfl⟩)
    · have hown2 := hown
      rw [show k = 16 by omega] at hown2
      obtain ⟨a, cp, rfl, hr⟩ := IntIn.ofOwns hown2
      clear hown2
      obtain ⟨hl, h0 | ⟨b, rfl, g1, g2, O⟩⟩ := hr
      · omega
      have C1 : OwnI wr b 16 (clsV (l0.take 0)) 16 := by rw [show ids.take 16 = ids from rfl] at O; simpa [clsV] using O
      have L := L0.trans (hbw.mono s0)
      have X := B0.below hbw B0.lt
      have g3 := B0.lt
      have s1 : w.heap.size + 1 ≤ W.heap.size := by omega
      clear hown hbw O hl L0 B0
      generalize W.heap.size = NW at *
      clear g2
      go_wp2_with fail
      go_loopw [5] (fun i wr => ∃ k : Nat, k ≤ l0.length ∧ i = .int .i64 k ∧ OwnI wr b 16 (clsV (l0.take k)) 16 ∧ Box wr w.heap.size (.slice a0 l0.length c0) (.slice a1 l1.length c1) (.slice a2 l2.length c2) (.slice a3 l3.length c3) ∧ Below w.heap.size w wr) (fun i _ => l0.length - (intOf i).toNat)
      case atStart => exact ⟨0, Nat.zero_le _, rfl, C1, X, L⟩
      case round =>
        clear C1 X L
        obtain ⟨k, hk, rfl, C, X, L⟩ := hrel
        by_cases hlt : k < l0.length
        · rcases r0 with hnil | ⟨b0, off, rfl, hb, hc⟩
          · rw [hnil] at hlt; simp at hlt
          have hq0 : wr.cell? ⟨b0, off + k * 2, none⟩ = some (.int .i64 (l0.getD k (0, 0)).1) := by rw [L.cell (p := ⟨b0, _, none⟩) hb]; exact (hc k hlt).1
          have hq1 : wr.cell? ⟨b0, off + k * 2 + 1, none⟩ = some (.int .i64 (l0.getD k (0, 0)).2) := by rw [L.cell (p := ⟨b0, _, none⟩) hb]; exact (hc k hlt).2
          have hkn : (k : Int) < (l0.length : Int) := by omega
          have hk0' : (0 : Int) ≤ (k : Int) := by omega
          have htk := toks_get ht hlt
          have hcs := Cls.take ht k hk
          have hnx := clsV_step hlt
          generalize hp : l0.getD k (0, 0) = p at *
          clear hp hc
          obtain ⟨⟨q1, q2⟩, q3, q4⟩ := htk
          obtain ⟨x, y, rfl, hx, hy⟩ : ∃ x y : Nat, p = ((x : Int), (y : Int)) ∧ x < 16 ∧ y < 16 := ⟨p.1.toNat, p.2.toNat, by rw [Int.toNat_of_nonneg q1, Int.toNat_of_nonneg q3], by omega, by omega⟩
          clear q1 q2 q3 q4
          dsimp only at hq0 hq1
          have HNX : Hid (clsV (l0.take (k + 1)) = jn (clsV (l0.take k)) ((x : Int), (y : Int))) := hnx
          clear hnx ht
          have HL : Hid ((clsV (l0.take k)).length = 16) := hcs.1
          clear hcs
          generalize clsV (l0.take k) = c at *
          have hxi : (x : Int) < 16 := by omega
          have hyi : (y : Int) < 16 := by omega
          have hx0 : (0 : Int) ≤ (x : Int) := by omega
          have hy0 : (0 : Int) ≤ (y : Int) := by omega
          have e0 := X.c0
          have eu := C.2.2 x hx
          have ev := C.2.2 y hy
          have HJ0 : Hid (jn c ((x : Int), (y : Int)) = reps c (max (c.getD x 0) (c.getD y 0)) (min (c.getD x 0) (c.getD y 0))) := by simp [Hid, jn]
          generalize c.getD x 0 = u at *
          generalize c.getD y 0 = v at *
          go_wp2_with fail
          have hS0 : Below w.heap.size w wr.drew ∧ wr.drew.cell? ⟨w.heap.size, 0, none⟩ = some (.slice (some ⟨b0, off, none⟩) l0.length c0) ∧ wr.drew.cell? ⟨b0, off + k * 2, none⟩ = some (.int .i64 x) ∧ wr.drew.cell? ⟨b0, off + k * 2 + 1, none⟩ = some (.int .i64 y) ∧ wr.drew.cell? ⟨b, x, none⟩ = some (.int .i64 u) ∧ wr.drew.cell? ⟨b, y, none⟩ = some (.int .i64 v) := ⟨L.drew, e0, hq0, hq1, eu, ev⟩
          have X2 := X.drew
          have C2 := C.drew
          go_region_held3 (fun w' => Below w.heap.size w w' ∧ w'.cell? ⟨w.heap.size, 0, none⟩ = some (.slice (some ⟨b0, off, none⟩) l0.length c0) ∧ w'.cell? ⟨b0, off + k * 2, none⟩ = some (.int .i64 x) ∧ w'.cell? ⟨b0, off + k * 2 + 1, none⟩ = some (.int .i64 y) ∧ w'.cell? ⟨b, x, none⟩ = some (.int .i64 u) ∧ w'.cell? ⟨b, y, none⟩ = some (.int .i64 v))
            (first | exact hS0 | assumption | (refine ⟨?_, ?_, ?_, ?_, ?_, ?_⟩ <;> assumption))
            (fail)
          replace L := hS0.1
          clear hS0 X C e0 eu ev hq0 hq1
          generalize wr.drew = wd at *
          replace X := X2; replace C := C2
          clear X2 C2
          by_cases huv : v < u
          · have HJ : Hid (jn c ((x : Int), (y : Int)) = reps c u v) := by unfold Hid; rw [HJ0.out, show max u v = u by omega, show min u v = v by omega]
            clear HJ0
            go_wp2_with fail
            go_loopw [8] (fun i wr => ∃ t : Nat, t ≤ 16 ∧ i = .int .i64 t ∧ Mix wr b (reps c u v) c t ∧ Box wr w.heap.size (.slice (some ⟨b0, off, none⟩) l0.length c0) (.slice a1 l1.length c1) (.slice a2 l2.length c2) (.slice a3 l3.length c3) ∧ Below w.heap.size w wr) (fun i _ => 16 - (intOf i).toNat)
            case atStart => exact ⟨0, Nat.zero_le _, rfl, Mix.start _ C, X, L⟩
            case round =>
              clear C X L
              obtain ⟨t, ht, rfl, M, X, L⟩ := hrel
              by_cases hlt2 : t < 16
              · have hkn2 : (t : Int) < 16 := by omega
                have hk02 : (0 : Int) ≤ (t : Int) := by omega
                have hcell := M.2.2 t hlt2
                have hfr := M.2.1 t hlt2
                rw [if_neg (Nat.lt_irrefl t)] at hcell
                have hst := M.step
                have HRA := reps_at c u v (i := t) (by have := HL.out; omega)
                rw [HRA] at hst
                have HZZ : ¬ c.getD t 0 = u → (reps c u v).getD t 0 = c.getD t 0 := fun h => by rw [HRA]; unfold rep; rw [if_neg h]
                clear HRA
                replace HZZ : Hid (¬ c.getD t 0 = u → Mix wr b (reps c u v) c (t + 1)) := fun h => M.keep (HZZ h)
                generalize c.getD t 0 = z at *
                by_cases hz : z = u
                · have HZ : Hid (rep z u v = v) := by unfold Hid rep; rw [if_pos hz]
                  rw [HZ.out] at hst
                  have X2 := X.other b t (by omega) (.int .i64 v)
                  have L2 := Below.set L b t (by omega) (.int .i64 v)
                  clear M X L HZ
                  go_wp2
                  go_roundw
                  case rel => exact ⟨t + 1, by omega, by go_num, hst, X2, L2⟩
                  case measure => simp [intOf]; omega
                · have hst2 : Mix wr b (reps c u v) c (t + 1) := HZZ.out hz
                  clear hst M
                  go_wp2
                  go_roundw
                  case rel => exact ⟨t + 1, by omega, by go_num, hst2, X, L⟩
                  case measure => simp [intOf]; omega
              · have C2 : OwnI wr b 16 (reps c u v) 16 := by obtain rfl : t = 16 := (by omega); exact M.done
                have hge : ¬ ((t : Int) < 16) := by omega
                clear M hlt2
                go_wp2
                go_roundw
                case rel => exact ⟨k + 1, by omega, by go_num, by rw [HNX.out, HJ.out]; exact C2, X, L⟩
                case measure => simp [intOf]; omega
            
          · have HJ : Hid (jn c ((x : Int), (y : Int)) = reps c v u) := by unfold Hid; rw [HJ0.out, show max u v = v by omega, show min u v = u by omega]
            clear HJ0
            go_wp2_with fail
            go_loopw [8] (fun i wr => ∃ t : Nat, t ≤ 16 ∧ i = .int .i64 t ∧ Mix wr b (reps c v u) c t ∧ Box wr w.heap.size (.slice (some ⟨b0, off, none⟩) l0.length c0) (.slice a1 l1.length c1) (.slice a2 l2.length c2) (.slice a3 l3.length c3) ∧ Below w.heap.size w wr) (fun i _ => 16 - (intOf i).toNat)
            case atStart => exact ⟨0, Nat.zero_le _, rfl, Mix.start _ C, X, L⟩
            case round =>
              clear C X L
              obtain ⟨t, ht, rfl, M, X, L⟩ := hrel
              by_cases hlt2 : t < 16
              · have hkn2 : (t : Int) < 16 := by omega
                have hk02 : (0 : Int) ≤ (t : Int) := by omega
                have hcell := M.2.2 t hlt2
                have hfr := M.2.1 t hlt2
                rw [if_neg (Nat.lt_irrefl t)] at hcell
                have hst := M.step
                have HRA := reps_at c v u (i := t) (by have := HL.out; omega)
                rw [HRA] at hst
                have HZZ : ¬ c.getD t 0 = v → (reps c v u).getD t 0 = c.getD t 0 := fun h => by rw [HRA]; unfold rep; rw [if_neg h]
                clear HRA
                replace HZZ : Hid (¬ c.getD t 0 = v → Mix wr b (reps c v u) c (t + 1)) := fun h => M.keep (HZZ h)
                generalize c.getD t 0 = z at *
                by_cases hz : z = v
                · have HZ : Hid (rep z v u = u) := by unfold Hid rep; rw [if_pos hz]
                  rw [HZ.out] at hst
                  have X2 := X.other b t (by omega) (.int .i64 u)
                  have L2 := Below.set L b t (by omega) (.int .i64 u)
                  clear M X L HZ
                  go_wp2
                  go_roundw
                  case rel => exact ⟨t + 1, by omega, by go_num, hst, X2, L2⟩
                  case measure => simp [intOf]; omega
                · have hst2 : Mix wr b (reps c v u) c (t + 1) := HZZ.out hz
                  clear hst M
                  go_wp2
                  go_roundw
                  case rel => exact ⟨t + 1, by omega, by go_num, hst2, X, L⟩
                  case measure => simp [intOf]; omega
              · have C2 : OwnI wr b 16 (reps c v u) 16 := by obtain rfl : t = 16 := (by omega); exact M.done
                have hge : ¬ ((t : Int) < 16) := by omega
                clear M hlt2
                go_wp2
                go_roundw
                case rel => exact ⟨k + 1, by omega, by go_num, by rw [HNX.out, HJ.out]; exact C2, X, L⟩
                case measure => simp [intOf]; omega
            
        · obtain rfl : k = l0.length := by omega
          rw [List.take_length] at C
          have e0 := X.c0
          go_wp2
          go_ret
          exact ⟨b, cp, rfl, by omega, C, L⟩
end Go.Proofs.Ytphchdjbhbmnbaa
