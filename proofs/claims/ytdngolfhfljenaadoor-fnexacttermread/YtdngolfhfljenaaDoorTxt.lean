/-
  The contracts of TermText, in package spec and in package impl.
-/
import Derived.Test.YtdngolfhfljenaaDoorApd
namespace Go.Proofs.YtdngolfhfljenaaDoor
open Go.RowKit

def tok (x : Int) : Bool := decide (0 ≤ x ∧ x < 16)
def textV (t : Int) : List Int := if tok t = true then tt t else []

theorem tt_le (t : Int) : (textV t).length ≤ 3 := by
  unfold textV tt dg
  split
  · split
    · simp
    · split
      · simp
      · split <;> simp
  · simp

theorem sTermOk_any (x : Int) (w : World) : Calls Tryd.prog 17 #[.int .i64 x] w fun e w' => e = .returned (.bool (tok x)) ∧ w' = w := by
  by_cases c1 : 0 ≤ x
  · by_cases c2 : x < 16
    · go_enter Tryd.func17, Tryd.ntmps17
      go_wp2
      go_ret
      exact ⟨ret_bool (by simp [tok, c1, c2]), rfl⟩
    · go_enter Tryd.func17, Tryd.ntmps17
      go_wp2
      go_ret
      exact ⟨ret_bool (by simp [tok]; omega), rfl⟩
  · go_enter Tryd.func17, Tryd.ntmps17
    go_wp2
    go_ret
    exact ⟨ret_bool (by simp [tok]; omega), rfl⟩

theorem iTermOk_any (x : Int) (w : World) : Calls Tryd.prog 18 #[.int .i64 x] w fun e w' => e = .returned (.bool (tok x)) ∧ w' = w := by
  by_cases c1 : 0 ≤ x
  · by_cases c2 : x < 16
    · go_enter Tryd.func18, Tryd.ntmps18
      go_wp2
      go_ret
      exact ⟨ret_bool (by simp [tok, c1, c2]), rfl⟩
    · go_enter Tryd.func18, Tryd.ntmps18
      go_wp2
      go_ret
      exact ⟨ret_bool (by simp [tok]; omega), rfl⟩
  · go_enter Tryd.func18, Tryd.ntmps18
    go_wp2
    go_ret
    exact ⟨ret_bool (by simp [tok]; omega), rfl⟩

set_option maxHeartbeats 400000 in
theorem sTermText_any (t : Int) (w : World) :
    Calls Tryd.prog 24 #[.int .i64 t] w fun e w' => ∃ a c, e = .returned (.slice a (textV t).length c) ∧ ByteIn w' w.heap.size w'.heap.size a (textV t).length (textV t) ∧ Below w.heap.size w w' := by
  go_enter Tryd.func24, Tryd.ntmps24
  go_wp2_with fail
  refine (sTermOk_any _ _).mono ?_
  rintro e w1 ⟨rfl, rfl⟩
  cases h : tok t
  · have HE : Hid (textV t = []) := by show textV t = []; simp [textV, h]
    go_wp2
    go_ret
    exact ⟨none, 0, by rw [HE.out]; rfl, by rw [HE.out]; exact ⟨rfl, .inl rfl⟩, Below.refl _ _⟩
  · have HE : Hid (textV t = tt t) := by show textV t = tt t; simp [textV, h]
    have hr : 0 ≤ t ∧ t < 16 := by simpa [tok] using h
    clear h
    go_wp2_with fail
    refine (l1term_any t _ hr.1 (by omega)).mono ?_
    rintro e w2 ⟨a, c, rfl, h1, h2⟩
    clear hr
    go_wp2
    go_ret
    exact ⟨a, c, by rw [HE.out]; rfl, by rw [HE.out]; exact h1, h2⟩

set_option maxRecDepth 100000 in
set_option maxHeartbeats 1000000 in
theorem appendInt_any (Z : Nat) (n : Int) (w : World) (h0 : 1 ≤ n) (h1 : n ≤ 10) (hc : w.cell? ⟨Z, 0, none⟩ = some (.int .u8 95)) :
    Calls Tryd.prog 56 #[.slice (some ⟨Z, 0, none⟩) 1 1, .int .i64 n, .int .i64 10] w fun e w' => ∃ v, e = .returned v ∧ w'.ownsRow w.heap.size 5 1 v (95 :: dg n).length (ic (95 :: dg n)) ∧ Below w.heap.size w w' := by
  go_enter Tryd.func56, Tryd.ntmps56
  go_wp2_with fail
  refine (appendUint_any Z n w h0 h1 hc).mono ?_
  rintro e w1 ⟨v, rfl, h2, h3⟩
  have H2 : Hid (w1.ownsRow w.heap.size 5 1 v (95 :: dg n).length (ic (95 :: dg n))) := h2
  clear h2
  go_wp2
  go_ret
  exact ⟨v, rfl, H2.out, h3⟩

set_option maxHeartbeats 1000000 in
theorem appendInt2_any (Z : Nat) (n : Int) (w : World) (h0 : 1 ≤ n) (h1 : n ≤ 10) (hc : w.cell? ⟨Z, 0, none⟩ = some (.int .u8 95)) :
    Calls Tryd.prog 44 #[.slice (some ⟨Z, 0, none⟩) 1 1, .int .i64 n, .int .i64 10] w fun e w' => ∃ v, e = .returned v ∧ w'.ownsRow w.heap.size 5 1 v (95 :: dg n).length (ic (95 :: dg n)) ∧ Below w.heap.size w w' := by
  go_enter Tryd.func44, Tryd.ntmps44
  go_wp2_with fail
  refine (appendInt_any Z n w h0 h1 hc).mono ?_
  rintro e w1 ⟨v, rfl, h2, h3⟩
  have H2 : Hid (w1.ownsRow w.heap.size 5 1 v (95 :: dg n).length (ic (95 :: dg n))) := h2
  clear h2
  go_wp2
  go_ret
  exact ⟨v, rfl, H2.out, h3⟩

set_option maxRecDepth 100000 in
set_option maxHeartbeats 1000000 in
theorem iTermText_any (t : Int) (w : World) :
    Calls Tryd.prog 15 #[.int .i64 t] w fun e w' => ∃ a c, e = .returned (.slice a (textV t).length c) ∧ ByteIn w' w.heap.size w'.heap.size a (textV t).length (textV t) ∧ Below w.heap.size w w' := by
  have kc := fun (w : World) (C : Array Value) (n c : Nat) => Lib.run_convert_bytes_const (P := Tryd.prog) w 22 5 C n c Tryd.underlying22 Tryd.underlying5
  go_enter Tryd.func15, Tryd.ntmps15
  go_wp2_with fail
  refine (iTermOk_any _ _).mono ?_
  rintro e w1 ⟨rfl, rfl⟩
  cases h : tok t
  · have HE : Hid (textV t = []) := by show textV t = []; simp [textV, h]
    go_wp2
    go_ret
    exact ⟨none, 0, by rw [HE.out]; rfl, by rw [HE.out]; exact ⟨rfl, .inl rfl⟩, Below.refl _ _⟩
  have hr : 0 ≤ t ∧ t < 16 := by simpa [tok] using h
  have HT : Hid (textV t = tt t) := by show textV t = tt t; simp [textV, h]
  clear h
  by_cases c0 : t = 0
  · subst c0
    have HE : Hid (textV 0 = [110, 105, 108]) := HT.out
    have hz := nil_row w1
    have hb : Below w1.heap.size w1 (w1.alloc (.cells #[.int .u8 110, .int .u8 105, .int .u8 108] 5 (3, 3 + 1))) := (Below.refl _ _).alloc (Nat.le_refl _) _
    go_wp2
    go_ret
    exact ⟨_, _, by rw [HE.out]; rfl, by rw [HE.out]; simpa using hz, hb⟩
  have hz : (t == 0) = false := by simp; omega
  by_cases c1 : t ≤ 5
  · have HE : Hid (textV t = [96 + t]) := by show textV t = _; rw [HT.out]; simp [tt, c0, c1]
    have ho := lit_owns w1 [96 + t] 1 rfl (by decide)
    have hb : Below w1.heap.size w1 (w1.alloc (.cells (ic [96 + t]).toArray 5)) := (Below.refl _ _).alloc (Nat.le_refl _) _
    obtain ⟨a, c, e, hr2⟩ := ByteIn.ofOwns ho
    injection e with e1 e2 e3
    subst e1 e3
    have HR : Hid (ByteIn (w1.alloc (.cells (ic [96 + t]).toArray 5)) w1.heap.size (w1.alloc (.cells (ic [96 + t]).toArray 5)).heap.size (some ⟨w1.heap.size, 0, none⟩) 1 [96 + t]) := hr2
    have hq : (97 : Int) + t - 1 = 96 + t := by omega
    clear hr2 ho e2 c0
    go_wp2
    go_ret
    exact ⟨_, _, by rw [HE.out]; rfl, by rw [HE.out]; exact HR.out, hb⟩
  · have HE : Hid (textV t = 95 :: dg (t - 5)) := by show textV t = _; rw [HT.out]; simp [tt, c0, c1]
    have hb : Below w1.heap.size w1 (w1.alloc (.cells #[.int .u8 95] 5 (1, 1 + 1))) := (Below.refl _ _).alloc (Nat.le_refl _) _
    have hcl : (w1.alloc (.cells #[.int .u8 95] 5 (1, 1 + 1))).cell? ⟨w1.heap.size, 0, none⟩ = some (.int .u8 95) := by rw [World.cell?_alloc_mark]; rfl
    clear c0
    go_wp2_with fail
    refine (appendInt2_any _ _ _ (by omega) (by omega) (by exact hcl)).mono ?_
    rintro e w2 ⟨v, rfl, h2, h3⟩
    obtain ⟨a, c, rfl, hr2⟩ := ByteIn.ofOwns h2
    have HR := (show Hid (ByteIn w2 _ w2.heap.size a (95 :: dg (t - 5)).length (95 :: dg (t - 5))) from hr2)
    have hb2 := hb.trans (h3.mono hb.size)
    have hs := hb.size
    clear h2 hr2 h3 hb hcl
    go_wp2
    go_ret
    exact ⟨a, c, by rw [HE.out]; rfl, by rw [HE.out]; exact HR.out.mono hs (Nat.le_refl _), hb2⟩

end Go.Proofs.YtdngolfhfljenaaDoor
