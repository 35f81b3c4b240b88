/-
  The contracts of spec.l1kind and of PairsOf, in package spec and in package impl.
-/
import Derived.Test.YtfplloabkceaoaaApp
import Derived.Test.YtfplloabkceaoaaOkI
namespace Go.Proofs.Ytfplloabkceaoaa
open Go.RowKit

/-- The list of a kind. -/
def kindL (l0 l1 l2 l3 : List (Int × Int)) (k : Int) : List (Int × Int) := if k = 0 then l0 else if k = 1 then l1 else if k = 2 then l2 else l3
def kindB (b0 b1 b2 b3 : Nat) (k : Int) : Nat := if k = 0 then b0 else if k = 1 then b1 else if k = 2 then b2 else b3

set_option maxHeartbeats 1000000 in
theorem l1kind_any (b0 b1 b2 b3 : Nat) (c0 c1 c2 c3 : Nat) (l0 l1 l2 l3 : List (Int × Int)) (k : Int) (w : World) (h0 : 0 ≤ k) (h3 : k ≤ 3) :
    Calls Try.prog 142 #[.agg #[.slice (some ⟨b0, 0, none⟩) l0.length c0, .slice (some ⟨b1, 0, none⟩) l1.length c1, .slice (some ⟨b2, 0, none⟩) l2.length c2, .slice (some ⟨b3, 0, none⟩) l3.length c3], .int .i64 k] w fun e w' => ∃ c, e = .returned (.slice (some ⟨kindB b0 b1 b2 b3 k, 0, none⟩) (kindL l0 l1 l2 l3 k).length c) ∧ Below w.heap.size w w' := by
  obtain ⟨k, rfl⟩ := Int.eq_ofNat_of_zero_le h0
  obtain rfl | rfl | rfl | rfl : k = 0 ∨ k = 1 ∨ k = 2 ∨ k = 3 := by omega
  · go_enter Try.func142, Try.ntmps142
    go_wp2
    go_ret
    exact ⟨c0, rfl, (Below.refl _ _).alloc (Nat.le_refl _) _⟩
  · go_enter Try.func142, Try.ntmps142
    go_wp2
    go_ret
    exact ⟨c1, rfl, (Below.refl _ _).alloc (Nat.le_refl _) _⟩
  · go_enter Try.func142, Try.ntmps142
    go_wp2
    go_ret
    exact ⟨c2, rfl, (Below.refl _ _).alloc (Nat.le_refl _) _⟩
  · go_enter Try.func142, Try.ntmps142
    go_wp2
    go_ret
    exact ⟨c3, rfl, (Below.refl _ _).alloc (Nat.le_refl _) _⟩

theorem kind_own {w : World} {b0 b1 b2 b3 : Nat} {l0 l1 l2 l3 : List (Int × Int)} (o0 : Own w b0 l0.length l0 l0.length) (o1 : Own w b1 l1.length l1 l1.length) (o2 : Own w b2 l2.length l2 l2.length) (o3 : Own w b3 l3.length l3 l3.length) (k : Int) :
    Own w (kindB b0 b1 b2 b3 k) (kindL l0 l1 l2 l3 k).length (kindL l0 l1 l2 l3 k) (kindL l0 l1 l2 l3 k).length := by
  unfold kindB kindL
  split
  · exact o0
  · split
    · exact o1
    · split
      · exact o2
      · exact o3

theorem kind_le {l0 l1 l2 l3 : List (Int × Int)} (n0 : l0.length ≤ 1048576) (n1 : l1.length ≤ 1048576) (n2 : l2.length ≤ 1048576) (n3 : l3.length ≤ 1048576) (k : Int) : (kindL l0 l1 l2 l3 k).length ≤ 1048576 := by
  unfold kindL
  split
  · exact n0
  · split
    · exact n1
    · split
      · exact n2
      · exact n3

def pairsV (l0 l1 l2 l3 : List (Int × Int)) (k : Int) : List (Int × Int) := if asnB l0 l1 l2 l3 = true ∧ 0 ≤ k ∧ k ≤ 3 then kindL l0 l1 l2 l3 k else []

set_option maxHeartbeats 1000000 in
theorem sPairsOf_any (b0 b1 b2 b3 : Nat) (c0 c1 c2 c3 : Nat) (l0 l1 l2 l3 : List (Int × Int)) (k : Int) (w : World)
    (n0 : l0.length ≤ 1048576) (n1 : l1.length ≤ 1048576) (n2 : l2.length ≤ 1048576) (n3 : l3.length ≤ 1048576)
    (o0 : Own w b0 l0.length l0 l0.length) (o1 : Own w b1 l1.length l1 l1.length) (o2 : Own w b2 l2.length l2 l2.length) (o3 : Own w b3 l3.length l3 l3.length) :
    Calls Try.prog 50 #[.agg #[.slice (some ⟨b0, 0, none⟩) l0.length c0, .slice (some ⟨b1, 0, none⟩) l1.length c1, .slice (some ⟨b2, 0, none⟩) l2.length c2, .slice (some ⟨b3, 0, none⟩) l3.length c3], .int .i64 k] w fun e w' => ∃ a c, e = .returned (.slice a (pairsV l0 l1 l2 l3 k).length c) ∧ RowIn w' w.heap.size w'.heap.size a (pairsV l0 l1 l2 l3 k).length (pairsV l0 l1 l2 l3 k) ∧ Below w.heap.size w w' := by
  have B0 := Box.new w (.slice (some ⟨b0, 0, none⟩) l0.length c0) (.slice (some ⟨b1, 0, none⟩) l1.length c1) (.slice (some ⟨b2, 0, none⟩) l2.length c2) (.slice (some ⟨b3, 0, none⟩) l3.length c3) 28
  have L : Below w.heap.size w (w.alloc (.cells #[.slice (some ⟨b0, 0, none⟩) l0.length c0, .slice (some ⟨b1, 0, none⟩) l1.length c1, .slice (some ⟨b2, 0, none⟩) l2.length c2, .slice (some ⟨b3, 0, none⟩) l3.length c3] 28)) := (Below.refl _ _).alloc (Nat.le_refl _) _
  go_enter Try.func50, Try.ntmps50
  go_wp2_with fail
  refine (sAsnOk_any _ _ _ _ _ _ _ _ _ _ _ _ _ n0 n1 n2 n3 (by exact (o0.alloc _).row) (by exact (o1.alloc _).row) (by exact (o2.alloc _).row) (by exact (o3.alloc _).row)).mono ?_
  rintro e w1 ⟨rfl, hb⟩
  have B1 := B0.below hb B0.lt; have L1 := L.trans (hb.mono L.size)
  replace o0 := o0.below L1 o0.1; replace o1 := o1.below L1 o1.1; replace o2 := o2.below L1 o2.1; replace o3 := o3.below L1 o3.1
  clear hb B0 L
  have x0 := B1.c0; have x1 := B1.c1; have x2 := B1.c2; have x3 := B1.c3
  cases h : asnB l0 l1 l2 l3
  · have e : pairsV l0 l1 l2 l3 k = [] := by unfold pairsV; rw [if_neg (by simp [h])]
    have HE : Hid (pairsV l0 l1 l2 l3 k = []) := e
    clear e
    go_wp2
    go_ret
    exact ⟨none, 0, by rw [HE.out]; rfl, by rw [HE.out]; exact ⟨rfl, .inl rfl⟩, L1⟩
  by_cases k0 : k < 0
  · have e : pairsV l0 l1 l2 l3 k = [] := by unfold pairsV; rw [if_neg (by omega)]
    have HE : Hid (pairsV l0 l1 l2 l3 k = []) := e
    clear e
    go_wp2
    go_ret
    exact ⟨none, 0, by rw [HE.out]; rfl, by rw [HE.out]; exact ⟨rfl, .inl rfl⟩, L1⟩
  by_cases k3 : 3 < k
  · have e : pairsV l0 l1 l2 l3 k = [] := by unfold pairsV; rw [if_neg (by omega)]
    have HE : Hid (pairsV l0 l1 l2 l3 k = []) := e
    clear e
    go_wp2
    go_ret
    exact ⟨none, 0, by rw [HE.out]; rfl, by rw [HE.out]; exact ⟨rfl, .inl rfl⟩, L1⟩
  have HE : Hid (pairsV l0 l1 l2 l3 k = kindL l0 l1 l2 l3 k) := by show pairsV l0 l1 l2 l3 k = _; unfold pairsV; rw [if_pos ⟨h, by omega, by omega⟩]
  clear h
  have z := B1.lt
  go_wp2_with fail
  have hown := World.ownsRow_lit (base := w.heap.size) (e := 69) (size := 2) w1 #[] 0 L1.size (Nat.zero_le _) rfl
  have L2 := L1.alloc L1.size (.cells #[] 69)
  refine (l1kind_any _ _ _ _ _ _ _ _ _ _ _ _ _ _ (by omega) (by omega)).mono ?_
  rintro e w3 ⟨cs, rfl, hb⟩
  replace hown := owns_below hown hb
  have ho := (kind_own (o0.alloc (.cells #[] 69)) (o1.alloc _) (o2.alloc _) (o3.alloc _) k).below hb (kind_own (o0.alloc (.cells #[] 69)) (o1.alloc _) (o2.alloc _) (o3.alloc _) k).1
  have hn := kind_le n0 n1 n2 n3 k
  have L3 := L2.trans (hb.mono L2.size)
  clear hb L1 L2 B1 o0 o1 o2 o3 x0 x1 x2 x3 z n0 n1 n2 n3
  generalize kindB b0 b1 b2 b3 k = b at *
  generalize kindL l0 l1 l2 l3 k = l at *
  obtain ⟨i0, hi, hz0, hz1, hz2⟩ := Try.i57
  generalize w1.heap.size = g at *
  go_wp2_with (at_builtin; refine wpList_append_own _ rfl _ _ 26 rfl w.heap.size 69 i0 (.agg #[.int .i64 0, .int .i64 0]) 2 16 Try.underlying26 hi hz0 hz1 hz2 rfl (by decide) _ _ _ rfl hown ⟨b, 0, none⟩ l.length cs (pc l) rfl (pc_length l) ?c1 pc_one ?c3 ?c4 ?c5 ?_)
  case c1 => exact ho.news
  case c3 => unfold maxLen; omega
  case c4 => omega
  case c5 => exact L3.size
  intro v1 w4 hown' hg hiff
  obtain ⟨a, c, rfl, hr⟩ := RowIn.ofOwns hown'
  have hb := L3.grown hg L3.size (by intro q hq; exact ((hown.lt q hq).1))
  clear hiff hown hown' hg
  go_wp2
  go_ret
  exact ⟨a, c, by rw [HE.out]; rfl, by rw [HE.out]; exact hr, hb⟩


def kok (k : Int) : Bool := decide (0 ≤ k ∧ k < 4)

theorem kindOk_any (x : Int) (w : World) : Calls Try.prog 143 #[.int .i64 x] w fun e w' => e = .returned (.bool (kok x)) ∧ w' = w := by
  by_cases c1 : 0 ≤ x
  · by_cases c2 : x < 4
    · go_enter Try.func143, Try.ntmps143
      go_wp2
      go_ret
      exact ⟨ret_bool (by simp [kok, c1, c2]), rfl⟩
    · go_enter Try.func143, Try.ntmps143
      go_wp2
      go_ret
      exact ⟨ret_bool (by simp [kok]; omega), rfl⟩
  · go_enter Try.func143, Try.ntmps143
    go_wp2
    go_ret
    exact ⟨ret_bool (by simp [kok]; omega), rfl⟩

set_option maxHeartbeats 1000000 in
theorem iPairsOf_any (b0 b1 b2 b3 : Nat) (c0 c1 c2 c3 : Nat) (l0 l1 l2 l3 : List (Int × Int)) (k : Int) (w : World)
    (n0 : l0.length ≤ 1048576) (n1 : l1.length ≤ 1048576) (n2 : l2.length ≤ 1048576) (n3 : l3.length ≤ 1048576)
    (o0 : Own w b0 l0.length l0 l0.length) (o1 : Own w b1 l1.length l1 l1.length) (o2 : Own w b2 l2.length l2 l2.length) (o3 : Own w b3 l3.length l3 l3.length) :
    Calls Try.prog 51 #[.agg #[.slice (some ⟨b0, 0, none⟩) l0.length c0, .slice (some ⟨b1, 0, none⟩) l1.length c1, .slice (some ⟨b2, 0, none⟩) l2.length c2, .slice (some ⟨b3, 0, none⟩) l3.length c3], .int .i64 k] w fun e w' => ∃ a c, e = .returned (.slice a (pairsV l0 l1 l2 l3 k).length c) ∧ RowIn w' w.heap.size w'.heap.size a (pairsV l0 l1 l2 l3 k).length (pairsV l0 l1 l2 l3 k) ∧ Below w.heap.size w w' := by
  have B0 := Box.new w (.slice (some ⟨b0, 0, none⟩) l0.length c0) (.slice (some ⟨b1, 0, none⟩) l1.length c1) (.slice (some ⟨b2, 0, none⟩) l2.length c2) (.slice (some ⟨b3, 0, none⟩) l3.length c3) 28
  have L : Below w.heap.size w (w.alloc (.cells #[.slice (some ⟨b0, 0, none⟩) l0.length c0, .slice (some ⟨b1, 0, none⟩) l1.length c1, .slice (some ⟨b2, 0, none⟩) l2.length c2, .slice (some ⟨b3, 0, none⟩) l3.length c3] 28)) := (Below.refl _ _).alloc (Nat.le_refl _) _
  go_enter Try.func51, Try.ntmps51
  go_wp2_with fail
  refine (iAsnOk_any _ _ _ _ _ _ _ _ _ _ _ _ _ n0 n1 n2 n3 (by exact (o0.alloc _).row) (by exact (o1.alloc _).row) (by exact (o2.alloc _).row) (by exact (o3.alloc _).row)).mono ?_
  rintro e w1 ⟨rfl, hb⟩
  have B1 := B0.below hb B0.lt; have L1 := L.trans (hb.mono L.size)
  replace o0 := o0.below L1 o0.1; replace o1 := o1.below L1 o1.1; replace o2 := o2.below L1 o2.1; replace o3 := o3.below L1 o3.1
  clear hb B0 L
  have x0 := B1.c0; have x1 := B1.c1; have x2 := B1.c2; have x3 := B1.c3
  cases h : asnB l0 l1 l2 l3
  · have HE : Hid (pairsV l0 l1 l2 l3 k = []) := by show pairsV l0 l1 l2 l3 k = []; unfold pairsV; rw [if_neg (by simp [h])]
    go_wp2
    go_ret
    exact ⟨none, 0, by rw [HE.out]; rfl, by rw [HE.out]; exact ⟨rfl, .inl rfl⟩, L1⟩
  go_wp2_with fail
  refine (kindOk_any _ _).mono ?_
  rintro e w2 ⟨rfl, rfl⟩
  cases hk : kok k
  · have HE : Hid (pairsV l0 l1 l2 l3 k = []) := by show pairsV l0 l1 l2 l3 k = []; unfold pairsV; rw [if_neg (by simp [kok] at hk; omega)]
    go_wp2
    go_ret
    exact ⟨none, 0, by rw [HE.out]; rfl, by rw [HE.out]; exact ⟨rfl, .inl rfl⟩, L1⟩
  obtain ⟨k0, k3⟩ : 0 ≤ k ∧ k < 4 := by simpa [kok] using hk
  have HE : Hid (pairsV l0 l1 l2 l3 k = kindL l0 l1 l2 l3 k) := by show pairsV l0 l1 l2 l3 k = _; unfold pairsV; rw [if_pos ⟨h, by omega, by omega⟩]
  clear h
  have hx : ∀ w : World, ∃ c, (Instr.index 88 (.agg #[.slice (some ⟨b0, 0, none⟩) l0.length c0, .slice (some ⟨b1, 0, none⟩) l1.length c1, .slice (some ⟨b2, 0, none⟩) l2.length c2, .slice (some ⟨b3, 0, none⟩) l3.length c3]) (.int .i64 k)).run Try.prog w = .ok (.slice (some ⟨kindB b0 b1 b2 b3 k, 0, none⟩) (kindL l0 l1 l2 l3 k).length c) w := by
    obtain ⟨k, rfl⟩ := Int.eq_ofNat_of_zero_le k0
    obtain rfl | rfl | rfl | rfl : k = 0 ∨ k = 1 ∨ k = 2 ∨ k = 3 := by omega
    · exact fun w => ⟨c0, idx0 _ _ _ _ _ _ _ _ _ _ _ _ w⟩
    · exact fun w => ⟨c1, idx1 _ _ _ _ _ _ _ _ _ _ _ _ w⟩
    · exact fun w => ⟨c2, idx2 _ _ _ _ _ _ _ _ _ _ _ _ w⟩
    · exact fun w => ⟨c3, idx3 _ _ _ _ _ _ _ _ _ _ _ _ w⟩
  have HX := (show Hid (∀ w : World, ∃ c, (Instr.index 88 (.agg #[.slice (some ⟨b0, 0, none⟩) l0.length c0, .slice (some ⟨b1, 0, none⟩) l1.length c1, .slice (some ⟨b2, 0, none⟩) l2.length c2, .slice (some ⟨b3, 0, none⟩) l3.length c3]) (.int .i64 k)).run Try.prog w = .ok (.slice (some ⟨kindB b0 b1 b2 b3 k, 0, none⟩) (kindL l0 l1 l2 l3 k).length c) w) from hx)
  clear hx
  go_wp2_with fail
  refine (listsOf_any _ _ _ _ _ ⟨_, _, _, rfl⟩ ⟨_, _, _, rfl⟩ ⟨_, _, _, rfl⟩ ⟨_, _, _, rfl⟩).mono ?_
  rintro e w3 ⟨rfl, hb⟩
  have ho := (kind_own o0 o1 o2 o3 k).below hb (kind_own o0 o1 o2 o3 k).1
  have hn := kind_le n0 n1 n2 n3 k
  have L3 := L1.trans (hb.mono L1.size)
  clear hb L1 B1 o0 o1 o2 o3 x0 x1 x2 x3 n0 n1 n2 n3
  obtain ⟨cs, hx⟩ : ∃ cs, (Instr.index 88 (.agg #[.slice (some ⟨b0, 0, none⟩) l0.length c0, .slice (some ⟨b1, 0, none⟩) l1.length c1, .slice (some ⟨b2, 0, none⟩) l2.length c2, .slice (some ⟨b3, 0, none⟩) l3.length c3]) (.int .i64 k)).run Try.prog w3 = .ok (.slice (some ⟨kindB b0 b1 b2 b3 k, 0, none⟩) (kindL l0 l1 l2 l3 k).length cs) w3 := HX.out w3
  clear HX
  generalize kindB b0 b1 b2 b3 k = b at *
  generalize kindL l0 l1 l2 l3 k = l at *
  go_wp2_with fail
  refine (copyOf_any _ _ _ _ hn ho).mono ?_
  rintro e w4 ⟨a, c, rfl, hr, hb⟩
  have L4 := L3.trans (hb.mono L3.size)
  go_wp2
  go_ret
  exact ⟨a, c, by rw [HE.out]; rfl, by rw [HE.out]; exact hr.mono L3.size (Nat.le_refl _), L4⟩

theorem val_le (l0 l1 l2 l3 : List (Int × Int)) (k : Int) (n0 : l0.length ≤ 1048576) (n1 : l1.length ≤ 1048576) (n2 : l2.length ≤ 1048576) (n3 : l3.length ≤ 1048576) : (pairsV l0 l1 l2 l3 k).length ≤ 1048576 := by
  unfold pairsV
  split
  · exact kind_le n0 n1 n2 n3 k
  · exact Nat.zero_le _

end Go.Proofs.Ytfplloabkceaoaa
