/-
  The contracts of TermsOf, in package spec and in package impl.
-/
import Derived.Test.YtehpiaadbcohbaaInts
import Derived.Test.YtehpiaadbcohbaaFresh
namespace Go.Proofs.Ytehpiaadbcohbaa
open Go.RowKit

def termsF (f : Nat → Bool) (k : Nat) : List Int := ((List.range k).filter f).map fun (i : Nat) => (i : Int)
def termsV (l0 l1 l2 l3 : List (Int × Int)) : List Int := if asnB l0 l1 l2 l3 = true then termsF (usedV l0 l1 l2 l3) 16 else []

theorem termsF_succ (f : Nat → Bool) (k : Nat) : termsF f (k + 1) = termsF f k ++ if f k = true then [(k : Int)] else [] := by
  unfold termsF
  rw [List.range_succ, List.filter_append, List.map_append]
  cases h : f k <;> simp [h]

theorem termsF_le (f : Nat → Bool) (k : Nat) : (termsF f k).length ≤ k := by
  unfold termsF
  rw [List.length_map]
  have := List.length_filter_le f (List.range k)
  simpa using this

theorem terms_le (l0 l1 l2 l3 : List (Int × Int)) : (termsV l0 l1 l2 l3).length ≤ 1048576 := by
  unfold termsV
  split
  · have := termsF_le (usedV l0 l1 l2 l3) 16; omega
  · exact Nat.zero_le _

theorem Try.i3 : ∃ i, Try.prog.info? 3 = some i ∧ i.zero = some (.int .i64 0) ∧ i.size = 1 ∧ i.bytes = 8 := by
  have h : (Try.prog.info? 3).map (fun i => (i.zero, i.size, i.bytes)) = some (some (.int .i64 0), 1, 8) := by kernel_rfl
  cases hi : Try.prog.info? 3 with
  | none => rw [hi] at h; simp at h
  | some i =>
    rw [hi] at h
    simp only [Option.map_some, Option.some.injEq, Prod.mk.injEq] at h
    exact ⟨i, rfl, h.1, h.2.1, h.2.2⟩

set_option maxHeartbeats 1000000 in
theorem sTermsOf_any (b0 b1 b2 b3 : Nat) (c0 c1 c2 c3 : Nat) (l0 l1 l2 l3 : List (Int × Int)) (w : World)
    (n0 : l0.length ≤ 1048576) (n1 : l1.length ≤ 1048576) (n2 : l2.length ≤ 1048576) (n3 : l3.length ≤ 1048576)
    (o0 : Own w b0 l0.length l0 l0.length) (o1 : Own w b1 l1.length l1 l1.length) (o2 : Own w b2 l2.length l2 l2.length) (o3 : Own w b3 l3.length l3 l3.length) :
    Calls Try.prog 27 #[.agg #[.slice (some ⟨b0, 0, none⟩) l0.length c0, .slice (some ⟨b1, 0, none⟩) l1.length c1, .slice (some ⟨b2, 0, none⟩) l2.length c2, .slice (some ⟨b3, 0, none⟩) l3.length c3]] w fun e w' => ∃ a c, e = .returned (.slice a (termsV l0 l1 l2 l3).length c) ∧ IntIn w' w.heap.size w'.heap.size a (termsV l0 l1 l2 l3).length (termsV l0 l1 l2 l3) ∧ Below w.heap.size w w' := by
  have B0 := Box.new w (.slice (some ⟨b0, 0, none⟩) l0.length c0) (.slice (some ⟨b1, 0, none⟩) l1.length c1) (.slice (some ⟨b2, 0, none⟩) l2.length c2) (.slice (some ⟨b3, 0, none⟩) l3.length c3) 30
  have L : Below w.heap.size w (w.alloc (.cells #[.slice (some ⟨b0, 0, none⟩) l0.length c0, .slice (some ⟨b1, 0, none⟩) l1.length c1, .slice (some ⟨b2, 0, none⟩) l2.length c2, .slice (some ⟨b3, 0, none⟩) l3.length c3] 30)) := (Below.refl _ _).alloc (Nat.le_refl _) _
  go_enter Try.func27, Try.ntmps27
  go_wp2_with fail
  refine (sAsnOk_any _ _ _ _ _ _ _ _ _ _ _ _ _ n0 n1 n2 n3 (by exact (o0.alloc _).row) (by exact (o1.alloc _).row) (by exact (o2.alloc _).row) (by exact (o3.alloc _).row)).mono ?_
  rintro e w1 ⟨rfl, hb⟩
  have B1 := B0.below hb B0.lt; have L1 := L.trans (hb.mono L.size)
  replace o0 := o0.below L1 o0.1; replace o1 := o1.below L1 o1.1; replace o2 := o2.below L1 o2.1; replace o3 := o3.below L1 o3.1
  clear hb B0 L
  have x0 := B1.c0; have x1 := B1.c1; have x2 := B1.c2; have x3 := B1.c3
  cases h : asnB l0 l1 l2 l3
  · have HE : Hid (termsV l0 l1 l2 l3 = []) := by show termsV l0 l1 l2 l3 = []; unfold termsV; rw [if_neg (by simp [h])]
    go_wp2
    go_ret
    exact ⟨none, 0, by rw [HE.out]; rfl, by rw [HE.out]; exact ⟨rfl, .inl rfl⟩, L1⟩
  have HT : Hid (asnB l0 l1 l2 l3 = true) := h
  have HE : Hid (termsV l0 l1 l2 l3 = termsF (usedV l0 l1 l2 l3) 16) := by show termsV l0 l1 l2 l3 = _; unfold termsV; rw [if_pos h]
  clear h
  go_wp2_with fail
  refine (l1used_any _ _ _ _ _ _ _ _ _ _ _ _ _ n0 n1 n2 n3 (by exact o0.row) (by exact o1.row) (by exact o2.row) (by exact o3.row) HT.out).mono ?_
  rintro e w2 ⟨bI, rfl, hI, I, hb⟩
  have L2 := L1.trans (hb.mono L1.size)
  clear hb L1 B1 x0 x1 x2 x3 o0 o1 o2 o3 HT hI n0 n1 n2 n3
  generalize usedV l0 l1 l2 l3 = f at *
  obtain ⟨i0, hi, hz0, hz1, hz2⟩ := Try.i3
  go_wp2
  go_loopw [3, 5] (fun v i wr => ∃ k : Nat, k ≤ 16 ∧ i = .int .i64 k ∧ wr.ownsRow w2.heap.size 3 1 v (termsF f k).length (ic (termsF f k)) ∧ Below w2.heap.size w2 wr) (fun _ i _ => 16 - (intOf i).toNat)
  case atStart => exact ⟨0, by omega, rfl, World.ownsRow_nil _ _ _ _, Below.refl _ _⟩
  case round =>
    obtain ⟨k, hk, rfl, hown, hbw⟩ := hrel
    by_cases hlt : k < 16
    · have hx := ((I.below hbw I.1).2 k hlt).1
      have hle := termsF_le f k
      cases hf : f k
      · rw [hf] at hx
        have HF : Hid (termsF f (k + 1) = termsF f k) := by show termsF f (k + 1) = termsF f k; rw [termsF_succ, hf]; simp
        clear hf
        go_wp2
        go_roundw
        case rel => exact ⟨k + 1, by omega, by go_num, by rw [HF.out]; exact hown, hbw⟩
        case measure => simp [intOf]; omega
      · rw [hf] at hx
        have HF : Hid (termsF f (k + 1) = termsF f k ++ [(k : Int)]) := by show termsF f (k + 1) = _; rw [termsF_succ, hf]; simp
        clear hf
        generalize termsF f k = ls at *
        go_wp2_with (at_builtin; refine wpList_append_own _ rfl _ _ 40 rfl w2.heap.size 3 i0 (.int .i64 0) 1 8 Try.underlying40 hi hz0 hz1 hz2 rfl (by decide) _ _ _ rfl (hown.alloc _) ⟨wr.heap.size, 0, none⟩ 1 1 [.int .i64 k] rfl rfl ?c1 ?c2 ?c3 ?c4 ?c5 ?_)
        case c1 =>
          intro j u hj
          match j, hj with
          | 0, hj => simp at hj; subst hj; simp [Addr.add]
        case c2 => intro u hu; simp at hu; subst hu; rfl
        case c3 => unfold maxLen; omega
        case c4 => omega
        case c5 => have := hbw.size; simp; omega
        · intro v' w4 hown' hg hiff
          have hb2 := (hbw.alloc hbw.size _).grown hg (Nat.le_trans hbw.size (by simp)) (by intro q hq; exact (hown.lt q hq).1)
          clear hiff hg hown hbw
          go_wp2
          first
            | (go_roundw
               case rel => exact ⟨k + 1, by omega, by go_num, by rw [HF.out]; simpa [ic] using hown', hb2⟩
               case measure => simp [intOf]; omega)
            | ((repeat apply Exists.intro); exact ⟨⟨k + 1, by omega, by go_num, by rw [HF.out]; simpa [ic] using hown', hb2⟩, rfl⟩)
    · obtain rfl : k = 16 := by omega
      obtain ⟨a, c, rfl, hr⟩ := IntIn.ofOwns hown
      have L3 := L2.trans (hbw.mono L2.size)
      go_wp2
      go_ret
      exact ⟨a, c, by rw [HE.out]; rfl, by rw [HE.out]; exact hr.mono L2.size (Nat.le_refl _), L3⟩

set_option maxHeartbeats 1000000 in
theorem iTermsOf_any (b0 b1 b2 b3 : Nat) (c0 c1 c2 c3 : Nat) (l0 l1 l2 l3 : List (Int × Int)) (w : World)
    (n0 : l0.length ≤ 1048576) (n1 : l1.length ≤ 1048576) (n2 : l2.length ≤ 1048576) (n3 : l3.length ≤ 1048576)
    (o0 : Own w b0 l0.length l0 l0.length) (o1 : Own w b1 l1.length l1 l1.length) (o2 : Own w b2 l2.length l2 l2.length) (o3 : Own w b3 l3.length l3 l3.length) :
    Calls Try.prog 28 #[.agg #[.slice (some ⟨b0, 0, none⟩) l0.length c0, .slice (some ⟨b1, 0, none⟩) l1.length c1, .slice (some ⟨b2, 0, none⟩) l2.length c2, .slice (some ⟨b3, 0, none⟩) l3.length c3]] w fun e w' => ∃ a c, e = .returned (.slice a (termsV l0 l1 l2 l3).length c) ∧ IntIn w' w.heap.size w'.heap.size a (termsV l0 l1 l2 l3).length (termsV l0 l1 l2 l3) ∧ Below w.heap.size w w' := by
  have B0 := Box.new w (.slice (some ⟨b0, 0, none⟩) l0.length c0) (.slice (some ⟨b1, 0, none⟩) l1.length c1) (.slice (some ⟨b2, 0, none⟩) l2.length c2) (.slice (some ⟨b3, 0, none⟩) l3.length c3) 30
  have L : Below w.heap.size w (w.alloc (.cells #[.slice (some ⟨b0, 0, none⟩) l0.length c0, .slice (some ⟨b1, 0, none⟩) l1.length c1, .slice (some ⟨b2, 0, none⟩) l2.length c2, .slice (some ⟨b3, 0, none⟩) l3.length c3] 30)) := (Below.refl _ _).alloc (Nat.le_refl _) _
  go_enter Try.func28, Try.ntmps28
  go_wp2_with fail
  refine (iAsnOk_any _ _ _ _ _ _ _ _ _ _ _ _ _ n0 n1 n2 n3 (by exact (o0.alloc _).row) (by exact (o1.alloc _).row) (by exact (o2.alloc _).row) (by exact (o3.alloc _).row)).mono ?_
  rintro e w1 ⟨rfl, hb⟩
  have B1 := B0.below hb B0.lt; have L1 := L.trans (hb.mono L.size)
  replace o0 := o0.below L1 o0.1; replace o1 := o1.below L1 o1.1; replace o2 := o2.below L1 o2.1; replace o3 := o3.below L1 o3.1
  clear hb B0 L
  have x0 := B1.c0; have x1 := B1.c1; have x2 := B1.c2; have x3 := B1.c3
  cases h : asnB l0 l1 l2 l3
  · have HE : Hid (termsV l0 l1 l2 l3 = []) := by show termsV l0 l1 l2 l3 = []; unfold termsV; rw [if_neg (by simp [h])]
    go_wp2
    go_ret
    exact ⟨none, 0, by rw [HE.out]; rfl, by rw [HE.out]; exact ⟨rfl, .inl rfl⟩, L1⟩
  have HT : Hid (asnB l0 l1 l2 l3 = true) := h
  have HE : Hid (termsV l0 l1 l2 l3 = termsF (usedV l0 l1 l2 l3) 16) := by show termsV l0 l1 l2 l3 = _; unfold termsV; rw [if_pos h]
  clear h
  go_wp2_with fail
  refine (termsIn_any _ _ _ _ _ _ _ _ _ _ _ _ _ n0 n1 n2 n3 (by exact o0.row) (by exact o1.row) (by exact o2.row) (by exact o3.row) HT.out).mono ?_
  rintro e w2 ⟨rfl, hb⟩
  have L2 := L1.trans (hb.mono L1.size)
  clear hb L1 B1 x0 x1 x2 x3 o0 o1 o2 o3 HT n0 n1 n2 n3
  generalize usedV l0 l1 l2 l3 = f at *
  obtain ⟨i0, hi, hz0, hz1, hz2⟩ := Try.i3
  go_wp2
  go_loopw [3, 11] (fun v i wr => ∃ k : Nat, k ≤ 16 ∧ i = .int .i64 k ∧ wr.ownsRow w2.heap.size 3 1 v (termsF f k).length (ic (termsF f k)) ∧ Below w2.heap.size w2 wr) (fun _ i _ => 16 - (intOf i).toNat)
  case atStart => exact ⟨0, by omega, rfl, World.ownsRow_nil _ _ _ _, Below.refl _ _⟩
  case round =>
    obtain ⟨k, hk, rfl, hown, hbw⟩ := hrel
    by_cases hlt : k < 16
    · have hx := idxB f k hlt
      have hle := termsF_le f k
      cases hf : f k
      · rw [hf] at hx
        have HF : Hid (termsF f (k + 1) = termsF f k) := by show termsF f (k + 1) = termsF f k; rw [termsF_succ, hf]; simp
        clear hf
        go_wp2
        go_roundw
        case rel => exact ⟨k + 1, by omega, by go_num, by rw [HF.out]; exact hown, hbw⟩
        case measure => simp [intOf]; omega
      · rw [hf] at hx
        have HF : Hid (termsF f (k + 1) = termsF f k ++ [(k : Int)]) := by show termsF f (k + 1) = _; rw [termsF_succ, hf]; simp
        clear hf
        generalize termsF f k = ls at *
        go_wp2_with (at_builtin; refine wpList_append_own _ rfl _ _ 40 rfl w2.heap.size 3 i0 (.int .i64 0) 1 8 Try.underlying40 hi hz0 hz1 hz2 rfl (by decide) _ _ _ rfl (hown.alloc _) ⟨wr.heap.size, 0, none⟩ 1 1 [.int .i64 k] rfl rfl ?c1 ?c2 ?c3 ?c4 ?c5 ?_)
        case c1 =>
          intro j u hj
          match j, hj with
          | 0, hj => simp at hj; subst hj; simp [Addr.add]
        case c2 => intro u hu; simp at hu; subst hu; rfl
        case c3 => unfold maxLen; omega
        case c4 => omega
        case c5 => have := hbw.size; simp; omega
        · intro v' w4 hown' hg hiff
          have hb2 := (hbw.alloc hbw.size _).grown hg (Nat.le_trans hbw.size (by simp)) (by intro q hq; exact (hown.lt q hq).1)
          clear hiff hg hown hbw
          go_wp2
          first
            | (go_roundw
               case rel => exact ⟨k + 1, by omega, by go_num, by rw [HF.out]; simpa [ic] using hown', hb2⟩
               case measure => simp [intOf]; omega)
            | ((repeat apply Exists.intro); exact ⟨⟨k + 1, by omega, by go_num, by rw [HF.out]; simpa [ic] using hown', hb2⟩, rfl⟩)
    · obtain rfl : k = 16 := by omega
      obtain ⟨a, c, rfl, hr⟩ := IntIn.ofOwns hown
      have L3 := L2.trans (hbw.mono L2.size)
      go_wp2
      go_ret
      exact ⟨a, c, by rw [HE.out]; rfl, by rw [HE.out]; exact hr.mono L2.size (Nat.le_refl _), L3⟩

end Go.Proofs.Ytehpiaadbcohbaa
