/-
  The contract of impl.TermsOf, of an assertion that is as it has to be.
-/
import Derived.Test.YtanihlecenmdcaaTin
import Derived.Test.YtanihlecenmdcaaPlain
import Derived.Test.YtanihlecenmdcaaOkI
import Derived.Test.YtanihlecenmdcaaSAs
import Derived.Outline
namespace Go.Proofs.Ytanihlecenmdcaa
open Go.RowKit

def termsF (f : Nat → Bool) (k : Nat) : List Int := ((List.range k).filter f).map fun (i : Nat) => (i : Int)
def termsV (l0 l1 l2 l3 : List (Int × Int)) : List Int := if asnB l0 l1 l2 l3 = true then termsF (usedV l0 l1 l2 l3) 16 else []

theorem termsF_succ (f : Nat → Bool) (k : Nat) : termsF f (k + 1) = termsF f k ++ if f k = true then [(k : Int)] else [] := by
  unfold termsF
  rw [List.range_succ, List.filter_append, List.map_append]
  cases h : f k <;> simp [h]

theorem termsF_le (f : Nat → Bool) (k : Nat) : (termsF f k).length ≤ k := by
  unfold termsF
  rw [List.length_map]
  have := List.length_filter_le f (List.range k)
  simpa using this

set_option maxRecDepth 20000 in
set_option maxHeartbeats 1000000 in
theorem iTermsOf_any (a0 a1 a2 a3 : Option Addr) (c0 c1 c2 c3 : Nat) (l0 l1 l2 l3 : List (Int × Int)) (w : World)
    (n0 : l0.length ≤ 1048576) (n1 : l1.length ≤ 1048576) (n2 : l2.length ≤ 1048576) (n3 : l3.length ≤ 1048576)
    (o0 : PRow w a0 l0) (o1 : PRow w a1 l1) (o2 : PRow w a2 l2) (o3 : PRow w a3 l3) (HT : Hid (asnB l0 l1 l2 l3 = true)) :
    Calls Try.prog 24 #[.agg #[.slice a0 l0.length c0, .slice a1 l1.length c1, .slice a2 l2.length c2, .slice a3 l3.length c3]] w fun e w' => ∃ v B, e = .returned v ∧ w.heap.size ≤ B ∧ w'.ownsRow B 3 1 v (termsF (usedV l0 l1 l2 l3) 16).length (S.ic (termsF (usedV l0 l1 l2 l3) 16)) ∧ Below w.heap.size w w' := by
  have B0 := Box.new w (.slice a0 l0.length c0) (.slice a1 l1.length c1) (.slice a2 l2.length c2) (.slice a3 l3.length c3) 30
  have L : Below w.heap.size w (w.alloc (.cells #[.slice a0 l0.length c0, .slice a1 l1.length c1, .slice a2 l2.length c2, .slice a3 l3.length c3] 30)) := (Below.refl _ _).alloc (Nat.le_refl _) _
  go_enter Try.func24, Try.ntmps24
  go_wp2_with fail
  refine (iAsnOk_any _ _ _ _ _ _ _ _ _ _ _ _ _ n0 n1 n2 n3 (by exact o0.below ((Below.refl _ _).alloc (Nat.le_refl _) _) (Nat.le_refl _)) (by exact o1.below ((Below.refl _ _).alloc (Nat.le_refl _) _) (Nat.le_refl _)) (by exact o2.below ((Below.refl _ _).alloc (Nat.le_refl _) _) (Nat.le_refl _)) (by exact o3.below ((Below.refl _ _).alloc (Nat.le_refl _) _) (Nat.le_refl _))).mono ?_
  rintro e w1 ⟨rfl, hb⟩
  have B1 := B0.below hb B0.lt; have L1 := L.trans (hb.mono L.size)
  replace o0 := o0.below L1 (Nat.le_refl _); replace o1 := o1.below L1 (Nat.le_refl _); replace o2 := o2.below L1 (Nat.le_refl _); replace o3 := o3.below L1 (Nat.le_refl _)
  clear hb B0 L
  have x0 := B1.c0; have x1 := B1.c1; have x2 := B1.c2; have x3 := B1.c3
  rw [HT.out]
  go_wp2_with fail
  refine (termsIn_any _ _ _ _ _ _ _ _ _ _ _ _ _ n0 n1 n2 n3 (by exact o0) (by exact o1) (by exact o2) (by exact o3) HT.out).mono ?_
  rintro e w2 ⟨rfl, hb⟩
  have L2 := L1.trans (hb.mono L1.size)
  clear hb L1 B1 x0 x1 x2 x3 o0 o1 o2 o3 HT n0 n1 n2 n3
  obtain ⟨f, hff⟩ : ∃ f, Hid (usedV l0 l1 l2 l3 = f) := ⟨_, rfl⟩
  rw [hff.out]
  obtain ⟨i0, hi, hz0, hz1, hz2⟩ := S.Try.i3
  go_wp2
  go_loopw [3, 11] (fun v i wr => ∃ k : Nat, k ≤ 16 ∧ i = .int .i64 k ∧ wr.ownsRow w2.heap.size 3 1 v (termsF f k).length (S.ic (termsF f k)) ∧ Below w2.heap.size w2 wr) (fun _ i _ => 16 - (intOf i).toNat)
  case atStart => exact ⟨0, by omega, rfl, World.ownsRow_nil _ _ _ _, Below.refl _ _⟩
  case round =>
    obtain ⟨k, hk, rfl, hown, hbw⟩ := hrel
    by_cases hlt : k < 16
    · have hx := idxB f k hlt
      have hle := termsF_le f k
      cases hf : f k
      · rw [hf] at hx
        have HF : Hid (termsF f (k + 1) = termsF f k) := by show termsF f (k + 1) = termsF f k; rw [termsF_succ, hf]; simp
        clear hf
        go_wp2
        go_roundw
        case rel => exact ⟨k + 1, by omega, by go_num, by rw [HF.out]; exact hown, hbw⟩
        case measure => simp [intOf]; omega
      · rw [hf] at hx
        have HF : Hid (termsF f (k + 1) = termsF f k ++ [(k : Int)]) := by show termsF f (k + 1) = _; rw [termsF_succ, hf]; simp
        clear hf
        generalize termsF f k = ls at *
        go_wp2_with (at_builtin; refine wpList_append_own _ rfl _ _ 26 rfl w2.heap.size 3 i0 (.int .i64 0) 1 8 Try.underlying26 hi hz0 hz1 hz2 rfl (by decide) _ _ _ rfl (hown.alloc _) ⟨wr.heap.size, 0, none⟩ 1 1 [.int .i64 k] rfl rfl ?c1 ?c2 ?c3 ?c4 ?c5 ?_)
        case c1 =>
          intro j u hj
          match j, hj with
          | 0, hj => simp at hj; subst hj; simp [Addr.add]
        case c2 => intro u hu; simp at hu; subst hu; rfl
        case c3 => unfold maxLen; omega
        case c4 => omega
        case c5 => have := hbw.size; simp; omega
        · intro v' w4 hown' hg hiff
          have hb2 := (hbw.alloc hbw.size _).grown hg (Nat.le_trans hbw.size (by simp)) (by intro q hq; exact (hown.lt q hq).1)
          clear hiff hg hown hbw
          go_wp2
          first
            | (go_roundw
               case rel => exact ⟨k + 1, by omega, by go_num, by rw [HF.out]; simpa [S.ic] using hown', hb2⟩
               case measure => simp [intOf]; omega)
            | ((repeat apply Exists.intro); exact ⟨⟨k + 1, by omega, by go_num, by rw [HF.out]; simpa [S.ic] using hown', hb2⟩, rfl⟩)
    · obtain rfl : k = 16 := by omega
      have L3 := L2.trans (hbw.mono L2.size)
      have hz := L2.size
      go_wp2
      go_ret
      exact ⟨u3, _, rfl, hz, by rw [hff.out]; exact hown, L3⟩

end Go.Proofs.Ytanihlecenmdcaa
