/-
  The contracts of spec.l2seg, spec.SegOf, impl.SegOf, spec.Reaches and impl.Reaches.
-/
import Derived.Test.YtokdhbegkbilbaaSeg
import Derived.Test.YtokdhbegkbilbaaNx
namespace Go.Proofs.Ytokdhbegkbilbaa
open Go.RowKit Go.Maps

theorem seg_no {h : List Int} {x to : Int} (h1 : x ≠ to) (h2 : okp h x = false) : ∀ n, seg h n x to = none
  | 0 => by unfold seg; rw [if_neg h1]
  | n + 1 => by unfold seg; rw [if_neg h1, h2]; rfl
theorem seg_to (h : List Int) (x : Int) : ∀ n, seg h n x x = some []
  | 0 => by unfold seg; rw [if_pos rfl]
  | n + 1 => by unfold seg; rw [if_pos rfl]

theorem okp_nat {h : List Int} {k : Nat} (hk : k < 7) : okp h k = decide (h.getD k 0 ≠ -1) := by
  unfold okp hp
  rw [Int.toNat_natCast]
  by_cases e : h.getD k 0 = -1
  · rw [if_neg (fun q => q.2.2 e), e]; rfl
  · rw [if_pos ⟨by omega, by omega, e⟩, decide_eq_true e]; rfl

theorem seg_len {h : List Int} {to : Int} : ∀ n x l, seg h n x to = some l → l.length ≤ n
  | 0, x, l, e => by
    unfold seg at e
    split at e
    · injection e with e; subst e; simp
    · cases e
  | n + 1, x, l, e => by
    unfold seg at e
    split at e
    · injection e with e; subst e; simp
    · split at e
      · obtain ⟨m, hm, rfl⟩ := Option.map_eq_some_iff.1 e
        have := seg_len n _ m hm
        simp; omega
      · cases e

def segL (h : List Int) (x to : Int) : List Int := (seg h 7 x to).getD []
theorem segL_len (h : List Int) (x to : Int) : (segL h x to).length ≤ 7 := by
  unfold segL
  cases e : seg h 7 x to with
  | none => simp
  | some l => exact seg_len 7 _ _ e

set_option maxRecDepth 100000 in
set_option maxHeartbeats 1000000 in
theorem l2seg_any (b c : Nat) (h : List Int) (x to : Int) (w : World) (e7 : h.length = 7) (hx0 : 0 ≤ x ∧ x ≤ 6) (hr : Hid (∀ i, i < 7 → -1 ≤ h.getD i 0 ∧ h.getD i 0 ≤ 6)) (o : OwnI w b h.length h h.length) :
    Calls Try.prog 97 #[.slice (some ⟨b, 0, none⟩) h.length c, .int .i64 x, .int .i64 to] w fun e w' => ∃ a cc, e = .returned (.tuple #[.slice a (segL h x to).length cc, .bool (seg h 7 x to).isSome]) ∧
      IntIn w' w.heap.size w'.heap.size a (segL h x to).length (segL h x to) ∧ Below w.heap.size w w' := by
  rw [e7] at o
  rw [e7]
  clear e7
  obtain ⟨S, eS⟩ : ∃ S, Hid (seg h 7 x to = S) := ⟨_, rfl⟩
  have eL : segL h x to = S.getD [] := by unfold segL; rw [eS.out]
  rw [eL, eS.out]
  have ES : Hid ((seg h (7 - ([] : List Int).length) x to).map (([] : List Int) ++ ·) = S) := by
    have q := eS.out
    show (seg h 7 x to).map (([] : List Int) ++ ·) = S
    rw [q]; cases S <;> simp
  clear eS eL
  obtain ⟨i0, hi, hz0, hz1, hz2⟩ := Try.i3
  have ob := o.1
  go_enter Try.func97, Try.ntmps97
  go_wp2
  go_loopw [8, 9] (fun v q wr => ∃ (l : List Int) (k : Nat), q = .int .i64 k ∧ k ≤ 6 ∧ l.length ≤ 7 ∧ wr.ownsRow w.heap.size 3 1 v l.length (ic l) ∧ Below w.heap.size w wr ∧
      Hid ((seg h (7 - l.length) k to).map (l ++ ·) = S)) (fun v _ _ => 8 - (lenOf v))
  case atStart =>
    obtain ⟨k, rfl⟩ : ∃ k : Nat, x = k := ⟨x.toNat, by omega⟩
    exact ⟨[], k, rfl, by omega, by simp, World.ownsRow_nil _ _ _ _, Below.refl _ _, ES⟩
  case round =>
    clear ES
    obtain ⟨l, k, rfl, hk, hl, hown, hbw, HS⟩ := hrel
    have hx := (o.below hbw ob).2.2 k (by omega)
    have hy := hr.out k (by omega)
    have HK : Hid (okp h k = decide (h.getD k 0 ≠ -1)) := okp_nat (by omega)
    obtain ⟨y, ey⟩ : ∃ y, Hid (h.getD k 0 = y) := ⟨_, rfl⟩
    rw [ey.out] at hx hy HK
    by_cases c1 : (k : Int) = to
    · have ET : Hid (S = some l) := by
        have q := HS.out
        rw [c1, seg_to] at q
        show S = some l
        simpa using q.symm
      obtain ⟨a, cc, rfl, hin⟩ := IntIn.ofOwns hown
      go_wp2
      go_ret2
      rw [ET.out]
      exact ⟨a, cc, rfl, hin, hbw⟩
    · have hki : (k : Int) < 7 := by omega
      by_cases c2 : y < 0
      · have ET : Hid (S = none) := by
          have q := HS.out
          rw [seg_no c1 (by rw [HK.out]; simp; omega)] at q
          exact q.symm
        go_wp2
        go_ret2
        rw [ET.out]
        exact ⟨none, 0, rfl, ⟨rfl, .inl rfl⟩, hbw⟩
      · by_cases c3 : l.length = 7
        · have ET : Hid (S = none) := by
            have q := HS.out
            rw [c3, show seg h (7 - 7) k to = none by show seg h 0 k to = none; unfold seg; rw [if_neg c1]] at q
            exact q.symm
          obtain ⟨a, cc, rfl, hin⟩ := IntIn.ofOwns hown
          have c4 : (6 : Int) < (l.length : Int) := by omega
          go_wp2
          go_ret2
          rw [ET.out]
          first
            | exact ⟨none, 0, rfl, ⟨rfl, .inl rfl⟩, hbw⟩
            | exact ⟨none, ⟨0, rfl⟩, ⟨rfl, .inl rfl⟩, hbw⟩
        · have hn : (l ++ [(k : Int)]).length = l.length + 1 := by simp
          obtain ⟨m, rfl⟩ : ∃ m : Nat, y = m := ⟨y.toNat, by omega⟩
          have HS2 : Hid ((seg h (7 - (l ++ [(k : Int)]).length) m to).map ((l ++ [(k : Int)]) ++ ·) = S) := by
            have q := HS.out
            obtain ⟨f, hf⟩ : ∃ f, 7 - l.length = f + 1 := ⟨6 - l.length, by omega⟩
            rw [hf] at q
            unfold seg at q
            rw [if_neg c1, HK.out, if_pos (by simp), show gn h k = m from by unfold gn; rw [Int.toNat_natCast]; exact ey.out] at q
            show (seg h (7 - (l ++ [(k : Int)]).length) m to).map ((l ++ [(k : Int)]) ++ ·) = S
            rw [hn, show 7 - (l.length + 1) = f by omega, ← q]
            cases seg h f m to <;> simp
          obtain ⟨a, cc, rfl, -⟩ := IntIn.ofOwns hown
          have c4 : ¬ (6 : Int) < (l.length : Int) := by omega
          have hb0 : b < wr.heap.size := Nat.lt_of_lt_of_le ob hbw.size
          clear HS
          go_wp2_with (at_builtin; refine wpList_append_own _ rfl _ _ 39 rfl w.heap.size 3 i0 (.int .i64 0) 1 8 Try.underlying39 hi hz0 hz1 hz2 rfl (by decide) _ _ _ rfl (hown.alloc _) ⟨wr.heap.size, 0, none⟩ 1 1 [.int .i64 k] rfl rfl ?c1 ?c2 ?c3 ?c4 ?c5 ?_)
          try case c1 =>
            intro j u hj
            match j, hj with
            | 0, hj => simp at hj; subst hj; simp [Addr.add]
          try case c2 => first | rfl | (intro u hu; simp at hu; subst hu; rfl)
          case c3 => unfold maxLen; omega
          case c4 => omega
          case c5 => have := hbw.size; simp; omega
          · intro v' w4 hown' hg hiff
            have hb4 := (hbw.alloc hbw.size _).grown hg (Nat.le_trans hbw.size (by simp)) (by intro q hq; exact (hown.lt q hq).1)
            have hx4 := (o.below hb4 ob).2.2 k (by omega)
            rw [ey.out] at hx4
            clear hiff hg hown hbw hx
            go_wp2
            go_roundw
            case rel => exact ⟨l ++ [(k : Int)], m, rfl, by omega, by omega, by rw [hn]; simpa [ic] using hown', hb4, HS2⟩
            case measure =>
              obtain ⟨a0, c0, e0, -⟩ := IntIn.ofOwns (l := l ++ [(k : Int)]) (n := l.length + 1) (by simpa [ic] using hown')
              simp [e0, lenOf]; omega

end Go.Proofs.Ytokdhbegkbilbaa
