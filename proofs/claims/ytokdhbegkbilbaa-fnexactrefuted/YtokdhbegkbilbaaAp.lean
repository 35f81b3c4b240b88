/-
  The contracts of spec.Apart and impl.Apart: both answer by one plain function.
-/
import Derived.Test.YtokdhbegkbilbaaHm
namespace Go.Proofs.Ytokdhbegkbilbaa
open Go.RowKit Go.Maps

/-- No address is there in both. -/
def apB (x y : List Int) : Bool := (List.range 7).all fun i => !(decide (0 ≤ x.getD i 0) && decide (0 ≤ y.getD i 0))
def apV (x y : List Int) : Bool := hOk x && (hOk y && apB x y)

theorem apB_true {x y : List Int} (h : ∀ i, i < 7 → ¬ (0 ≤ x.getD i 0 ∧ 0 ≤ y.getD i 0)) : apB x y = true := by
  unfold apB
  rw [List.all_eq_true]
  intro i hi
  have := h i (by simpa using hi)
  rw [Bool.not_eq_true', Bool.and_eq_false_iff, decide_eq_false_iff_not, decide_eq_false_iff_not]
  omega

theorem apB_false {x y : List Int} {i : Nat} (hi : i < 7) (h : 0 ≤ x.getD i 0 ∧ 0 ≤ y.getD i 0) : apB x y = false := by
  unfold apB
  rw [List.all_eq_false]
  refine ⟨i, by simpa using hi, ?_⟩
  rw [decide_eq_true h.1, decide_eq_true h.2]
  simp

theorem hOk_true {h : List Int} (e : hOk h = true) : h.length = 7 ∧ h.getD 0 0 = -1 ∧ ∀ i, i < 7 → -1 ≤ h.getD i 0 ∧ h.getD i 0 ≤ 6 := by
  unfold hOk at e
  simp only [Bool.and_eq_true, decide_eq_true_eq] at e
  obtain ⟨b1, b2, b3⟩ := e
  refine ⟨b1, b2, fun i hi => ?_⟩
  rw [List.all_eq_true] at b3
  have hi' : i < h.length := by omega
  have := b3 h[i] (List.getElem_mem hi')
  simpa [aOk, hi'] using this

theorem hOk_all {h : List Int} (e : hOk h = true) : Hid (∀ i, i < h.length → aOk (h.getD i 0) = true) := fun i hi => by
  have := hOk_true e
  have q := this.2.2 i (by omega)
  simpa [aOk] using q

set_option maxHeartbeats 1000000 in
theorem l2apart_any (b b' c c' : Nat) (x y : List Int) (w : World) (ex : hOk x = true) (ey : hOk y = true) (o : OwnI w b x.length x x.length) (o' : OwnI w b' y.length y y.length) :
    Calls Try.prog 103 #[.slice (some ⟨b, 0, none⟩) x.length c, .slice (some ⟨b', 0, none⟩) y.length c'] w fun e w' => e = .returned (.bool (apB x y)) ∧ w' = w := by
  have e7 := (hOk_true ex).1
  have f7 := (hOk_true ey).1
  rw [e7] at o
  rw [f7] at o'
  rw [e7, f7]
  clear e7 f7
  go_enter Try.func103, Try.ntmps103
  go_wp2
  go_loop [5] (fun i => ∃ k : Nat, k ≤ 7 ∧ i = .int .i64 k ∧ Hid (∀ i, i < k → ¬ (0 ≤ x.getD i 0 ∧ 0 ≤ y.getD i 0))) (fun i => 7 - (intOf i).toNat)
  case atStart => exact ⟨0, Nat.zero_le _, rfl, fun i hi => by omega⟩
  case round =>
    obtain ⟨k, hk, rfl, hall⟩ := hrel
    by_cases hlt : k < 7
    · have hx := o.2.2 k hlt
      have hy := o'.2.2 k hlt
      obtain ⟨u, eu⟩ : ∃ u, Hid (x.getD k 0 = u) := ⟨_, rfl⟩
      obtain ⟨v, ev⟩ : ∃ v, Hid (y.getD k 0 = v) := ⟨_, rfl⟩
      rw [eu.out] at hx
      rw [ev.out] at hy
      by_cases q1 : 0 ≤ u
      · by_cases q2 : 0 ≤ v
        · go_wp2
          go_ret
          exact ⟨ret_bool (apB_false hlt (by rw [eu.out, ev.out]; exact ⟨q1, q2⟩)).symm, rfl⟩
        · go_wp2
          go_round
          case rel => exact ⟨k + 1, by omega, by go_num, fun i hi => by
            by_cases e : i = k
            · subst e; rw [ev.out]; omega
            · exact hall.out i (by omega)⟩
          case measure => simp [intOf]; omega
      · go_wp2
        go_round
        case rel => exact ⟨k + 1, by omega, by go_num, fun i hi => by
          by_cases e : i = k
          · subst e; rw [eu.out]; omega
          · exact hall.out i (by omega)⟩
        case measure => simp [intOf]; omega
    · obtain rfl : k = 7 := by omega
      go_wp2
      go_ret
      exact ⟨ret_bool (apB_true hall.out).symm, rfl⟩

set_option maxHeartbeats 1000000 in
theorem sApart_any (b b' c c' : Nat) (x y : List Int) (w : World) (n0 : x.length ≤ 1048576) (n1 : y.length ≤ 1048576) (o : OwnI w b x.length x x.length) (o' : OwnI w b' y.length y y.length) :
    Calls Try.prog 47 #[.slice (some ⟨b, 0, none⟩) x.length c, .slice (some ⟨b', 0, none⟩) y.length c'] w fun e w' => e = .returned (.bool (apV x y)) ∧ w' = w := by
  have h0 := l2heap_any b c x w n0 o
  have h1 := l2heap_any b' c' y w n1 o'
  have h2 := fun ex ey => l2apart_any b b' c c' x y w ex ey o o'
  have HV : Hid (apV x y = (hOk x && (hOk y && apB x y))) := rfl
  generalize hOk x = r0 at *
  generalize hOk y = r1 at *
  generalize apB x y = r2 at *
  cases r0
  · go_enter Try.func47, Try.ntmps47
    go_wp2_with fail
    refine h0.mono ?_
    rintro e w1 ⟨rfl, rfl⟩
    go_wp2
    go_ret
    exact ⟨ret_bool (by rw [HV.out]; rfl), rfl⟩
  · cases r1
    · go_enter Try.func47, Try.ntmps47
      go_wp2_with fail
      refine h0.mono ?_
      rintro e w1 ⟨rfl, rfl⟩
      go_wp2_with fail
      refine h1.mono ?_
      rintro e w1 ⟨rfl, rfl⟩
      go_wp2
      go_ret
      exact ⟨ret_bool (by rw [HV.out]; rfl), rfl⟩
    · replace h2 := h2 rfl rfl
      go_enter Try.func47, Try.ntmps47
      go_wp2_with fail
      refine h0.mono ?_
      rintro e w1 ⟨rfl, rfl⟩
      go_wp2_with fail
      refine h1.mono ?_
      rintro e w1 ⟨rfl, rfl⟩
      go_wp2_with fail
      refine h2.mono ?_
      rintro e w1 ⟨rfl, rfl⟩
      go_wp2
      go_ret
      exact ⟨ret_bool (by rw [HV.out]; simp), rfl⟩

theorem hp_some {l : List Int} {k : Nat} {x y : Int} (h : hp l k x = some y) : ∃ i : Nat, x = i ∧ i < k ∧ l.getD i 0 = y ∧ y ≠ -1 := by
  unfold hp at h
  by_cases c : 0 ≤ x ∧ x < k ∧ l.getD x.toNat 0 ≠ -1
  · rw [if_pos c] at h
    injection h with h
    exact ⟨x.toNat, by omega, by omega, h, h ▸ c.2.2⟩
  · rw [if_neg c] at h; cases h

theorem hp_at {l : List Int} {k i : Nat} (hi : i < k) (h : l.getD i 0 ≠ -1) : hp l k i = some (l.getD i 0) := by
  unfold hp
  rw [Int.toNat_natCast, if_pos ⟨by omega, by omega, h⟩]

set_option maxHeartbeats 2000000 in
theorem iApart_any (b b' c c' : Nat) (x y : List Int) (w : World) (n0 : x.length ≤ 1048576) (n1 : y.length ≤ 1048576) (o : OwnI w b x.length x x.length) (o' : OwnI w b' y.length y y.length) :
    Calls Try.prog 49 #[.slice (some ⟨b, 0, none⟩) x.length c, .slice (some ⟨b', 0, none⟩) y.length c'] w fun e w' => e = .returned (.bool (apV x y)) ∧ Below w.heap.size w w' := by
  have h0 := heapOk_any b c x w n0 o
  have h1 := heapOk_any b' c' y w n1 o'
  have HV : Hid (apV x y = (hOk x && (hOk y && apB x y))) := rfl
  cases r0 : hOk x
  · rw [r0] at h0 HV
    go_enter Try.func49, Try.ntmps49
    go_wp2_with fail
    refine h0.mono ?_
    rintro e w1 ⟨rfl, rfl⟩
    go_wp2
    go_ret
    exact ⟨ret_bool (by rw [HV.out]; rfl), Below.refl _ _⟩
  · cases r1 : hOk y
    · rw [r0] at h0 HV
      rw [r1] at h1 HV
      go_enter Try.func49, Try.ntmps49
      go_wp2_with fail
      refine h0.mono ?_
      rintro e w1 ⟨rfl, rfl⟩
      go_wp2_with fail
      refine h1.mono ?_
      rintro e w1 ⟨rfl, rfl⟩
      go_wp2
      go_ret
      exact ⟨ret_bool (by rw [HV.out]; rfl), Below.refl _ _⟩
    · have h2 := heapOf_any b' c' y w n1 (hOk_all r1) o'
      have h3 := fun w1 (hb : Below w.heap.size w w1) => heapOf_any b c x w1 n0 (hOk_all r0) (o.keep hb)
      obtain ⟨-, -, px⟩ := hOk_true r0
      obtain ⟨-, -, py⟩ := hOk_true r1
      have e7 : Hid (x.length = 7) := (hOk_true r0).1
      have f7 : Hid (y.length = 7) := (hOk_true r1).1
      rw [r0] at h0 HV
      rw [r1] at h1 HV
      have PX : Hid (∀ i, i < 7 → -1 ≤ x.getD i 0 ∧ x.getD i 0 ≤ 6) := px
      have PY : Hid (∀ i, i < 7 → -1 ≤ y.getD i 0 ∧ y.getD i 0 ≤ 6) := py
      clear px py r0 r1 n0 n1 o o'
      go_enter Try.func49, Try.ntmps49
      go_wp2_with fail
      refine h0.mono ?_
      rintro e w1 ⟨rfl, rfl⟩
      go_wp2_with fail
      refine h1.mono ?_
      rintro e w1 ⟨rfl, rfl⟩
      go_wp2_with fail
      refine h2.mono ?_
      rintro e w2 ⟨rfl, hy, L2⟩
      replace h3 := h3 w2 L2
      clear h0 h1 h2
      go_wp2_with fail
      refine h3.mono ?_
      rintro e w3 ⟨rfl, hx, hb⟩
      have L3 := L2.trans (hb.mono L2.size)
      have hlt : w1.heap.size < w2.heap.size := hy.lt
      replace hy := hy.keep hb
      have hl3 := hx.lt
      clear h3 hb
      rw [f7.out] at hy
      rw [e7.out] at hx
      obtain ⟨Dx, hown, hf⟩ := hx
      have HF : Hid (∀ z, (hp x 7 z = none → Maps.has Dx (ik z) = false) ∧ ∀ y, hp x 7 z = some y → Maps.has Dx (ik z) = true ∧ ∀ d, Dx.atKey (ik z) d = .lit (.int .i64 y)) := hf
      clear hf
      go_wp2_with (first
        | (at_range; refine wpList_range_own _ rfl _ 93 rfl 3 3 law3 Try.underlying93 _ w2.heap.size 7 _ rfl hown ?_; intro w4 hrg0 hg0 hs0)
        | go_in)
      go_frame
      replace hy := hy.keep (Below.refl _ _ |>.grown hg0 (Nat.le_refl _) (fun j hj => by cases hj))
      have L4 := L3.grown hg0 L3.size (fun j hj => by cases hj)
      go_loopw [6] (fun _ wr => ∃ (left : Lit → Bool) (cnt : Nat), wr.ranges Try.prog 3 (plainElem Try.prog 3) w2.heap.size w3.heap.size 7 Dx left cnt ∧ HM wr w1.heap.size 7 (hp y 7) ∧ Hid (∀ z, hp x 7 z ≠ none → left (ik z) = false → hp y 7 z = none) ∧ Below w1.heap.size w1 wr)
        (fun _ wr => wr.rangeLeft w2.heap.size w3.heap.size)
      case atStart => exact ⟨_, _, hrg0, hy, fun z hz hl => absurd hl (by
        cases e : hp x 7 z with
        | none => exact absurd e hz
        | some v => rw [((HF.out z).2 v e).1]; simp), L4⟩
      case round =>
        clear hy L4 hrg0 hown
        obtain ⟨left, cnt, hrg, hy, hA, hnx⟩ := hrel
        go_wp2_with (first
          | (at_next; refine wpList_next_ranges_ii _ rfl _ rfl 3 3 .i64 .i64 law3 Try.underlying3 Try.underlying3 w2.heap.size w3.heap.size 7 _ _ _ rfl hrg ?_ ?_)
          | go_in)
        · intro hc0 hl0
          go_wp2
          go_ret
          refine ⟨ret_bool ?_, hnx⟩
          have hh : apB x y = true := apB_true fun i hi hh => by
            have e1 := hp_at (l := x) hi (by omega)
            have e2 := hp_at (l := y) hi (by omega)
            rw [hA.out i (by rw [e1]; simp) (hl0 _)] at e2
            cases e2
          rw [HV.out, hh]
          rfl
        · intro z v w5 cnt1 hwz hwv hlz hat hrg1 hlt1 hg1 hs1 hen
          have hz : ∃ u, hp x 7 z = some u := by
            cases e : hp x 7 z with
            | some u => exact ⟨u, rfl⟩
            | none =>
              have q := (HF.out z).1 e
              rw [has_true_of_atKey hat] at q
              cases q
          have hy5 := hy.out (grown_out hg1) (by omega)
          have L5 := hnx.grown hg1 hnx.size (fun j hj => by cases hj; omega)
          have hc := there_any w1.heap.size 7 _ z w5 hwz hy5
          cases e : hp y 7 z with
          | none =>
            rw [e] at hc
            go_wp2_with (go_at_call 104; refine hc.mono ?_; rintro e w6 ⟨rfl, rfl⟩)
            go_roundw
            case rel =>
              refine ⟨_, cnt1, hrg1, hy5, fun q hq hl => ?_, L5⟩
              by_cases eq : q = z
              · subst eq; exact e
              · exact hA.out q hq (by simpa [sameKey_ne (ik_ne eq)] using hl)
            case measure => rw [hrg1.left_eq, hrg.left_eq]; exact hlt1
          | some u =>
            rw [e] at hc
            go_wp2_with (go_at_call 104; refine hc.mono ?_; rintro e w6 ⟨rfl, rfl⟩)
            go_ret
            refine ⟨ret_bool ?_, L5⟩
            obtain ⟨u', hz⟩ := hz
            obtain ⟨i, rfl, hi, h1, h2⟩ := hp_some hz
            obtain ⟨j, ej, hj, h3, h4⟩ := hp_some e
            obtain rfl : i = j := by omega
            have := PX.out i hi
            have := PY.out i hi
            rw [HV.out, apB_false hi ⟨by omega, by omega⟩]
            rfl

end Go.Proofs.Ytokdhbegkbilbaa
