/-
  The contracts of impl.setOf and impl's only.
-/
import Derived.Test.YtokdhbegkbilbaaSeg
import Derived.Test.YtokdhbegkbilbaaAp
namespace Go.Proofs.Ytokdhbegkbilbaa
open Go.RowKit Go.Maps

def WFL (l : List Int) : Prop := ∀ i, i < l.length → (Lit.int .i64 (l.getD i 0)).wf = true

theorem take_snoc {l : List Int} {k : Nat} (hk : k < l.length) : l.take (k + 1) = l.take k ++ [l.getD k 0] := by
  rw [List.take_add_one]
  simp [hk]

set_option maxHeartbeats 1000000 in
theorem setOf_some (b c : Nat) (l : List Int) (w : World) (hn : l.length ≤ 1048576) (hw : Hid (WFL l)) (ho : OwnI w b l.length l l.length) :
    Calls Try.prog 109 #[.slice (some ⟨b, 0, none⟩) l.length c] w fun e w' => e = .returned (.map (some w.heap.size)) ∧ HS w' w.heap.size l.length (fun q => decide (q ∈ l)) ∧ Below w.heap.size w w' := by
  have hmm := @run_makeMap Try.prog
  have h0 := HS.made w
  have L0 : Below w.heap.size w (w.alloc (.map #[] 0)) := (Below.refl _ _).alloc (Nat.le_refl _) _
  have HT : Hid (∀ k, k < l.length → l.take (k + 1) = l.take k ++ [l.getD k 0]) := fun k hk => take_snoc hk
  have HA : Hid (l.take l.length = l) := List.take_length
  have HW : Hid (∀ i, i < l.length → (Lit.int .i64 (l.getD i 0)).wf = true) := hw.out
  clear hw
  generalize hN : l.length = n at *
  clear hN
  have hbl := ho.1
  go_enter Try.func109, Try.ntmps109
  go_wp2
  go_loopw [5, 9] (fun _ i wr => ∃ k : Nat, k ≤ n ∧ i = .int .i64 k ∧ HS wr w.heap.size k (fun q => decide (q ∈ l.take k)) ∧ Below w.heap.size w wr) (fun _ i _ => n - (intOf i).toNat)
  case atStart => exact ⟨0, Nat.zero_le _, rfl, by simpa using h0, L0⟩
  case round =>
    clear h0 L0
    obtain ⟨k, hk, rfl, hm, hbw⟩ := hrel
    by_cases hlt : k < n
    · have hx := (ho.below hbw hbl).2.2 k hlt
      have wx := HW.out k hlt
      obtain ⟨x, ex⟩ : ∃ x, Hid (l.getD k 0 = x) := ⟨_, rfl⟩
      rw [ex.out] at hx wx
      have hc := add_any w.heap.size k _ x wr wx (by omega) hm
      have eS : (fun q => decide (q ∈ l.take k) || decide (q = x)) = fun q => decide (q ∈ l.take (k + 1)) := by
        funext q; rw [HT.out k hlt, ex.out]; simp
      rw [eS] at hc
      clear eS
      go_wp2_with fail
      refine hc.mono ?_
      rintro e w1 ⟨rfl, hm1, ho1⟩
      have hb1 := hbw.trans (ho1.below (Nat.le_refl _) hbw.size)
      clear hc hx hbw hm ho1
      go_wp2
      go_roundw
      case rel => exact ⟨k + 1, by omega, by go_num, hm1, hb1⟩
      case measure => simp [intOf]; omega
    · obtain rfl : k = n := by omega
      go_wp2
      go_ret
      exact ⟨rfl, by rw [HA.out] at hm; exact hm, hbw⟩

set_option maxHeartbeats 1000000 in
theorem setOf_nil (a : Option Addr) (c : Nat) (w : World) :
    Calls Try.prog 109 #[.slice a 0 c] w fun e w' => e = .returned (.map (some w.heap.size)) ∧ HS w' w.heap.size 0 (fun _ => false) ∧ Below w.heap.size w w' := by
  have hmm := @run_makeMap Try.prog
  have h0 := HS.made w
  have L0 : Below w.heap.size w (w.alloc (.map #[] 0)) := (Below.refl _ _).alloc (Nat.le_refl _) _
  go_enter Try.func109, Try.ntmps109
  go_wp2
  go_loopw [5, 9] (fun _ i wr => i = .int .i64 0 ∧ HS wr w.heap.size 0 (fun _ => false) ∧ Below w.heap.size w wr) (fun _ _ _ => 0)
  case atStart => exact ⟨rfl, h0, L0⟩
  case round =>
    clear h0 L0
    obtain ⟨rfl, hm, hbw⟩ := hrel
    go_wp2
    go_ret
    exact ⟨rfl, hm, hbw⟩

theorem setOf_any (lo hi : Nat) (a : Option Addr) (c n : Nat) (l : List Int) (w : World) (hn : n ≤ 1048576) (hw : Hid (WFL l)) (hr : IntIn w lo hi a n l) :
    Calls Try.prog 109 #[.slice a n c] w fun e w' => e = .returned (.map (some w.heap.size)) ∧ HS w' w.heap.size n (fun q => decide (q ∈ l)) ∧ Below w.heap.size w w' := by
  obtain ⟨rfl, h0 | ⟨b, rfl, -, -, ho⟩⟩ := hr
  · obtain rfl : l = [] := List.eq_nil_of_length_eq_zero h0
    exact (setOf_nil a c w).mono fun e w' ⟨h1, h2, h3⟩ => ⟨h1, by simpa using h2, h3⟩
  · exact setOf_some b c l w hn hw ho

theorem sameKey_self (x : Int) : (ik x).sameKey (ik x) = true := by simp [Lit.sameKey]

set_option maxHeartbeats 2000000 in
theorem only_any (bm N bs M : Nat) (f : Int → Option Int) (p : Int → Bool) (w : World) (hN : N ≤ 1048576) (hm : HM w bm N f) (hs : HS w bs M p) :
    Calls Try.prog 108 #[.map (some bm), .map (some bs)] w fun e w' => e = .returned (.map (some w.heap.size)) ∧ HM w' w.heap.size N (fun q => if p q = true then f q else none) ∧ Below w.heap.size w w' := by
  have hmm := @run_makeMap Try.prog
  have h0 := HM.made w
  have L0 : Below w.heap.size w (w.alloc (.map #[] 0)) := (Below.refl _ _).alloc (Nat.le_refl _) _
  have e1 : (w.alloc (.map #[] 0)).heap.size = w.heap.size + 1 := by simp
  have hbm := hm.lt
  have hbs := hs.lt
  obtain ⟨Dx, hown, hf⟩ := hm.alloc (.map #[] 0)
  have hsz := hown.size_le
  have HF : Hid (∀ z, (f z = none → Maps.has Dx (ik z) = false) ∧ ∀ y, f z = some y → Maps.has Dx (ik z) = true ∧ ∀ d, Dx.atKey (ik z) d = .lit (.int .i64 y)) := hf
  replace hs := hs.alloc (.map #[] 0)
  clear hf hm
  go_enter Try.func108, Try.ntmps108
  go_wp2_with (first
    | (at_range; refine wpList_range_own _ rfl _ 93 rfl 3 3 law3 Try.underlying93 _ bm N _ rfl hown ?_; intro w4 hrg0 hg0 hs0)
    | go_in)
  go_frame
  rw [e1] at hrg0 hs0 ⊢
  have k0 := (Below.refl (w.alloc (.map #[] 0)).heap.size (w.alloc (.map #[] 0))).grown hg0 (Nat.le_refl _) (fun j hj => by cases hj)
  replace hs := hs.keep k0
  replace h0 := h0.keep k0
  replace L0 := L0.grown hg0 L0.size (fun j hj => by cases hj)
  go_loopw [6, 7] (fun _ _ wr => ∃ (left : Lit → Bool) (cnt : Nat) (fo : Int → Option Int), wr.ranges Try.prog 3 (plainElem Try.prog 3) bm (w.heap.size + 1) N Dx left cnt ∧ cnt ≤ Maps.size Dx ∧ HM wr w.heap.size (Maps.size Dx - cnt) fo ∧ HS wr bs M p ∧
      Hid (∀ q, fo q = if p q = true ∧ left (ik q) = false then f q else none) ∧ Below w.heap.size w wr ∧ w.heap.size + 2 ≤ wr.heap.size)
    (fun _ _ wr => wr.rangeLeft bm (w.heap.size + 1))
  case atStart => exact ⟨_, _, _, hrg0, Nat.le_refl _, by simpa using h0, hs, fun q => by
    cases e : f q with
    | none => simp
    | some v => rw [((HF.out q).2 v e).1]; simp, L0, by omega⟩
  case round =>
    clear hs h0 L0 hrg0 hown k0
    obtain ⟨left, cnt, fo, hrg, hcs, hfo, hs, hA, hnx, hz2⟩ := hrel
    go_wp2_with (first
      | (at_next; refine wpList_next_ranges_ii _ rfl _ rfl 3 3 .i64 .i64 law3 Try.underlying3 Try.underlying3 bm (w.heap.size + 1) N _ _ _ rfl hrg ?_ ?_)
      | go_in)
    · intro hc0 hl0
      go_wp2
      go_ret
      have e : fo = fun q => if p q = true then f q else none := by
        funext q
        rw [hA.out q, hl0]
        simp
      rw [e] at hfo
      exact ⟨rfl, hfo.mono (by omega), hnx⟩
    · intro z v w5 cnt1 hwz hwv hlz hat hrg1 hlt1 hg1 hs1 hen
      have hfz : f z = some v := by
        cases e : f z with
        | some u =>
          have := ((HF.out z).2 u e).2 (.lit (.int .i64 0))
          rw [hat] at this
          rw [intv this]
        | none =>
          have q := (HF.out z).1 e
          rw [has_true_of_atKey hat] at q
          cases q
      have hfo5 := hfo.out (grown_out hg1) (by omega)
      have hs5 := hs.out (grown_out hg1) (by omega)
      have L5 := hnx.grown hg1 hnx.size (fun j hj => by cases hj; omega)
      have hc := has_any bs M p z w5 hwz hs5
      clear hfo hs hnx
      cases e : p z
      · rw [e] at hc
        go_wp2_with fail
        refine hc.mono ?_
        rintro e' w6 ⟨rfl, hb⟩
        have hrg6 := hrg1.kept (Below.grows hb) (by simp) (by simp)
        have L6 := L5.trans (hb.mono L5.size)
        have hs6 := hs5.keep hb
        have hfo6 := hfo5.keep hb
        have z6 := hb.size
        clear hc hrg1 L5 hs5 hfo5 hb
        go_wp2
        go_roundw
        case rel =>
          refine ⟨_, cnt1, fo, hrg6, by omega, hfo6.mono (by omega), hs6, fun q => ?_, L6, by omega⟩
          rw [hA.out q]
          by_cases eq : q = z
          · subst eq; rw [e]; simp
          · rw [sameKey_ne (ik_ne eq)]; simp
        case measure => rw [hrg6.left_eq, hrg.left_eq]; exact hlt1
      · rw [e] at hc
        go_wp2_with fail
        refine hc.mono ?_
        rintro e' w6 ⟨rfl, hb⟩
        have hrg6 := hrg1.kept (Below.grows hb) (by simp) (by simp)
        have L6 := L5.trans (hb.mono L5.size)
        have hs6 := hs5.keep hb
        obtain ⟨Do, howno, hfd⟩ := hfo5.keep hb
        have HO : Hid (∀ x, (fo x = none → Maps.has Do (ik x) = false) ∧ ∀ y, fo x = some y → Maps.has Do (ik x) = true ∧ ∀ z, Do.atKey (ik x) z = .lit (.int .i64 y)) := hfd
        have z6 := hb.size
        clear hc hrg1 L5 hs5 hfo5 hb hfd
        go_wp2_with (first
          | (at_mapUpdate; refine wpList_mapUpdate_own _ rfl _ _ _ 93 rfl 3 3 law3 Try.underlying93 _ w.heap.size _ _ rfl howno (by unfold maxLen; omega) _ _ _ rfl rfl (keyOf_int_mk Try.underlying3 hwz) _ [] (plainElem_int Try.underlying3 hwv) ?_; intro w7 hown7 hg7; go_frame)
          | go_in)
        have hrg7 := hrg6.kept hg7 (fun e => by have := Option.some.inj e; omega) (fun e => by have := Option.some.inj e; omega)
        have L7 := L6.grown hg7 L6.size (fun j hj => by cases hj; exact Nat.le_refl _)
        have hs7 := hs6.out (grown_out hg7) (by omega)
        have z7 := hg7.size
        have hfo7 : HM w7 w.heap.size (Maps.size Dx - cnt + 1) (fun q => if q = z then some v else fo q) := ⟨_, hown7, hm_put howno.isMap HO.out⟩
        go_roundw
        case rel =>
          refine ⟨_, cnt1, _, hrg7, by omega, hfo7.mono (by omega), hs7, fun q => ?_, L7, by omega⟩
          by_cases eq : q = z
          · subst eq; rw [sameKey_self, e, hfz]; simp
          · rw [if_neg eq, hA.out q, sameKey_ne (ik_ne eq)]; simp
        case measure => rw [hrg7.left_eq, hrg.left_eq]; exact hlt1

end Go.Proofs.Ytokdhbegkbilbaa
