/-
  The contracts of impl's domain, of spec.Domain and impl.Domain.
-/
import Derived.Test.YtokdhbegkbilbaaAs
import Derived.Test.YtokdhbegkbilbaaOn
import Derived.Test.YtokdhbegkbilbaaNx
import Derived.Test.YtokdhbegkbilbaaAp
namespace Go.Proofs.Ytokdhbegkbilbaa
open Go.RowKit Go.Maps

theorem ascL_yes {p : Int → Bool} {k : Nat} (h : p k = true) : ascL p (k + 1) = ascL p k ++ [(k : Int)] := by
  unfold ascL
  rw [List.range_succ, List.map_append, List.filter_append]
  simp [h]
theorem ascL_no {p : Int → Bool} {k : Nat} (h : p k = false) : ascL p (k + 1) = ascL p k := by
  unfold ascL
  rw [List.range_succ, List.map_append, List.filter_append]
  simp [h]

def domP (hv : List Int) (x : Int) : Bool := (hp hv 7 x).isSome
def domO (t hv : List Int) : List Int := if sOk t hv = true then ascL (domP hv) 7 else []
theorem domO_len (t hv : List Int) : (domO t hv).length ≤ 7 := by
  unfold domO
  split
  · exact ascL_len _ _
  · simp
theorem domP_in {hv : List Int} (x : Int) (h : domP hv x = true) : 0 ≤ x ∧ x ≤ 6 := by
  unfold domP at h
  cases e : hp hv 7 x with
  | none => rw [e] at h; cases h
  | some y =>
    obtain ⟨i, rfl, hi, _⟩ := hp_some e
    omega
theorem domP_nat {hv : List Int} {k : Nat} (hk : k < 7) : domP hv k = decide (hv.getD k 0 ≠ -1) := by
  unfold domP hp
  rw [Int.toNat_natCast]
  by_cases e : hv.getD k 0 = -1
  · rw [if_neg (fun q => q.2.2 e), e]; rfl
  · rw [if_pos ⟨by omega, by omega, e⟩, decide_eq_true e]; rfl

set_option maxHeartbeats 2000000 in
theorem domain_any (bm N : Nat) (f : Int → Option Int) (w : World) (hN : N ≤ 1048576) (hm : HM w bm N f) :
    Calls Try.prog 95 #[.map (some bm)] w fun e w' => e = .returned (.map (some w.heap.size)) ∧ HS w' w.heap.size N (fun q => (f q).isSome) ∧ Below w.heap.size w w' := by
  have hmm := @run_makeMap Try.prog
  have h0 := HS.made w
  have L0 : Below w.heap.size w (w.alloc (.map #[] 0)) := (Below.refl _ _).alloc (Nat.le_refl _) _
  have e1 : (w.alloc (.map #[] 0)).heap.size = w.heap.size + 1 := by simp
  have hbm := hm.lt
  obtain ⟨Dx, hown, hf⟩ := hm.alloc (.map #[] 0)
  have hsz := hown.size_le
  have HF : Hid (∀ z, (f z = none → Maps.has Dx (ik z) = false) ∧ ∀ y, f z = some y → Maps.has Dx (ik z) = true ∧ ∀ d, Dx.atKey (ik z) d = .lit (.int .i64 y)) := hf
  clear hf hm
  go_enter Try.func95, Try.ntmps95
  go_wp2_with (first
    | (at_range; refine wpList_range_own _ rfl _ 93 rfl 3 3 law3 Try.underlying93 _ bm N _ rfl hown ?_; intro w4 hrg0 hg0 hs0)
    | go_in)
  go_frame
  rw [e1] at hrg0 hs0 ⊢
  have k0 := (Below.refl (w.alloc (.map #[] 0)).heap.size (w.alloc (.map #[] 0))).grown hg0 (Nat.le_refl _) (fun j hj => by cases hj)
  replace h0 := h0.keep k0
  replace L0 := L0.grown hg0 L0.size (fun j hj => by cases hj)
  go_loopw [4] (fun _ wr => ∃ (left : Lit → Bool) (cnt : Nat) (po : Int → Bool), wr.ranges Try.prog 3 (plainElem Try.prog 3) bm (w.heap.size + 1) N Dx left cnt ∧ cnt ≤ Maps.size Dx ∧ HS wr w.heap.size (Maps.size Dx - cnt) po ∧
      Hid (∀ q, po q = ((f q).isSome && !left (ik q))) ∧ Below w.heap.size w wr ∧ w.heap.size + 2 ≤ wr.heap.size)
    (fun _ wr => wr.rangeLeft bm (w.heap.size + 1))
  case atStart => exact ⟨_, _, _, hrg0, Nat.le_refl _, by simpa using h0, fun q => by
    cases e : f q with
    | none => simp
    | some v => rw [((HF.out q).2 v e).1]; simp, L0, by omega⟩
  case round =>
    clear h0 L0 hrg0 hown k0
    obtain ⟨left, cnt, po, hrg, hcs, hpo, hA, hnx, hz2⟩ := hrel
    go_wp2_with (first
      | (at_next; refine wpList_next_ranges_ii _ rfl _ rfl 3 3 .i64 .i64 law3 Try.underlying3 Try.underlying3 bm (w.heap.size + 1) N _ _ _ rfl hrg ?_ ?_)
      | go_in)
    · intro hc0 hl0
      go_wp2
      go_ret
      have e : po = fun q => (f q).isSome := by
        funext q
        rw [hA.out q, hl0]
        simp
      rw [e] at hpo
      exact ⟨rfl, hpo.mono (by omega), hnx⟩
    · intro z v w5 cnt1 hwz hwv hlz hat hrg1 hlt1 hg1 hs1 hen
      have hfz : f z = some v := by
        cases e : f z with
        | some u =>
          have := ((HF.out z).2 u e).2 (.lit (.int .i64 0))
          rw [hat] at this
          rw [intv this]
        | none =>
          have q := (HF.out z).1 e
          rw [has_true_of_atKey hat] at q
          cases q
      have hpo5 := hpo.out (grown_out hg1) (by omega)
      have L5 := hnx.grown hg1 hnx.size (fun j hj => by cases hj; omega)
      have hc := add_any w.heap.size _ _ z w5 hwz (by omega) hpo5
      clear hpo hnx
      go_wp2_with fail
      refine hc.mono ?_
      rintro e' w6 ⟨rfl, hs6, ho⟩
      have hg6 : w5.grownBy w6 (some w.heap.size) := ⟨ho.os, ho.tape, ho.output, ho.size, fun k hk hne => ho.block k hk (by
        have : k ≠ w.heap.size := fun e => hne (by rw [e])
        omega)⟩
      have hrg6 := hrg1.kept hg6 (fun e => by have := Option.some.inj e; omega) (fun e => by have := Option.some.inj e; omega)
      have L6 := L5.trans (ho.below (Nat.le_refl _) (by have := hs1; omega))
      have z6 := ho.size
      clear hc hrg1 L5 hpo5 ho hg6
      go_wp2
      go_roundw
      case rel =>
        refine ⟨_, cnt1, _, hrg6, by omega, hs6.mono (by omega), fun q => ?_, L6, by omega⟩
        by_cases eq : q = z
        · subst eq; rw [sameKey_self, hfz]; simp
        · show (po q || decide (q = z)) = _
          rw [hA.out q, sameKey_ne (ik_ne eq)]; simp [eq]
      case measure => rw [hrg6.left_eq, hrg.left_eq]; exact hlt1

set_option maxRecDepth 100000 in
set_option maxHeartbeats 1000000 in
theorem sDomain_any (b0 b1 c0 c1 : Nat) (t hv : List Int) (w : World) (n0 : t.length ≤ 1048576) (n1 : hv.length ≤ 1048576) (o0 : OwnI w b0 t.length t t.length) (o1 : OwnI w b1 hv.length hv hv.length) :
    Calls Try.prog 37 #[.agg #[.slice (some ⟨b0, 0, none⟩) t.length c0, .slice (some ⟨b1, 0, none⟩) hv.length c1]] w fun e w' => ∃ a c, e = .returned (.slice a (domO t hv).length c) ∧ IntIn w' w.heap.size w'.heap.size a (domO t hv).length (domO t hv) ∧ Below w.heap.size w w' := by
  have B0 := Box.new w (.slice (some ⟨b0, 0, none⟩) t.length c0) (.slice (some ⟨b1, 0, none⟩) hv.length c1) 44
  have L0 : Below w.heap.size w (w.alloc (.cells #[.slice (some ⟨b0, 0, none⟩) t.length c0, .slice (some ⟨b1, 0, none⟩) hv.length c1] 44)) := (Below.refl _ _).alloc (Nat.le_refl _) _
  have hc := sStateOk_any b0 b1 c0 c1 t hv _ n0 n1 (by exact o0.alloc (.cells #[.slice (some ⟨b0, 0, none⟩) t.length c0, .slice (some ⟨b1, 0, none⟩) hv.length c1] 44)) (by exact o1.alloc _)
  replace o0 := o0.alloc (.cells #[.slice (some ⟨b0, 0, none⟩) t.length c0, .slice (some ⟨b1, 0, none⟩) hv.length c1] 44)
  replace o1 := o1.alloc (.cells #[.slice (some ⟨b0, 0, none⟩) t.length c0, .slice (some ⟨b1, 0, none⟩) hv.length c1] 44)
  go_enter Try.func37, Try.ntmps37
  go_wp2_with fail
  refine hc.mono ?_
  rintro e w1 ⟨rfl, hb⟩
  have B1 := B0.keep hb; have L1 := L0.trans (hb.mono L0.size)
  replace o0 := o0.keep hb
  replace o1 := o1.keep hb
  clear hc hb B0 L0
  have z0 := B1.c0; have z1 := B1.c1
  cases hs : sOk t hv
  · have HN : Hid (domO t hv = []) := if_neg (by rw [hs]; simp)
    go_wp2
    go_ret
    rw [HN.out]
    exact ⟨none, 0, rfl, ⟨rfl, .inl rfl⟩, L1⟩
  · obtain ⟨-, e7, -, hr⟩ := sOk_true hs
    have HR : Hid (∀ i, i < 7 → -1 ≤ hv.getD i 0 ∧ hv.getD i 0 ≤ 6) := hr
    have E7 : Hid (hv.length = 7) := e7
    have HN : Hid (domO t hv = ascL (domP hv) 7) := if_pos hs
    clear hr e7 hs z0
    obtain ⟨i0, hi, hz0, hz1, hz2⟩ := Try.i3
    have b1l := o1.1
    have ab := B1.lt
    go_wp2
    go_loopw [3, 4] (fun v i wr => ∃ k : Nat, k ≤ 7 ∧ i = .int .i64 k ∧ wr.ownsRow w1.heap.size 3 1 v (ascL (domP hv) k).length (ic (ascL (domP hv) k)) ∧ Below w1.heap.size w1 wr) (fun _ i _ => 7 - (intOf i).toNat)
    case atStart => exact ⟨0, by omega, rfl, World.ownsRow_nil _ _ _ _, Below.refl _ _⟩
    case round =>
      obtain ⟨k, hk, rfl, hown, hbw⟩ := hrel
      have B2 := B1.below hbw ab
      have zz1 := B2.c1
      by_cases hlt : k < 7
      · have hx := (o1.below hbw b1l).2.2 k (by have := E7.out; omega)
        have hy := HR.out k hlt
        have HK : Hid (domP hv k = decide (hv.getD k 0 ≠ -1)) := domP_nat hlt
        have hle := ascL_len (domP hv) k
        have hkl : (k : Int) < (hv.length : Int) := by have := E7.out; omega
        obtain ⟨u, eu⟩ : ∃ u, Hid (hv.getD k 0 = u) := ⟨_, rfl⟩
        rw [eu.out] at hx hy HK
        by_cases c : 0 ≤ u
        · have HF : Hid (ascL (domP hv) (k + 1) = ascL (domP hv) k ++ [(k : Int)]) := ascL_yes (by rw [HK.out]; simp; omega)
          generalize ascL (domP hv) k = ls at *
          go_wp2_with (at_builtin; refine wpList_append_own _ rfl _ _ 39 rfl w1.heap.size 3 i0 (.int .i64 0) 1 8 Try.underlying39 hi hz0 hz1 hz2 rfl (by decide) _ _ _ rfl (hown.alloc _) ⟨wr.heap.size, 0, none⟩ 1 1 [.int .i64 k] rfl rfl ?c1 ?c2 ?c3 ?c4 ?c5 ?_)
          try case c1 =>
            intro j u hj
            match j, hj with
            | 0, hj => simp at hj; subst hj; simp [Addr.add]
          try case c2 => first | rfl | (intro u hu; simp at hu; subst hu; rfl)
          case c3 => unfold maxLen; omega
          case c4 => omega
          case c5 => have := hbw.size; simp; omega
          · intro v' w4 hown' hg hiff
            have hb2 := (hbw.alloc hbw.size _).grown hg (Nat.le_trans hbw.size (by simp)) (by intro q hq; exact (hown.lt q hq).1)
            clear hiff hg hown hbw
            go_wp2
            first
              | (go_roundw
                 case rel => exact ⟨k + 1, by omega, by go_num, by rw [HF.out]; simpa [ic] using hown', hb2⟩
                 case measure => simp [intOf]; omega)
              | ((repeat apply Exists.intro); exact ⟨⟨k + 1, by omega, by go_num, by rw [HF.out]; simpa [ic] using hown', hb2⟩, rfl⟩)
        · have HF : Hid (ascL (domP hv) (k + 1) = ascL (domP hv) k) := ascL_no (by rw [HK.out]; simp; omega)
          go_wp2
          go_roundw
          case rel => exact ⟨k + 1, by omega, by go_num, by rw [HF.out]; exact hown, hbw⟩
          case measure => simp [intOf]; omega
      · obtain rfl : k = 7 := by omega
        have h7l : ¬ ((7 : Int) < (hv.length : Int)) := by have := E7.out; omega
        obtain ⟨a, c, rfl, hin⟩ := IntIn.ofOwns hown
        have L2 := L1.trans (hbw.mono L1.size)
        go_wp2
        go_ret
        rw [HN.out]
        first
          | exact ⟨a, c, rfl, hin.mono L1.size (Nat.le_refl _), L2⟩
          | exact ⟨a, ⟨c, rfl⟩, hin.mono L1.size (Nat.le_refl _), L2⟩

set_option maxRecDepth 100000 in
set_option maxHeartbeats 1000000 in
theorem iDomain_any (b0 b1 c0 c1 : Nat) (t hv : List Int) (w : World) (n0 : t.length ≤ 1048576) (n1 : hv.length ≤ 1048576) (o0 : OwnI w b0 t.length t t.length) (o1 : OwnI w b1 hv.length hv hv.length) :
    Calls Try.prog 38 #[.agg #[.slice (some ⟨b0, 0, none⟩) t.length c0, .slice (some ⟨b1, 0, none⟩) hv.length c1]] w fun e w' => ∃ a c, e = .returned (.slice a (domO t hv).length c) ∧ IntIn w' w.heap.size w'.heap.size a (domO t hv).length (domO t hv) ∧ Below w.heap.size w w' := by
  have B0 := Box.new w (.slice (some ⟨b0, 0, none⟩) t.length c0) (.slice (some ⟨b1, 0, none⟩) hv.length c1) 44
  have L0 : Below w.heap.size w (w.alloc (.cells #[.slice (some ⟨b0, 0, none⟩) t.length c0, .slice (some ⟨b1, 0, none⟩) hv.length c1] 44)) := (Below.refl _ _).alloc (Nat.le_refl _) _
  have hc := iStateOk_any b0 b1 c0 c1 t hv _ n0 n1 (by exact o0.alloc (.cells #[.slice (some ⟨b0, 0, none⟩) t.length c0, .slice (some ⟨b1, 0, none⟩) hv.length c1] 44)) (by exact o1.alloc _)
  replace o0 := o0.alloc (.cells #[.slice (some ⟨b0, 0, none⟩) t.length c0, .slice (some ⟨b1, 0, none⟩) hv.length c1] 44)
  replace o1 := o1.alloc (.cells #[.slice (some ⟨b0, 0, none⟩) t.length c0, .slice (some ⟨b1, 0, none⟩) hv.length c1] 44)
  go_enter Try.func38, Try.ntmps38
  go_wp2_with fail
  refine hc.mono ?_
  rintro e w1 ⟨rfl, hb⟩
  have B1 := B0.keep hb; have L1 := L0.trans (hb.mono L0.size)
  replace o0 := o0.keep hb
  replace o1 := o1.keep hb
  clear hc hb B0 L0
  have z0 := B1.c0; have z1 := B1.c1
  cases hs : sOk t hv
  · have HN : Hid (domO t hv = []) := if_neg (by rw [hs]; simp)
    go_wp2
    go_ret
    rw [HN.out]
    exact ⟨none, 0, rfl, ⟨rfl, .inl rfl⟩, L1⟩
  · have E7 : Hid (hv.length = 7) := (sOk_true hs).2.1
    have HN : Hid (domO t hv = ascL (domP hv) 7) := if_pos hs
    have h2 := heapOf_any b1 c1 hv w1 n1 (sOk_heap hs) (by exact o1)
    clear hs
    go_wp2_with fail
    refine h2.mono ?_
    rintro e w2 ⟨rfl, hm, hb⟩
    have L2 := L1.trans (hb.mono L1.size)
    rw [E7.out] at hm
    clear h2 hb B1 z0 z1 L1 o0 o1
    go_wp2_with fail
    refine (domain_any _ 7 _ _ (by omega) hm).mono ?_
    rintro e w3 ⟨rfl, hs3, hb⟩
    have L3 := L2.trans (hb.mono L2.size)
    clear hb L2 hm
    go_wp2_with fail
    refine (asc_any _ 7 (domP hv) _ (by omega) domP_in hs3).mono ?_
    rintro e w4 ⟨a, c, rfl, hin, hb⟩
    have L4 := L3.trans (hb.mono L3.size)
    replace hin := hin.mono L3.size (Nat.le_refl _)
    clear hb L3 hs3
    go_wp2
    go_ret
    rw [HN.out]
    exact ⟨a, c, rfl, hin, L4⟩

end Go.Proofs.Ytokdhbegkbilbaa
