/-
  The contract of impl.Grow.
-/
import Derived.Test.YtagcbnngacealaaGr
import Derived.Test.YtagcbnngacealaaAp
namespace Go.Proofs.Ytagcbnngacealaa
open Go.RowKit Go.Maps

theorem ext7 {l m : List Int} (hl : l.length = 7) (hm : m.length = 7) (e : ∀ i, i < 7 → l.getD i 0 = m.getD i 0) : l = m := by
  refine List.ext_getElem (by omega) fun i h1 h2 => ?_
  have := e i (by omega)
  simpa [h1, h2] using this

theorem hp_getD (hv : List Int) {i : Nat} (hi : i < 7) : (hp hv 7 i).getD (-1) = hv.getD i 0 := by
  unfold hp
  rw [Int.toNat_natCast]
  by_cases e : hv.getD i 0 = -1
  · rw [if_neg (fun q => q.2.2 e), e]; rfl
  · rw [if_pos ⟨by omega, by omega, e⟩]; rfl

theorem growO_len (t hv : List Int) (x y : Int) : ((growO t hv x y).getD []).length ≤ 7 := by
  unfold growO
  split
  · rename_i q
    have := (sOk_true q.1).2.1
    simp [growL]; omega
  · simp
theorem tOf_len (t : List Int) (R : Option (List Int)) : (tOf t R).length ≤ t.length := by
  unfold tOf
  split <;> simp

set_option maxRecDepth 100000 in
set_option maxHeartbeats 2000000 in
theorem iGrow_any (b0 b1 c0 c1 : Nat) (t hv : List Int) (x y : Int) (w : World) (n0 : t.length ≤ 1048576) (n1 : hv.length ≤ 1048576) (o0 : OwnI w b0 t.length t t.length) (o1 : OwnI w b1 hv.length hv hv.length) :
    Calls Try.prog 59 #[.agg #[.slice (some ⟨b0, 0, none⟩) t.length c0, .slice (some ⟨b1, 0, none⟩) hv.length c1], .int .i64 x, .int .i64 y] w (SPost t (growO t hv x y) w) := by
  have B0 := (Box.new w (.slice (some ⟨b0, 0, none⟩) t.length c0) (.slice (some ⟨b1, 0, none⟩) hv.length c1) 44).alloc (.cells #[.slice none 0 0, .slice none 0 0] 44)
  have R0 := Box.new (w.alloc (.cells #[.slice (some ⟨b0, 0, none⟩) t.length c0, .slice (some ⟨b1, 0, none⟩) hv.length c1] 44)) (.slice none 0 0) (.slice none 0 0) 44
  have L0 : Below w.heap.size w ((w.alloc (.cells #[.slice (some ⟨b0, 0, none⟩) t.length c0, .slice (some ⟨b1, 0, none⟩) hv.length c1] 44)).alloc (.cells #[.slice none 0 0, .slice none 0 0] 44)) := ((Below.refl _ _).alloc (Nat.le_refl _) _).alloc (by simp) _
  rw [World.size_alloc] at R0
  have hc := iStateOk_any b0 b1 c0 c1 t hv _ n0 n1 (by exact o0.keep L0) (by exact o1.keep L0)
  replace o0 := o0.keep L0
  replace o1 := o1.keep L0
  go_enter Try.func59, Try.ntmps59
  go_wp2_with fail
  refine hc.mono ?_
  rintro e w1 ⟨rfl, hb⟩
  have B1 := B0.keep hb; have R1 := R0.keep hb; have L1 := L0.trans (hb.mono L0.size)
  replace o0 := o0.keep hb
  replace o1 := o1.keep hb
  clear hc hb B0 L0 R0
  have z0 := B1.c0; have z1 := B1.c1
  have y0 := R1.c0; have y1 := R1.c1; have f0 := R1.f0; have f1 := R1.f1
  cases hs : sOk t hv
  · have HN : Hid (growO t hv x y = none) := if_neg (by rw [hs]; simp)
    have RR := (R1.set0 (.slice none 0 0)).set1 (.slice none 0 0)
    have i0 := RR.c0; have i1 := RR.c1
    have LL := Below.set (Below.set L1 (w.heap.size + 1) 0 (by omega) (.slice none 0 0)) (w.heap.size + 1) 1 (by omega) (.slice none 0 0)
    go_wp2
    exact bodyPost_ret (v := .tuple #[.agg #[.slice none 0 0, .slice none 0 0], .bool false]) (by simp [results, Try.results59, go_sem, i0, i1]) rfl (spost_none HN.out LL)
  · obtain ⟨⟨e16, -, -⟩, e7, e0, hr⟩ := sOk_true hs
    have HR : Hid (∀ i, i < 7 → -1 ≤ hv.getD i 0 ∧ hv.getD i 0 ≤ 6) := hr
    have E7 : Hid (hv.length = 7) := e7
    have E16 : Hid (t.length = 16) := e16
    clear hr e0 e7 e16
    have hx := addrOk_any x w1
    have hy := addrOk_any y w1
    by_cases q1 : 1 ≤ x ∧ x ≤ 6
    · rw [decide_eq_true q1] at hx
      by_cases q2 : 1 ≤ y ∧ y ≤ 6
      · rw [decide_eq_true q2] at hy
        have h2 := heapOf_any b1 c1 hv w1 n1 (sOk_heap hs) (by exact o1)
        obtain ⟨a, rfl⟩ : ∃ a : Nat, x = a := ⟨x.toNat, by omega⟩
        obtain ⟨b, rfl⟩ : ∃ b : Nat, y = b := ⟨y.toNat, by omega⟩
        have Q1 : Hid (1 ≤ (a : Int) ∧ (a : Int) ≤ 6) := q1
        have Q2 : Hid (1 ≤ (b : Int) ∧ (b : Int) ≤ 6) := q2
        have wa : (Lit.int .i64 (a : Int)).wf = true := WalkArith.wf_i64 (by omega)
        have wb : (Lit.int .i64 (b : Int)).wf = true := WalkArith.wf_i64 (by omega)
        clear q1 q2
        go_wp2_with fail
        refine hx.mono ?_
        rintro e w1 ⟨rfl, rfl⟩
        go_wp2_with fail
        refine hy.mono ?_
        rintro e w1 ⟨rfl, rfl⟩
        go_wp2_with fail
        refine h2.mono ?_
        rintro e w2 ⟨rfl, hm, hb⟩
        have B2 := B1.keep hb; have R2 := R1.keep hb; have L2 := L1.trans (hb.mono L1.size)
        have rl := R1.lt
        have o0l := o0.1
        replace o0 := o0.keep hb
        rw [E7.out] at hm
        clear hx hy h2 hb B1 R1 z0 z1 y0 y1 f0 f1 o1
        generalize w1.heap.size = bm at *
        have y0 := R2.c0; have y1 := R2.c1; have f0 := R2.f0; have f1 := R2.f1
        have t1 := there_any bm 7 _ a w2 wa hm
        have t2 := there_any bm 7 _ b w2 wb hm
        cases ea : hp hv 7 a with
        | none =>
          have HN : Hid (growO t hv a b = none) := if_neg (by
            rw [Int.toNat_natCast]
            intro q
            rw [hp_at (by have := Q1.out; omega) q.2.2.2.1] at ea
            cases ea)
          rw [ea] at t1
          go_wp2_with fail
          refine t1.mono ?_
          rintro e w2 ⟨rfl, rfl⟩
          have L1 := L2; have R1 := R2
          clear L2 R2
          have RR := (R1.set0 (.slice none 0 0)).set1 (.slice none 0 0)
          have i0 := RR.c0; have i1 := RR.c1
          have LL := Below.set (Below.set L1 (w.heap.size + 1) 0 (by omega) (.slice none 0 0)) (w.heap.size + 1) 1 (by omega) (.slice none 0 0)
          go_wp2
          exact bodyPost_ret (v := .tuple #[.agg #[.slice none 0 0, .slice none 0 0], .bool false]) (by simp [results, Try.results59, go_sem, i0, i1]) rfl (spost_none HN.out LL)
        | some u =>
          rw [ea] at t1
          cases eb : hp hv 7 b with
          | some v =>
            have HN : Hid (growO t hv a b = none) := if_neg (by
              rw [Int.toNat_natCast, Int.toNat_natCast]
              intro q
              obtain ⟨i, hi, -, h3, h4⟩ := hp_some eb
              obtain rfl : b = i := by omega
              exact h4 (by rw [← h3]; exact q.2.2.2.2))
            rw [eb] at t2
            go_wp2_with fail
            refine t1.mono ?_
            rintro e w2 ⟨rfl, rfl⟩
            go_wp2_with fail
            refine t2.mono ?_
            rintro e w2 ⟨rfl, rfl⟩
            have L1 := L2; have R1 := R2
            clear L2 R2
            have RR := (R1.set0 (.slice none 0 0)).set1 (.slice none 0 0)
            have i0 := RR.c0; have i1 := RR.c1
            have LL := Below.set (Below.set L1 (w.heap.size + 1) 0 (by omega) (.slice none 0 0)) (w.heap.size + 1) 1 (by omega) (.slice none 0 0)
            go_wp2
            exact bodyPost_ret (v := .tuple #[.agg #[.slice none 0 0, .slice none 0 0], .bool false]) (by simp [results, Try.results59, go_sem, i0, i1]) rfl (spost_none HN.out LL)
          | none =>
            rw [eb] at t2
            obtain ⟨i, hi, hi7, h3, h4⟩ := hp_some ea
            obtain rfl : a = i := by omega
            have hbm1 : hv.getD b 0 = -1 := by
              by_cases e : hv.getD b 0 = -1
              · exact e
              · rw [hp_at (by have := Q2.out; omega) e] at eb; cases eb
            have HN : Hid (growO t hv a b = some (growL hv a b)) := by
              show growO t hv a b = _
              unfold growO
              rw [Int.toNat_natCast, Int.toNat_natCast, if_pos ⟨hs, Q1.out, Q2.out, by rw [h3]; exact h4, hbm1⟩]
            have EL : Hid (lst (fun q => if q = (a : Int) then some (b : Int) else (fun q => if q = (b : Int) then some u else hp hv 7 q) q) = growL hv a b) := by
              refine ext7 (lst_len _) (by simp [growL]; exact E7.out) fun i hi => ?_
              have e7 := E7.out
              rw [lst_at _ hi]
              unfold growL
              rw [getD_set _ _ _ _ (by simp; omega), getD_set _ _ _ _ (by have := Q2.out; omega), h3]
              by_cases q1 : i = a
              · subst q1; simp
              · rw [if_neg q1, if_neg (by omega)]
                by_cases q2 : i = b
                · subst q2; simp
                · rw [if_neg q2]
                  simp only [if_neg (show ¬ ((i : Int) = (b : Int)) by omega)]
                  exact hp_getD hv hi
            have hru : -1 ≤ u ∧ u ≤ 6 := by have := HR.out a hi7; rw [h3] at this; exact this
            have HEA : Hid (hp hv 7 a = some u) := ea
            clear ea eb hi h3 h4 hbm1
            go_wp2_with fail
            refine t1.mono ?_
            rintro e w2 ⟨rfl, rfl⟩
            obtain ⟨Dm, hown, hf⟩ := hm
            have HF : Hid (∀ x, (hp hv 7 x = none → Maps.has Dm (ik x) = false) ∧ ∀ y, hp hv 7 x = some y → Maps.has Dm (ik x) = true ∧ ∀ z, Dm.atKey (ik x) z = .lit (.int .i64 y)) := hf
            have HA : Hid (∀ z, Dm.atKey (ik a) z = .lit (.int .i64 u)) := ((hf a).2 u HEA.out).2
            clear hf t1
            have tok : True := trivial
            go_wp2_with (first
              | (go_at_call 95; refine t2.mono ?_; rintro e w2 ⟨rfl, rfl⟩)
              | (at_lookup; refine wpList_lookup_own_int _ rfl _ _ 90 rfl 3 3 .i64 law3 Try.underlying90 Try.underlying3 (zero3 _) bm 7 _ rfl hown _ _ rfl (keyOf_int_mk Try.underlying3 wa) ?_; intro cc hat hwc; rw [HA.out] at hat; obtain rfl := (intv hat).symm)
              | (at_mapUpdate; have _t := tok; refine wpList_mapUpdate_own _ rfl _ _ _ 90 rfl 3 3 law3 Try.underlying90 _ bm 7 _ rfl hown (by unfold maxLen; omega) _ _ _ rfl rfl (keyOf_int_mk Try.underlying3 wb) _ [] (plainElem_int Try.underlying3 (WalkArith.wf_i64 (by omega))) ?_; intro w4 hown1 hgrow1; clear tok)
              | (at_mapUpdate; refine wpList_mapUpdate_own _ rfl _ _ _ 90 rfl 3 3 law3 Try.underlying90 _ bm 8 _ rfl hown1 (by unfold maxLen; omega) _ _ _ rfl rfl (keyOf_int_mk Try.underlying3 wa) _ [] (plainElem_int Try.underlying3 wb) ?_; intro w5 hown2 hgrow2; have B5 := (B2.out (grown_out hgrow1) (by omega)).out (grown_out hgrow2) (by omega); have z0 := B5.c0; have z1 := B5.c1)
              | fail)
            have HM5 : HM w5 bm 9 (fun q => if q = (a : Int) then some (b : Int) else (fun q => if q = (b : Int) then some u else hp hv 7 q) q) :=
              ⟨_, hown2, hm_put hown1.isMap (hm_put hown.isMap HF.out)⟩
            have hg := (grown_out hgrow1).trans (grown_out hgrow2)
            have R5 := R2.out hg (by omega)
            have L5 := L2.trans (hg.below (by omega) L2.size)
            have o5 := o0.out hg (by have := o0l; omega)
            clear y0 y1 f0 f1 R2 L2 o0 hown hown1 hown2 hgrow1 hgrow2 hg B2 HF HA t2
            refine (withHeap_any b0 b1 c0 c1 hv.length bm 9 t _ w5 n0 (by have := E16.out; omega) o5 HM5).mono ?_
            rintro e w6 ⟨d0, d1, g0, rfl, k0, k1, h0, h1, hb⟩
            have R6 := R5.keep hb; have L6 := L5.trans (hb.mono L5.size)
            have s5 := L5.size
            have rl5 := R5.lt
            clear hb R5 L5 B5 z0 z1 HM5 o5
            have y0 := R6.c0; have y1 := R6.c1; have f0 := R6.f0; have f1 := R6.f1
            have HR7 : Hid (Box _ (w.heap.size + 1) (.slice (some ⟨d0, 0, none⟩) t.length g0) (.slice (some ⟨d1, 0, none⟩) 7 7)) := (R6.set0 (.slice (some ⟨d0, 0, none⟩) t.length g0)).set1 (.slice (some ⟨d1, 0, none⟩) 7 7)
            have T7 := (h0.other (w.heap.size + 1) 0 (by omega) (.slice (some ⟨d0, 0, none⟩) t.length g0)).other (w.heap.size + 1) 1 (by omega) (.slice (some ⟨d1, 0, none⟩) 7 7)
            have P7 := (h1.other (w.heap.size + 1) 0 (by omega) (.slice (some ⟨d0, 0, none⟩) t.length g0)).other (w.heap.size + 1) 1 (by omega) (.slice (some ⟨d1, 0, none⟩) 7 7)
            have L7 := Below.set (Below.set L6 (w.heap.size + 1) 0 (by omega) (.slice (some ⟨d0, 0, none⟩) t.length g0)) (w.heap.size + 1) 1 (by omega) (.slice (some ⟨d1, 0, none⟩) 7 7)
            clear R6 L6 h0 h1
            go_wp2
            have i0 := HR7.out.c0; have i1 := HR7.out.c1
            refine bodyPost_ret (v := .tuple #[.agg #[.slice (some ⟨d0, 0, none⟩) t.length g0, .slice (some ⟨d1, 0, none⟩) 7 7], .bool true]) ?_ rfl ?_
            · simp [results, Try.results59, go_sem, i0, i1]
            · rw [EL.out] at P7
              exact (spost_some HN.out (by rw [← EL.out]; exact lst_len _) (by omega) k1 T7 P7 L7)
      · rw [decide_eq_false q2] at hy
        have HN : Hid (growO t hv x y = none) := if_neg (fun q => q2 q.2.2.1)
        go_wp2_with fail
        refine hx.mono ?_
        rintro e w1 ⟨rfl, rfl⟩
        go_wp2_with fail
        refine hy.mono ?_
        rintro e w1 ⟨rfl, rfl⟩
        have RR := (R1.set0 (.slice none 0 0)).set1 (.slice none 0 0)
        have i0 := RR.c0; have i1 := RR.c1
        have LL := Below.set (Below.set L1 (w.heap.size + 1) 0 (by omega) (.slice none 0 0)) (w.heap.size + 1) 1 (by omega) (.slice none 0 0)
        go_wp2
        exact bodyPost_ret (v := .tuple #[.agg #[.slice none 0 0, .slice none 0 0], .bool false]) (by simp [results, Try.results59, go_sem, i0, i1]) rfl (spost_none HN.out LL)
    · rw [decide_eq_false q1] at hx
      have HN : Hid (growO t hv x y = none) := if_neg (fun q => q1 q.2.1)
      go_wp2_with fail
      refine hx.mono ?_
      rintro e w1 ⟨rfl, rfl⟩
      have RR := (R1.set0 (.slice none 0 0)).set1 (.slice none 0 0)
      have i0 := RR.c0; have i1 := RR.c1
      have LL := Below.set (Below.set L1 (w.heap.size + 1) 0 (by omega) (.slice none 0 0)) (w.heap.size + 1) 1 (by omega) (.slice none 0 0)
      go_wp2
      exact bodyPost_ret (v := .tuple #[.agg #[.slice none 0 0, .slice none 0 0], .bool false]) (by simp [results, Try.results59, go_sem, i0, i1]) rfl (spost_none HN.out LL)

end Go.Proofs.Ytagcbnngacealaa
