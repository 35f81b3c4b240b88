/-
  The contracts of maps.Copy at heaps, of spec.Union and impl.Union.
-/
import Derived.Test.YtagcbnngacealaaSoI
namespace Go.Proofs.Ytagcbnngacealaa
open Go.RowKit Go.Maps

set_option maxHeartbeats 2000000 in
theorem copy_any (bd N bs M : Nat) (f g : Int → Option Int) (w : World) (hN : N ≤ 1048576) (hM : M ≤ 1048576) (hne : bd ≠ bs) (hd : HM w bd N f) (hs : HM w bs M g) :
    Calls Try.prog 97 #[.map (some bd), .map (some bs)] w fun e w' => e = .returned (.tuple #[]) ∧ HM w' bd (N + M) (fun q => if (g q).isSome = true then g q else f q) ∧ Out bd (bd + 1) w w' := by
  have hbd := hd.lt
  have hbs := hs.lt
  obtain ⟨Dx, hown, hf⟩ := hs
  have hsz := hown.size_le
  have HF : Hid (∀ z, (g z = none → Maps.has Dx (ik z) = false) ∧ ∀ y, g z = some y → Maps.has Dx (ik z) = true ∧ ∀ d, Dx.atKey (ik z) d = .lit (.int .i64 y)) := hf
  clear hf
  go_enter Try.func97, Try.ntmps97
  go_wp2_with (first
    | (at_range; refine wpList_range_own _ rfl _ 90 rfl 3 3 law3 Try.underlying90 _ bs M _ rfl hown ?_; intro w4 hrg0 hg0 hs0)
    | go_in)
  go_frame
  have k0 := (Below.refl w.heap.size w).grown hg0 (Nat.le_refl _) (fun j hj => by cases hj)
  replace hd := hd.keep k0
  have O0 : Out bd (bd + 1) w w4 := Out.ofBelow k0
  go_loopw [4, 5] (fun _ _ wr => ∃ (left : Lit → Bool) (cnt : Nat) (fo : Int → Option Int), wr.ranges Try.prog 3 (plainElem Try.prog 3) bs w.heap.size M Dx left cnt ∧ cnt ≤ Maps.size Dx ∧ HM wr bd (N + (Maps.size Dx - cnt)) fo ∧
      Hid (∀ q, fo q = if (g q).isSome = true ∧ left (ik q) = false then g q else f q) ∧ Out bd (bd + 1) w wr)
    (fun _ _ wr => wr.rangeLeft bs w.heap.size)
  case atStart => exact ⟨_, _, _, hrg0, Nat.le_refl _, by simpa using hd, fun q => by
    cases e : g q with
    | none => simp
    | some v => rw [((HF.out q).2 v e).1]; simp, O0⟩
  case round =>
    clear hd O0 hrg0 hown k0
    obtain ⟨left, cnt, fo, hrg, hcs, hfo, hA, hO⟩ := hrel
    go_wp2_with (first
      | (at_next; refine wpList_next_ranges_ii _ rfl _ rfl 3 3 .i64 .i64 law3 Try.underlying3 Try.underlying3 bs w.heap.size M _ _ _ rfl hrg ?_ ?_)
      | go_in)
    · intro hc0 hl0
      go_wp2
      go_end0
      have e : fo = fun q => if (g q).isSome = true then g q else f q := by
        funext q
        rw [hA.out q, hl0]
        simp
      rw [e] at hfo
      exact ⟨rfl, hfo.mono (by omega), hO⟩
    · intro z v w5 cnt1 hwz hwv hlz hat hrg1 hlt1 hg1 hs1 hen
      have hfz : g z = some v := by
        cases e : g z with
        | some u =>
          have := ((HF.out z).2 u e).2 (.lit (.int .i64 0))
          rw [hat] at this
          rw [intv this]
        | none =>
          have q := (HF.out z).1 e
          rw [has_true_of_atKey hat] at q
          cases q
      obtain ⟨Do, howno, hfd⟩ := hfo.out (grown_out hg1) (by omega)
      have HO : Hid (∀ x, (fo x = none → Maps.has Do (ik x) = false) ∧ ∀ y, fo x = some y → Maps.has Do (ik x) = true ∧ ∀ z, Do.atKey (ik x) z = .lit (.int .i64 y)) := hfd
      have hO1 : Out bd (bd + 1) w w5 := ⟨hg1.os.trans hO.os, hg1.tape.trans hO.tape, hg1.output.trans hO.output, Nat.le_trans hO.size hg1.size, fun k hk hr => (hg1.block k (Nat.lt_of_lt_of_le hk hO.size) (fun e => by have := Option.some.inj e; omega)).trans (hO.block k hk hr)⟩
      clear hfo hfd
      go_wp2_with (first
        | (at_mapUpdate; refine wpList_mapUpdate_own _ rfl _ _ _ 90 rfl 3 3 law3 Try.underlying90 _ bd _ _ rfl howno (by unfold maxLen; omega) _ _ _ rfl rfl (keyOf_int_mk Try.underlying3 hwz) _ [] (plainElem_int Try.underlying3 hwv) ?_; intro w7 hown7 hg7; go_frame)
        | go_in)
      have hrg7 := hrg1.kept hg7 (fun e => hne (Option.some.inj e).symm) (fun e => by have := Option.some.inj e; omega)
      have hfo7 : HM w7 bd (N + (Maps.size Dx - cnt) + 1) (fun q => if q = z then some v else fo q) := ⟨_, hown7, hm_put howno.isMap HO.out⟩
      have hO7 := hO1.trans (grown_out hg7)
      go_roundw
      case rel =>
        refine ⟨_, cnt1, _, hrg7, by omega, hfo7.mono (by omega), fun q => ?_, hO7⟩
        by_cases eq : q = z
        · subst eq; rw [sameKey_self, hfz]; simp
        · rw [if_neg eq, hA.out q, sameKey_ne (ik_ne eq)]; simp
      case measure => rw [hrg7.left_eq, hrg.left_eq]; exact hlt1

def unL (hv al : List Int) (k : Nat) : List Int := (List.range 7).map fun (i : Nat) => if i < k ∧ 0 ≤ al.getD i 0 then al.getD i 0 else hv.getD i 0
theorem unL_len (hv al : List Int) (k : Nat) : (unL hv al k).length = 7 := by simp [unL]
theorem unL_at (hv al : List Int) (k : Nat) {i : Nat} (hi : i < 7) : (unL hv al k).getD i 0 = if i < k ∧ 0 ≤ al.getD i 0 then al.getD i 0 else hv.getD i 0 := by simp [unL, hi]
theorem unL_zero {hv al : List Int} (h7 : hv.length = 7) : unL hv al 0 = hv := ext7 (unL_len _ _ _) h7 fun i hi => by rw [unL_at _ _ _ hi, if_neg (by omega)]
theorem unL_no {hv al : List Int} {k : Nat} (h : ¬ 0 ≤ al.getD k 0) : unL hv al (k + 1) = unL hv al k := ext7 (unL_len _ _ _) (unL_len _ _ _) fun i hi => by
  rw [unL_at _ _ _ hi, unL_at _ _ _ hi]
  by_cases e : i = k
  · subst e; rw [if_neg (fun q => h q.2), if_neg (by omega)]
  · by_cases c : i < k ∧ 0 ≤ al.getD i 0
    · rw [if_pos c, if_pos ⟨by omega, c.2⟩]
    · rw [if_neg c, if_neg (fun q => c ⟨by omega, q.2⟩)]
theorem unL_yes {hv al : List Int} {k : Nat} {u : Int} (e0 : al.getD k 0 = u) (h : 0 ≤ u) : ∀ i, i < 7 → (unL hv al (k + 1)).getD i 0 = if i = k then u else (unL hv al k).getD i 0 := fun i hi => by
  rw [unL_at _ _ _ hi, unL_at _ _ _ hi]
  by_cases e : i = k
  · subst e; rw [e0, if_pos ⟨by omega, h⟩, if_pos rfl]
  · rw [if_neg e]
    by_cases c : i < k ∧ 0 ≤ al.getD i 0
    · rw [if_pos c, if_pos ⟨by omega, c.2⟩]
    · rw [if_neg c, if_neg (fun q => c ⟨by omega, q.2⟩)]

theorem union_lst {hv al : List Int} (hr : ∀ i, i < 7 → -1 ≤ al.getD i 0 ∧ al.getD i 0 ≤ 6) : lst (fun q => if (hp al 7 q).isSome = true then hp al 7 q else hp hv 7 q) = unL hv al 7 :=
  ext7 (lst_len _) (unL_len _ _ _) fun i hi => by
    rw [lst_at _ hi, unL_at _ _ _ hi]
    have key : ∀ l : List Int, hp l 7 i = if l.getD i 0 ≠ -1 then some (l.getD i 0) else none := fun l => by
      unfold hp
      rw [Int.toNat_natCast]
      by_cases e : l.getD i 0 = -1
      · rw [if_neg (fun q => q.2.2 e), if_neg (fun q => q e)]
      · rw [if_pos ⟨by omega, by omega, e⟩, if_pos e]
    show (if (hp al 7 i).isSome = true then hp al 7 i else hp hv 7 i).getD (-1) = _
    by_cases e : al.getD i 0 = -1
    · have e1 : hp al 7 i = none := by rw [key al, if_neg (fun q => q e)]
      rw [e1, if_neg (by simp), if_neg (fun q => by rw [e] at q; omega)]
      by_cases e2 : hv.getD i 0 = -1
      · rw [key hv, if_neg (fun q => q e2), e2]; rfl
      · rw [key hv, if_pos e2]; rfl
    · have e1 : hp al 7 i = some (al.getD i 0) := by rw [key al, if_pos e]
      have := hr i hi
      rw [e1, if_pos (by simp), if_pos ⟨hi, by omega⟩]; rfl

def unionO (t hv al : List Int) : Option (List Int) := if sOk t hv = true ∧ hOk al = true ∧ apB hv al = true then some (unL hv al 7) else none
theorem unionO_len (t hv al : List Int) : ((unionO t hv al).getD []).length ≤ 7 := by
  unfold unionO
  split
  · simp [unL_len]
  · simp
theorem sOk_hOk {t hv : List Int} (h : sOk t hv = true) : hOk hv = true := by
  unfold sOk at h
  simp only [Bool.and_eq_true] at h
  exact h.2

set_option maxRecDepth 100000 in
set_option maxHeartbeats 1000000 in
theorem sUnion_any (b0 b1 c0 c1 : Nat) (t hv : List Int) (b2 c2 : Nat) (al : List Int) (w : World) (n2 : al.length ≤ 1048576) (o2 : OwnI w b2 al.length al al.length) (n0 : t.length ≤ 1048576) (n1 : hv.length ≤ 1048576) (o0 : OwnI w b0 t.length t t.length) (o1 : OwnI w b1 hv.length hv hv.length) :
    Calls Try.prog 47 #[.agg #[.slice (some ⟨b0, 0, none⟩) t.length c0, .slice (some ⟨b1, 0, none⟩) hv.length c1], .slice (some ⟨b2, 0, none⟩) al.length c2] w (SPost t (unionO t hv al) w) := by
  have b2l := o2.1
  have B0 := (Box.new w (.slice (some ⟨b0, 0, none⟩) t.length c0) (.slice (some ⟨b1, 0, none⟩) hv.length c1) 44).alloc (.cells #[.slice none 0 0, .slice none 0 0] 44)
  have R0 := Box.new (w.alloc (.cells #[.slice (some ⟨b0, 0, none⟩) t.length c0, .slice (some ⟨b1, 0, none⟩) hv.length c1] 44)) (.slice none 0 0) (.slice none 0 0) 44
  have L0 : Below w.heap.size w ((w.alloc (.cells #[.slice (some ⟨b0, 0, none⟩) t.length c0, .slice (some ⟨b1, 0, none⟩) hv.length c1] 44)).alloc (.cells #[.slice none 0 0, .slice none 0 0] 44)) := ((Below.refl _ _).alloc (Nat.le_refl _) _).alloc (by simp) _
  rw [World.size_alloc] at R0
  have hc := sStateOk_any b0 b1 c0 c1 t hv _ n0 n1 (by exact o0.keep L0) (by exact o1.keep L0)
  replace o0 := o0.keep L0
  replace o1 := o1.keep L0
  go_enter Try.func47, Try.ntmps47
  go_wp2_with fail
  refine hc.mono ?_
  rintro e w1 ⟨rfl, hb⟩
  have B1 := B0.keep hb; have R1 := R0.keep hb; have L1 := L0.trans (hb.mono L0.size)
  replace o0 := o0.keep hb
  replace o1 := o1.keep hb
  clear hc hb B0 L0 R0
  have z0 := B1.c0; have z1 := B1.c1
  have y0 := R1.c0; have y1 := R1.c1; have f0 := R1.f0; have f1 := R1.f1
  replace o2 := o2.below L1 b2l
  cases hs : sOk t hv
  · have HN : Hid (unionO t hv al = none) := if_neg (by rw [hs]; simp)
    have RR := (R1.set0 (.slice none 0 0)).set1 (.slice none 0 0)
    have i0 := RR.c0; have i1 := RR.c1
    have LL := Below.set (Below.set L1 (w.heap.size + 1) 0 (by omega) (.slice none 0 0)) (w.heap.size + 1) 1 (by omega) (.slice none 0 0)
    go_wp2
    exact bodyPost_ret (v := .tuple #[.agg #[.slice none 0 0, .slice none 0 0], .bool false]) (by simp [results, Try.results47, go_sem, i0, i1]) rfl (spost_none HN.out LL)
  · obtain ⟨⟨e16, -, -⟩, e7, -, -⟩ := sOk_true hs
    have E7 : Hid (hv.length = 7) := e7
    have E16 : Hid (t.length = 16) := e16
    clear e7 e16
    have hc := l2heap_any b2 c2 al w1 n2 o2
    cases q1 : hOk al
    · rw [q1] at hc
      have HN : Hid (unionO t hv al = none) := if_neg (by rw [q1]; simp)
      go_wp2_with fail
      refine hc.mono ?_
      rintro e w1 ⟨rfl, rfl⟩
      have RR := (R1.set0 (.slice none 0 0)).set1 (.slice none 0 0)
      have i0 := RR.c0; have i1 := RR.c1
      have LL := Below.set (Below.set L1 (w.heap.size + 1) 0 (by omega) (.slice none 0 0)) (w.heap.size + 1) 1 (by omega) (.slice none 0 0)
      go_wp2
      exact bodyPost_ret (v := .tuple #[.agg #[.slice none 0 0, .slice none 0 0], .bool false]) (by simp [results, Try.results47, go_sem, i0, i1]) rfl (spost_none HN.out LL)
    rw [q1] at hc
    have A7 : Hid (al.length = 7) := (hOk_true q1).1
    have AR : Hid (∀ i, i < 7 → -1 ≤ al.getD i 0 ∧ al.getD i 0 ≤ 6) := (hOk_true q1).2.2
    have hc2 := l2apart_any b1 b2 c1 c2 hv al w1 (sOk_hOk hs) q1 o1 o2
    cases q2 : apB hv al
    · rw [q2] at hc2
      have HN : Hid (unionO t hv al = none) := if_neg (by rw [q2]; simp)
      go_wp2_with fail
      refine hc.mono ?_
      rintro e w1 ⟨rfl, rfl⟩
      go_wp2_with fail
      refine hc2.mono ?_
      rintro e w1 ⟨rfl, rfl⟩
      have RR := (R1.set0 (.slice none 0 0)).set1 (.slice none 0 0)
      have i0 := RR.c0; have i1 := RR.c1
      have LL := Below.set (Below.set L1 (w.heap.size + 1) 0 (by omega) (.slice none 0 0)) (w.heap.size + 1) 1 (by omega) (.slice none 0 0)
      go_wp2
      exact bodyPost_ret (v := .tuple #[.agg #[.slice none 0 0, .slice none 0 0], .bool false]) (by simp [results, Try.results47, go_sem, i0, i1]) rfl (spost_none HN.out LL)
    rw [q2] at hc2
    have HN : Hid (unionO t hv al = some (unL hv al 7)) := if_pos ⟨hs, q1, q2⟩
    clear q1 q2 hs
    have hc3 := l2own_any b0 b1 c0 c1 t hv w1 n0 n1 (by have := E16.out; omega) (by have := E7.out; omega) o0 o1
    go_wp2_with fail
    refine hc.mono ?_
    rintro e w1 ⟨rfl, rfl⟩
    go_wp2_with fail
    refine hc2.mono ?_
    rintro e w1 ⟨rfl, rfl⟩
    have rl1 := R1.lt
    have s1 := L1.size
    go_wp2_with fail
    refine hc3.mono ?_
    rintro e w3 ⟨d0, d1, g0, g1, rfl, k0, k1, h0, h1, hb2⟩
    have R3 := R1.keep hb2; have L4 := L1.trans (hb2.mono L1.size)
    have o2l := o2.1
    replace o2 := o2.keep hb2
    clear hc hc2 hc3 hb2 B1 R1 z0 z1 y0 y1 f0 f1 o0 o1 L1
    have X3 := Box.new w3 (.slice (some ⟨d0, 0, none⟩) t.length g0) (.slice (some ⟨d1, 0, none⟩) hv.length g1) 44
    have bl : Below w3.heap.size w3 (w3.alloc (.cells #[.slice (some ⟨d0, 0, none⟩) t.length g0, .slice (some ⟨d1, 0, none⟩) hv.length g1] 44)) := (Below.refl _ _).alloc (Nat.le_refl _) _
    have hd1 := h1.1
    replace R3 := R3.keep bl; replace o2 := o2.keep bl; replace h0 := h0.keep bl; replace h1 := h1.keep bl; replace L4 := L4.trans (bl.mono L4.size)
    clear bl
    go_wp2
    generalize w3.heap.size = bX at *
    generalize (w3.alloc (.cells #[.slice (some ⟨d0, 0, none⟩) t.length g0, .slice (some ⟨d1, 0, none⟩) hv.length g1] 44)) = W4 at *
    have M0 : OwnI W4 d1 hv.length (unL hv al 0) hv.length := by rw [unL_zero E7.out]; exact h1
    clear h1
    go_loopw [7] (fun v wq => ∃ k : Nat, v = .int .i64 k ∧ k ≤ al.length ∧ OwnI wq d1 hv.length (unL hv al k) hv.length ∧ Out d1 (d1 + 1) W4 wq) (fun v _ => al.length - (intOf v).toNat)
    case atStart => exact ⟨0, rfl, by omega, M0, Out.refl _ _ _⟩
    case round =>
      clear M0
      obtain ⟨j, rfl, hj, hM, hQ⟩ := hrel
      by_cases hlt : j < al.length
      · have hjl : (j : Int) < (hv.length : Int) := by have := E7.out; have := A7.out; omega
        have hja : (j : Int) < (al.length : Int) := by omega
        have hx := (o2.out hQ (by omega)).2.2 j hlt
        have hX := X3.out hQ (by omega)
        have xx1 := hX.c1
        obtain ⟨u, eu⟩ : ∃ u, Hid (al.getD j 0 = u) := ⟨_, rfl⟩
        rw [eu.out] at hx
        by_cases cj : 0 ≤ u
        · have hM2 := hM.put j u (unL hv al (j + 1)) (fun i hi => unL_yes eu.out cj i (by have := E7.out; omega))
          have hQ2 := hQ.trans (Out.set d1 j wr (.int .i64 u))
          obtain ⟨vj, hvj⟩ := (hM.2.1 j (by omega)).1
          have hfz := (hM.2.1 j (by omega)).2
          clear hM hQ hX
          go_wp2
          go_region_with (fail)
          all_goals
            have hM3 := hM2.drew
            have hQ3 : Out d1 (d1 + 1) W4 (wr.setCell ⟨d1, j, none⟩ (.int .i64 u)).drew := hQ2.trans (Out.ofBelow (Below.refl _ _).drew)
            go_wp2
            go_roundw
            case rel => exact ⟨j + 1, by go_num, by omega, hM3, hQ3⟩
            case measure => simp [intOf]; omega
        · have EM : Hid (unL hv al (j + 1) = unL hv al j) := unL_no (by rw [eu.out]; exact cj)
          go_wp2
          go_roundw
          case rel => exact ⟨j + 1, by go_num, by omega, by rw [EM.out]; exact hM, hQ⟩
          case measure => simp [intOf]; omega
      · obtain rfl : j = al.length := by omega
        have hR := R3.out hQ (by omega)
        have hX := X3.out hQ (by omega)
        have xx0 := hX.c0; have xx1 := hX.c1
        have y0 := hR.c0; have y1 := hR.c1; have f0 := hR.f0; have f1 := hR.f1
        have HR7 : Hid (Box _ (w.heap.size + 1) (.slice (some ⟨d0, 0, none⟩) t.length g0) (.slice (some ⟨d1, 0, none⟩) hv.length g1)) := (hR.set0 (.slice (some ⟨d0, 0, none⟩) t.length g0)).set1 (.slice (some ⟨d1, 0, none⟩) hv.length g1)
        have T7 := ((h0.out hQ (by omega)).other (w.heap.size + 1) 0 (by omega) (.slice (some ⟨d0, 0, none⟩) t.length g0)).other (w.heap.size + 1) 1 (by omega) (.slice (some ⟨d1, 0, none⟩) hv.length g1)
        rw [A7.out] at hM
        have P7 := (hM.other (w.heap.size + 1) 0 (by omega) (.slice (some ⟨d0, 0, none⟩) t.length g0)).other (w.heap.size + 1) 1 (by omega) (.slice (some ⟨d1, 0, none⟩) hv.length g1)
        have L7 := Below.set (Below.set (L4.trans (hQ.below (by omega) L4.size)) (w.heap.size + 1) 0 (by omega) (.slice (some ⟨d0, 0, none⟩) t.length g0)) (w.heap.size + 1) 1 (by omega) (.slice (some ⟨d1, 0, none⟩) hv.length g1)
        clear hM hQ hR hX
        go_wp2
        have i0 := HR7.out.c0; have i1 := HR7.out.c1
        refine bodyPost_ret (v := .tuple #[.agg #[.slice (some ⟨d0, 0, none⟩) t.length g0, .slice (some ⟨d1, 0, none⟩) hv.length g1], .bool true]) ?_ rfl ?_
        · simp [results, Try.results47, go_sem, i0, i1]
        · exact (spost_some HN.out (by rw [unL_len]; exact E7.out.symm) (by omega) k1 T7 P7 L7)

set_option maxRecDepth 100000 in
set_option maxHeartbeats 1000000 in
theorem iUnion_any (b0 b1 c0 c1 : Nat) (t hv : List Int) (b2 c2 : Nat) (al : List Int) (w : World) (n2 : al.length ≤ 1048576) (o2 : OwnI w b2 al.length al al.length) (n0 : t.length ≤ 1048576) (n1 : hv.length ≤ 1048576) (o0 : OwnI w b0 t.length t t.length) (o1 : OwnI w b1 hv.length hv hv.length) :
    Calls Try.prog 48 #[.agg #[.slice (some ⟨b0, 0, none⟩) t.length c0, .slice (some ⟨b1, 0, none⟩) hv.length c1], .slice (some ⟨b2, 0, none⟩) al.length c2] w (SPost t (unionO t hv al) w) := by
  have b2l := o2.1
  have B0 := (Box.new w (.slice (some ⟨b0, 0, none⟩) t.length c0) (.slice (some ⟨b1, 0, none⟩) hv.length c1) 44).alloc (.cells #[.slice none 0 0, .slice none 0 0] 44)
  have R0 := Box.new (w.alloc (.cells #[.slice (some ⟨b0, 0, none⟩) t.length c0, .slice (some ⟨b1, 0, none⟩) hv.length c1] 44)) (.slice none 0 0) (.slice none 0 0) 44
  have L0 : Below w.heap.size w ((w.alloc (.cells #[.slice (some ⟨b0, 0, none⟩) t.length c0, .slice (some ⟨b1, 0, none⟩) hv.length c1] 44)).alloc (.cells #[.slice none 0 0, .slice none 0 0] 44)) := ((Below.refl _ _).alloc (Nat.le_refl _) _).alloc (by simp) _
  rw [World.size_alloc] at R0
  have hc := iStateOk_any b0 b1 c0 c1 t hv _ n0 n1 (by exact o0.keep L0) (by exact o1.keep L0)
  replace o0 := o0.keep L0
  replace o1 := o1.keep L0
  go_enter Try.func48, Try.ntmps48
  go_wp2_with fail
  refine hc.mono ?_
  rintro e w1 ⟨rfl, hb⟩
  have B1 := B0.keep hb; have R1 := R0.keep hb; have L1 := L0.trans (hb.mono L0.size)
  replace o0 := o0.keep hb
  replace o1 := o1.keep hb
  clear hc hb B0 L0 R0
  have z0 := B1.c0; have z1 := B1.c1
  have y0 := R1.c0; have y1 := R1.c1; have f0 := R1.f0; have f1 := R1.f1
  replace o2 := o2.below L1 b2l
  cases hs : sOk t hv
  · have HN : Hid (unionO t hv al = none) := if_neg (by rw [hs]; simp)
    have RR := (R1.set0 (.slice none 0 0)).set1 (.slice none 0 0)
    have i0 := RR.c0; have i1 := RR.c1
    have LL := Below.set (Below.set L1 (w.heap.size + 1) 0 (by omega) (.slice none 0 0)) (w.heap.size + 1) 1 (by omega) (.slice none 0 0)
    go_wp2
    exact bodyPost_ret (v := .tuple #[.agg #[.slice none 0 0, .slice none 0 0], .bool false]) (by simp [results, Try.results48, go_sem, i0, i1]) rfl (spost_none HN.out LL)
  · obtain ⟨⟨e16, -, -⟩, e7, -, -⟩ := sOk_true hs
    have E7 : Hid (hv.length = 7) := e7
    have E16 : Hid (t.length = 16) := e16
    clear e7 e16
    have hc := iApart_any b1 b2 c1 c2 hv al w1 n1 n2 o1 o2
    have HV : Hid (apV hv al = (hOk al && apB hv al)) := by show apV hv al = _; unfold apV; rw [sOk_hOk hs]; rfl
    cases q1 : hOk al && apB hv al
    · rw [HV.out, q1] at hc
      have HN : Hid (unionO t hv al = none) := if_neg (fun q => by rw [q.2.1, q.2.2] at q1; cases q1)
      go_wp2_with fail
      refine hc.mono ?_
      rintro e w2 ⟨rfl, hb⟩
      replace L1 := L1.trans (hb.mono L1.size); replace R1 := R1.keep hb
      clear y0 y1 f0 f1
      have y0 := R1.c0; have y1 := R1.c1; have f0 := R1.f0; have f1 := R1.f1
      have RR := (R1.set0 (.slice none 0 0)).set1 (.slice none 0 0)
      have i0 := RR.c0; have i1 := RR.c1
      have LL := Below.set (Below.set L1 (w.heap.size + 1) 0 (by omega) (.slice none 0 0)) (w.heap.size + 1) 1 (by omega) (.slice none 0 0)
      go_wp2
      exact bodyPost_ret (v := .tuple #[.agg #[.slice none 0 0, .slice none 0 0], .bool false]) (by simp [results, Try.results48, go_sem, i0, i1]) rfl (spost_none HN.out LL)
    rw [HV.out, q1] at hc
    have q2 : hOk al = true ∧ apB hv al = true := by simpa using q1
    have A7 : Hid (al.length = 7) := (hOk_true q2.1).1
    have HN : Hid (unionO t hv al = some (unL hv al 7)) := if_pos ⟨hs, q2.1, q2.2⟩
    have EL : Hid (lst (fun q => if (hp al 7 q).isSome = true then hp al 7 q else hp hv 7 q) = unL hv al 7) := union_lst (hOk_true q2.1).2.2
    have HA1 := sOk_heap hs
    have HA2 := hOk_all q2.1
    clear q1 q2 HV hs
    go_wp2_with fail
    refine hc.mono ?_
    rintro e w2 ⟨rfl, hb⟩
    have rl := R1.lt; have s1 := L1.size
    replace L1 := L1.trans (hb.mono L1.size); replace R1 := R1.keep hb; replace B1 := B1.keep hb
    replace o0 := o0.keep hb; replace o1 := o1.keep hb; replace o2 := o2.keep hb
    have s2 := hb.size
    have o0l := o0.1
    clear hb hc z0 z1 y0 y1 f0 f1
    have z1 := B1.c1
    have hc := heapOf_any b1 c1 hv w2 n1 HA1 o1
    go_wp2_with fail
    refine hc.mono ?_
    rintro e w3 ⟨rfl, hm, hb⟩
    replace L1 := L1.trans (hb.mono L1.size); replace R1 := R1.keep hb; replace B1 := B1.keep hb
    replace o0 := o0.keep hb; replace o2 := o2.keep hb
    have hm3 := hm.lt
    clear hb hc z1 o1
    have hc := heapOf_any b2 c2 al w3 n2 HA2 o2
    go_wp2_with fail
    refine hc.mono ?_
    rintro e w4 ⟨rfl, hm2, hb⟩
    replace L1 := L1.trans (hb.mono L1.size); replace R1 := R1.keep hb; replace B1 := B1.keep hb
    replace o0 := o0.keep hb; replace hm := hm.keep hb
    clear hb hc o2
    rw [E7.out] at hm
    rw [A7.out] at hm2
    have hc := copy_any w2.heap.size 7 w3.heap.size 7 _ _ w4 (by omega) (by omega) (by omega) hm hm2
    go_wp2_with fail
    refine hc.mono ?_
    rintro e w5 ⟨rfl, hm5, ho⟩
    have R5 := R1.out ho (by omega); have B5 := B1.out ho (by omega)
    have L5 := L1.trans (ho.below (by omega) L1.size)
    have o5 := o0.out ho (by omega)
    clear hc ho hm hm2 R1 B1 L1 o0
    have z0 := B5.c0; have z1 := B5.c1
    go_wp2_with fail
    refine (withHeap_any b0 b1 c0 c1 hv.length _ _ t _ w5 n0 (by have := E16.out; omega) o5 hm5).mono ?_
    rintro e w6 ⟨d0, d1, g0, rfl, k0, k1, h0, h1, hb⟩
    have R6 := R5.keep hb; have L6 := L5.trans (hb.mono L5.size)
    have s5 := L5.size
    have rl5 := R5.lt
    clear hb R5 L5 B5 z0 z1 hm5 o5
    have y0 := R6.c0; have y1 := R6.c1; have f0 := R6.f0; have f1 := R6.f1
    have HR7 : Hid (Box _ (w.heap.size + 1) (.slice (some ⟨d0, 0, none⟩) t.length g0) (.slice (some ⟨d1, 0, none⟩) 7 7)) := (R6.set0 (.slice (some ⟨d0, 0, none⟩) t.length g0)).set1 (.slice (some ⟨d1, 0, none⟩) 7 7)
    have T7 := (h0.other (w.heap.size + 1) 0 (by omega) (.slice (some ⟨d0, 0, none⟩) t.length g0)).other (w.heap.size + 1) 1 (by omega) (.slice (some ⟨d1, 0, none⟩) 7 7)
    have P7 := (h1.other (w.heap.size + 1) 0 (by omega) (.slice (some ⟨d0, 0, none⟩) t.length g0)).other (w.heap.size + 1) 1 (by omega) (.slice (some ⟨d1, 0, none⟩) 7 7)
    have L7 := Below.set (Below.set L6 (w.heap.size + 1) 0 (by omega) (.slice (some ⟨d0, 0, none⟩) t.length g0)) (w.heap.size + 1) 1 (by omega) (.slice (some ⟨d1, 0, none⟩) 7 7)
    clear R6 L6 h0 h1
    go_wp2
    have i0 := HR7.out.c0; have i1 := HR7.out.c1
    refine bodyPost_ret (v := .tuple #[.agg #[.slice (some ⟨d0, 0, none⟩) t.length g0, .slice (some ⟨d1, 0, none⟩) 7 7], .bool true]) ?_ rfl ?_
    · simp [results, Try.results48, go_sem, i0, i1]
    · rw [EL.out] at P7
      exact (spost_some HN.out (unL_len _ _ _) (by omega) k1 T7 P7 L7)

end Go.Proofs.Ytagcbnngacealaa
