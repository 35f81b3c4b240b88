/-
  The contracts of spec.Grow and impl.Grow.
-/
import Derived.Test.YtokdhbegkbilbaaSP
namespace Go.Proofs.Ytokdhbegkbilbaa
open Go.RowKit Go.Maps

def growL (hv : List Int) (a b : Nat) : List Int := (hv.set b (hv.getD a 0)).set a b
def growO (t hv : List Int) (x y : Int) : Option (List Int) :=
  if sOk t hv = true ∧ (1 ≤ x ∧ x ≤ 6) ∧ (1 ≤ y ∧ y ≤ 6) ∧ hv.getD x.toNat 0 ≠ -1 ∧ hv.getD y.toNat 0 = -1 then some (growL hv x.toNat y.toNat) else none

theorem getD_set (l : List Int) (i j : Nat) (x : Int) (hj : j < l.length) : (l.set j x).getD i 0 = if i = j then x else l.getD i 0 := by
  by_cases e : i = j
  · subst e; simp [hj]
  · rw [if_neg e]
    simp [Ne.symm e]

set_option maxRecDepth 100000 in
set_option maxHeartbeats 2000000 in
theorem sGrow_any (b0 b1 c0 c1 : Nat) (t hv : List Int) (x y : Int) (w : World) (n0 : t.length ≤ 1048576) (n1 : hv.length ≤ 1048576) (o0 : OwnI w b0 t.length t t.length) (o1 : OwnI w b1 hv.length hv hv.length) :
    Calls Try.prog 61 #[.agg #[.slice (some ⟨b0, 0, none⟩) t.length c0, .slice (some ⟨b1, 0, none⟩) hv.length c1], .int .i64 x, .int .i64 y] w (SPost t (growO t hv x y) w) := by
  have B0 := (Box.new w (.slice (some ⟨b0, 0, none⟩) t.length c0) (.slice (some ⟨b1, 0, none⟩) hv.length c1) 44).alloc (.cells #[.slice none 0 0, .slice none 0 0] 44)
  have R0 := Box.new (w.alloc (.cells #[.slice (some ⟨b0, 0, none⟩) t.length c0, .slice (some ⟨b1, 0, none⟩) hv.length c1] 44)) (.slice none 0 0) (.slice none 0 0) 44
  have L0 : Below w.heap.size w ((w.alloc (.cells #[.slice (some ⟨b0, 0, none⟩) t.length c0, .slice (some ⟨b1, 0, none⟩) hv.length c1] 44)).alloc (.cells #[.slice none 0 0, .slice none 0 0] 44)) := ((Below.refl _ _).alloc (Nat.le_refl _) _).alloc (by simp) _
  rw [World.size_alloc] at R0
  have hc := sStateOk_any b0 b1 c0 c1 t hv _ n0 n1 (by exact o0.keep L0) (by exact o1.keep L0)
  replace o0 := o0.keep L0
  replace o1 := o1.keep L0
  go_enter Try.func61, Try.ntmps61
  go_wp2_with fail
  refine hc.mono ?_
  rintro e w1 ⟨rfl, hb⟩
  have B1 := B0.keep hb; have R1 := R0.keep hb; have L1 := L0.trans (hb.mono L0.size)
  replace o0 := o0.keep hb
  replace o1 := o1.keep hb
  clear hc hb B0 L0 R0
  have z0 := B1.c0; have z1 := B1.c1
  have y0 := R1.c0; have y1 := R1.c1; have f0 := R1.f0; have f1 := R1.f1
  cases hs : sOk t hv
  · have HN : Hid (growO t hv x y = none) := if_neg (by rw [hs]; simp)
    have RR := (R1.set0 (.slice none 0 0)).set1 (.slice none 0 0)
    have i0 := RR.c0; have i1 := RR.c1
    have LL := Below.set (Below.set L1 (w.heap.size + 1) 0 (by omega) (.slice none 0 0)) (w.heap.size + 1) 1 (by omega) (.slice none 0 0)
    go_wp2
    exact bodyPost_ret (v := .tuple #[.agg #[.slice none 0 0, .slice none 0 0], .bool false]) (by simp [results, Try.results61, go_sem, i0, i1]) rfl (spost_none HN.out LL)
  · obtain ⟨⟨e16, -, -⟩, e7, e0, hr⟩ := sOk_true hs
    have HR : Hid (∀ i, i < 7 → -1 ≤ hv.getD i 0 ∧ hv.getD i 0 ≤ 6) := hr
    have E7 : Hid (hv.length = 7) := e7
    have E16 : Hid (t.length = 16) := e16
    clear hr e0 e7 e16
    by_cases q1 : x < 1
    · have HN : Hid (growO t hv x y = none) := if_neg (by omega)
      have RR := (R1.set0 (.slice none 0 0)).set1 (.slice none 0 0)
      have i0 := RR.c0; have i1 := RR.c1
      have LL := Below.set (Below.set L1 (w.heap.size + 1) 0 (by omega) (.slice none 0 0)) (w.heap.size + 1) 1 (by omega) (.slice none 0 0)
      go_wp2
      exact bodyPost_ret (v := .tuple #[.agg #[.slice none 0 0, .slice none 0 0], .bool false]) (by simp [results, Try.results61, go_sem, i0, i1]) rfl (spost_none HN.out LL)
    by_cases q2 : x > 6
    · have HN : Hid (growO t hv x y = none) := if_neg (by omega)
      have RR := (R1.set0 (.slice none 0 0)).set1 (.slice none 0 0)
      have i0 := RR.c0; have i1 := RR.c1
      have LL := Below.set (Below.set L1 (w.heap.size + 1) 0 (by omega) (.slice none 0 0)) (w.heap.size + 1) 1 (by omega) (.slice none 0 0)
      go_wp2
      exact bodyPost_ret (v := .tuple #[.agg #[.slice none 0 0, .slice none 0 0], .bool false]) (by simp [results, Try.results61, go_sem, i0, i1]) rfl (spost_none HN.out LL)
    by_cases q3 : y < 1
    · have HN : Hid (growO t hv x y = none) := if_neg (by omega)
      have RR := (R1.set0 (.slice none 0 0)).set1 (.slice none 0 0)
      have i0 := RR.c0; have i1 := RR.c1
      have LL := Below.set (Below.set L1 (w.heap.size + 1) 0 (by omega) (.slice none 0 0)) (w.heap.size + 1) 1 (by omega) (.slice none 0 0)
      go_wp2
      exact bodyPost_ret (v := .tuple #[.agg #[.slice none 0 0, .slice none 0 0], .bool false]) (by simp [results, Try.results61, go_sem, i0, i1]) rfl (spost_none HN.out LL)
    by_cases q4 : y > 6
    · have HN : Hid (growO t hv x y = none) := if_neg (by omega)
      have RR := (R1.set0 (.slice none 0 0)).set1 (.slice none 0 0)
      have i0 := RR.c0; have i1 := RR.c1
      have LL := Below.set (Below.set L1 (w.heap.size + 1) 0 (by omega) (.slice none 0 0)) (w.heap.size + 1) 1 (by omega) (.slice none 0 0)
      go_wp2
      exact bodyPost_ret (v := .tuple #[.agg #[.slice none 0 0, .slice none 0 0], .bool false]) (by simp [results, Try.results61, go_sem, i0, i1]) rfl (spost_none HN.out LL)
    obtain ⟨a, rfl⟩ : ∃ a : Nat, x = a := ⟨x.toNat, by omega⟩
    obtain ⟨b, rfl⟩ : ∃ b : Nat, y = b := ⟨y.toNat, by omega⟩
    have ha := o1.2.2 a (by have := E7.out; omega)
    have hb := o1.2.2 b (by have := E7.out; omega)
    have ra := HR.out a (by omega)
    have rb := HR.out b (by omega)
    obtain ⟨u, eu⟩ : ∃ u, Hid (hv.getD a 0 = u) := ⟨_, rfl⟩
    obtain ⟨v, ev⟩ : ∃ v, Hid (hv.getD b 0 = v) := ⟨_, rfl⟩
    rw [eu.out] at ha ra
    rw [ev.out] at hb rb
    have la : (a : Int) < (hv.length : Int) := by have := E7.out; omega
    have lb : (b : Int) < (hv.length : Int) := by have := E7.out; omega
    by_cases q5 : u < 0
    · have HN : Hid (growO t hv a b = none) := if_neg (by rw [Int.toNat_natCast, eu.out]; omega)
      have RR := (R1.set0 (.slice none 0 0)).set1 (.slice none 0 0)
      have i0 := RR.c0; have i1 := RR.c1
      have LL := Below.set (Below.set L1 (w.heap.size + 1) 0 (by omega) (.slice none 0 0)) (w.heap.size + 1) 1 (by omega) (.slice none 0 0)
      go_wp2
      exact bodyPost_ret (v := .tuple #[.agg #[.slice none 0 0, .slice none 0 0], .bool false]) (by simp [results, Try.results61, go_sem, i0, i1]) rfl (spost_none HN.out LL)
    by_cases q6 : 0 ≤ v
    · have HN : Hid (growO t hv a b = none) := if_neg (by rw [Int.toNat_natCast, Int.toNat_natCast, ev.out]; omega)
      have RR := (R1.set0 (.slice none 0 0)).set1 (.slice none 0 0)
      have i0 := RR.c0; have i1 := RR.c1
      have LL := Below.set (Below.set L1 (w.heap.size + 1) 0 (by omega) (.slice none 0 0)) (w.heap.size + 1) 1 (by omega) (.slice none 0 0)
      go_wp2
      exact bodyPost_ret (v := .tuple #[.agg #[.slice none 0 0, .slice none 0 0], .bool false]) (by simp [results, Try.results61, go_sem, i0, i1]) rfl (spost_none HN.out LL)
    have HN : Hid (growO t hv a b = some (growL hv a b)) := by
      show growO t hv a b = _
      unfold growO
      rw [Int.toNat_natCast, Int.toNat_natCast, eu.out, ev.out, if_pos ⟨hs, by omega, by omega, by omega, by omega⟩]
    have hc := l2own_any b0 b1 c0 c1 t hv w1 n0 n1 (by have := E16.out; omega) (by have := E7.out; omega) o0 o1
    go_wp2_with fail
    refine hc.mono ?_
    rintro e w2 ⟨d0, d1, g0, g1, rfl, k0, k1, h0, h1, hb2⟩
    have rl1 := R1.lt
    have B2 := B1.keep hb2; have R2 := R1.keep hb2; have L2 := L1.trans (hb2.mono L1.size)
    replace o1 := o1.keep hb2
    clear hc hb2 B1 R1 z0 z1 y0 y1 f0 f1 ha hb
    have X2 := Box.new w2 (.slice (some ⟨d0, 0, none⟩) t.length g0) (.slice (some ⟨d1, 0, none⟩) hv.length g1) 44
    have sz := L1.size
    have rl := R2.lt
    have hl0 := h0.1; have hl1 := h1.1
    have hab : a ≠ b := fun e => by subst e; have := eu.out; have := ev.out; omega
    have h7 := E7.out
    replace h0 := h0.alloc (.cells #[.slice (some ⟨d0, 0, none⟩) t.length g0, .slice (some ⟨d1, 0, none⟩) hv.length g1] 44)
    replace h1 := h1.alloc (.cells #[.slice (some ⟨d0, 0, none⟩) t.length g0, .slice (some ⟨d1, 0, none⟩) hv.length g1] 44)
    replace o1 := o1.alloc (.cells #[.slice (some ⟨d0, 0, none⟩) t.length g0, .slice (some ⟨d1, 0, none⟩) hv.length g1] 44)
    replace B2 := B2.alloc (.cells #[.slice (some ⟨d0, 0, none⟩) t.length g0, .slice (some ⟨d1, 0, none⟩) hv.length g1] 44)
    replace R2 := R2.alloc (.cells #[.slice (some ⟨d0, 0, none⟩) t.length g0, .slice (some ⟨d1, 0, none⟩) hv.length g1] 44)
    have L3 := L2.alloc L2.size (.cells #[.slice (some ⟨d0, 0, none⟩) t.length g0, .slice (some ⟨d1, 0, none⟩) hv.length g1] 44)
    have EL : Hid ((hv.set b u).set a b = growL hv a b) := by show _ = growL hv a b; unfold growL; rw [eu.out]
    have ha := o1.2.2 a (by omega)
    rw [eu.out] at ha
    obtain ⟨vb, hvb⟩ := (h1.2.1 b (by omega)).1
    have hfb := (h1.2.1 b (by omega)).2
    have z1 := B2.c1
    have x1 := X2.c1
    clear L2 rl L1 h7
    go_wp2
    generalize w2.alloc (.cells #[.slice (some ⟨d0, 0, none⟩) t.length g0, .slice (some ⟨d1, 0, none⟩) hv.length g1] 44) = W3 at *
    have P1 := h1.put b u (hv.set b u) (fun i _ => getD_set hv i b u (by have := E7.out; omega))
    have X3 := X2.other d1 b (by omega) (.int .i64 u)
    have R3 := R2.other d1 b (by omega) (.int .i64 u)
    have T3 := h0.other d1 b (by omega) (.int .i64 u)
    have L4 := Below.set L3 d1 b (by omega) (.int .i64 u)
    clear h0 h1 o1 B2 R2 X2 L3
    go_region_with (fail)
    all_goals
      clear z1 x1 ha hvb hfb
      generalize W3.setCell ⟨d1, b, none⟩ (.int .i64 u) = W4 at *
      obtain ⟨va, hva⟩ := (P1.2.1 a (by have := E7.out; omega)).1
      have hfa := (P1.2.1 a (by have := E7.out; omega)).2
      have P2 := P1.put a b ((hv.set b u).set a b) (fun i _ => getD_set (hv.set b u) i a b (by have := E7.out; simp; omega))
      have X4 := X3.other d1 a (by omega) (.int .i64 b)
      have R4 := R3.other d1 a (by omega) (.int .i64 b)
      have T4 := T3.other d1 a (by omega) (.int .i64 b)
      have L5 := Below.set L4 d1 a (by omega) (.int .i64 b)
      have s1 := X3.c1; have s2 := X4.c0; have s3 := X4.c1
      have y0 := R4.c0; have y1 := R4.c1; have f0 := R4.f0; have f1 := R4.f1
      have HR5 : Hid (Box _ (w.heap.size + 1) (.slice (some ⟨d0, 0, none⟩) t.length g0) (.slice (some ⟨d1, 0, none⟩) hv.length g1)) := (R4.set0 (.slice (some ⟨d0, 0, none⟩) t.length g0)).set1 (.slice (some ⟨d1, 0, none⟩) hv.length g1)
      have T5 := (T4.other (w.heap.size + 1) 0 (by omega) (.slice (some ⟨d0, 0, none⟩) t.length g0)).other (w.heap.size + 1) 1 (by omega) (.slice (some ⟨d1, 0, none⟩) hv.length g1)
      have P3 := (P2.other (w.heap.size + 1) 0 (by omega) (.slice (some ⟨d0, 0, none⟩) t.length g0)).other (w.heap.size + 1) 1 (by omega) (.slice (some ⟨d1, 0, none⟩) hv.length g1)
      have L6 := Below.set (Below.set L5 (w.heap.size + 1) 0 (by omega) (.slice (some ⟨d0, 0, none⟩) t.length g0)) (w.heap.size + 1) 1 (by omega) (.slice (some ⟨d1, 0, none⟩) hv.length g1)
      clear P1 P2 X3 X4 R3 R4 T3 T4 L4 L5
      go_wp2
      have i0 := HR5.out.c0; have i1 := HR5.out.c1
      refine bodyPost_ret (v := .tuple #[.agg #[.slice (some ⟨d0, 0, none⟩) t.length g0, .slice (some ⟨d1, 0, none⟩) hv.length g1], .bool true]) ?_ rfl ?_
      · simp [results, Try.results61, go_sem, i0, i1]
      · exact (spost_some HN.out (by rw [← EL.out]; simp) (by omega) k1 T5.drew (EL.out ▸ P3.drew) L6.drew)

end Go.Proofs.Ytokdhbegkbilbaa
