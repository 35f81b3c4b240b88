/-
  The contract of impl.Changes.
-/
import Derived.Test.YtanihlecenmdcaaCCs
namespace Go.Proofs.Ytanihlecenmdcaa
open Go.RowKit Go.Maps

theorem Out.toS {lo hi : Nat} {w w' : World} (h : Out lo hi w w') : S.Out lo hi w w' := ⟨h.os, h.tape, h.output, h.size, h.block⟩
def chN (fl : List Cm) (k : Nat) (x : Int) : Bool := (fl.take k).any fun c => chB c && decide (c.x = x)
theorem chN_succ {fl : List Cm} {k : Nat} (hk : k < fl.length) : chN fl (k + 1) = fun x => chN fl k x || (chB (fl.getD k Cm.zero) && decide ((fl.getD k Cm.zero).x = x)) := by
  funext x
  unfold chN
  rw [List.take_succ_eq_append_getElem hk, List.getD_eq_getElem?_getD, List.getElem?_eq_getElem hk]
  simp only [List.any_append, List.any_cons, List.any_nil, Bool.or_false, Option.getD_some]
theorem chN_all (fl : List Cm) : chN fl fl.length = fun x => fl.any fun c => chB c && decide (c.x = x) := by
  funext x; unfold chN; rw [List.take_length]
theorem chN_yes {fl : List Cm} {k : Nat} (hk : k < fl.length) (h : chB (fl.getD k Cm.zero) = true) : chN fl (k + 1) = fun x => chN fl k x || decide (x = (fl.getD k Cm.zero).x) := by
  rw [chN_succ hk, h]
  funext x
  rw [Bool.true_and]
  congr 1
  rw [Bool.eq_iff_iff]; simp only [decide_eq_true_eq]; exact eq_comm
theorem chN_no {fl : List Cm} {k : Nat} (hk : k < fl.length) (h : chB (fl.getD k Cm.zero) = false) : chN fl (k + 1) = chN fl k := by
  rw [chN_succ hk, h]
  funext x
  simp
theorem wf_small {x : Int} (h1 : 1 ≤ x) (h2 : x ≤ 5) : (Lit.int .i64 x).wf = true := by
  have : x = 1 ∨ x = 2 ∨ x = 3 ∨ x = 4 ∨ x = 5 := by omega
  rcases this with rfl | rfl | rfl | rfl | rfl <;> decide
theorem chk_in {fl : List Cm} {l : List Cm} (e : flats l = fl) (h : chOk l) {k : Nat} (hk : k < fl.length) (hc : chB (fl.getD k Cm.zero) = true) : 1 ≤ (fl.getD k Cm.zero).x ∧ (fl.getD k Cm.zero).x ≤ 5 := by
  subst e
  have := h _ (mem_getD hk) hc
  simp only [isVar, decide_eq_true_eq] at this
  omega

theorem hs_ne {w : World} {b N : Nat} {p : Int → Bool} (h : S.HS w b N p) {j : Nat} {v : Value} (hc : w.cell? ⟨b, j, none⟩ = some v) : False := by
  obtain ⟨D, ⟨es, clock, hb, _⟩, _⟩ := h
  simp [World.cell?, hb] at hc
theorem Out.ofS {lo hi : Nat} {w w' : World} (h : S.Out lo hi w w') : Out lo hi w w' := ⟨h.os, h.tape, h.output, h.size, h.block⟩

set_option maxRecDepth 20000 in
set_option maxHeartbeats 2000000 in
theorem iChanges_any (l : List Cm) (w : World) (lo hi : Nat) (a : Option Addr) (cap : Nat) (hr : CRow w lo hi a l) (hh : hi ≤ w.heap.size) (hs : cnts l ≤ 1048576) :
    Calls Try.prog 57 #[.slice a l.length cap] w fun e w' => ∃ a' c', e = .returned (.slice a' (changesV l).length c') ∧ S.IntIn w' w.heap.size w'.heap.size a' (changesV l).length (changesV l) ∧ Below w.heap.size w w' := by
  have hmm := @run_makeMap Try.prog
  have HV : Hid (changesV l = if progV l = true then S.ascL (chP l) 7 else []) := rfl
  have hfl : (flats l).length ≤ 1048576 := by rw [flats_length]; exact Nat.le_trans (sizes_le_cnts l) hs
  go_enter Try.func57, Try.ntmps57
  go_wp2_with fail
  refine (iProgOk_any l _ _ _ _ _ hr hh (by omega)).mono ?_
  rintro e w1 ⟨rfl, L⟩
  cases hok : progV l
  · go_wp2
    go_ret
    have e0 : changesV l = [] := by rw [HV.out, hok]; rfl
    exact ⟨none, 0, by rw [e0]; rfl, by rw [e0]; exact ⟨rfl, .inl rfl⟩, L⟩
  have HV2 : Hid (changesV l = S.ascL (chP l) 7) := by show changesV l = _; rw [HV.out, hok]; rfl
  have hch := progV_ch hok
  have HIN : Hid (∀ x : Int, chP l x = true → 0 ≤ x ∧ x ≤ 6) := fun x hx => by have := chP_in hch hx; omega
  have HFL : Hid (∀ fl, flats l = fl → chN fl fl.length = chP l) := fun fl e => by subst e; exact chN_all _
  have HX : Hid (∀ fl, flats l = fl → ∀ k, k < fl.length → chB (fl.getD k Cm.zero) = true → 1 ≤ (fl.getD k Cm.zero).x ∧ (fl.getD k Cm.zero).x ≤ 5) := fun fl e k hk hc => chk_in e hch hk hc
  clear HV hok hch
  have h0 := S.HS.made w1
  have L1 : Below w1.heap.size w1 (w1.alloc (.map #[] 0)) := (Below.refl _ _).alloc (Nat.le_refl _) _
  have LA := L.trans (L1.mono L.size)
  have hr1 := hr.below LA hh
  go_wp2_with fail
  have hh1 : hi ≤ (w1.alloc (.map #[] 0)).heap.size := Nat.le_trans hh LA.size
  refine (everyOf_any l _ _ _ _ _ hr1 hh1 hs).mono ?_
  rintro e w2 ⟨a', c', rfl, hz, R, hb⟩
  have L2 := LA.trans (hb.mono LA.size)
  have hh2 : hi ≤ w2.heap.size := Nat.le_trans hh1 hb.size
  replace h0 := h0.keep hb
  have hM : w.heap.size ≤ w1.heap.size := L.size
  clear hb L hr hr1 hs hh1 hz L1 LA hmm
  replace HFL : Hid (chN (flats l) (flats l).length = chP l) := HFL.out _ rfl
  replace HX : Hid (∀ k, k < (flats l).length → chB ((flats l).getD k Cm.zero) = true → 1 ≤ ((flats l).getD k Cm.zero).x ∧ ((flats l).getD k Cm.zero).x ≤ 5) := HX.out _ rfl
  generalize flats l = fl at *
  have HCELL : Hid (∀ k, k < fl.length → ∃ b o, a' = some ⟨b, o, none⟩ ∧ b < w2.heap.size ∧ CAt w2 lo hi b (o + k * 10) (fl.getD k Cm.zero)) := by
    intro k hk
    rcases R with rfl | ⟨b, o, rfl, g1, hc⟩
    · simp at hk
    · exact ⟨b, o, rfl, g1, hc.get k hk⟩
  have HY : Hid (∀ k, k < fl.length → chB (fl.getD k Cm.zero) = true → chN fl (k + 1) = fun x => chN fl k x || decide (x = (fl.getD k Cm.zero).x)) := fun k hk h => chN_yes hk h
  have HNO : Hid (∀ k, k < fl.length → chB (fl.getD k Cm.zero) = false → chN fl (k + 1) = chN fl k) := fun k hk h => chN_no hk h
  have HZ : Hid (chN fl 0 = fun _ => false) := by show chN fl 0 = _; funext x; simp [chN]
  clear R
  generalize hN : fl.length = n at *
  clear hN
  generalize hmb : w1.heap.size = mb at *
  clear hmb
  go_wp2
  go_loopw [13] (fun i wr => ∃ k : Nat, k ≤ n ∧ i = .int .i64 k ∧ S.HS wr mb k (chN fl k) ∧ Below w.heap.size w wr ∧ S.Out mb (mb + 1) w2 wr) (fun i _ => n - (intOf i).toNat)
  case atStart => exact ⟨0, Nat.zero_le _, rfl, by rw [HZ.out]; exact h0, L2, S.Out.refl _ _ _⟩
  case round =>
    clear L2
    obtain ⟨k, hk, rfl, hm, hbw, hb2⟩ := hrel
    by_cases hlt : k < n
    · obtain ⟨b, o, rfl, e1, hc⟩ := HCELL.out k hlt
      obtain ⟨a0, a1, a2, a3, aA, aB, c0, c1, c2, c3, cA, cB, X, V⟩ := hc.out
      have HY2 : Hid (chB (fl.getD k Cm.zero) = true → chN fl (k + 1) = fun x => chN fl k x || decide (x = (fl.getD k Cm.zero).x)) := HY.out k hlt
      have HN2 : Hid (chB (fl.getD k Cm.zero) = false → chN fl (k + 1) = chN fl k) := HNO.out k hlt
      have HX2 : Hid (chB (fl.getD k Cm.zero) = true → 1 ≤ (fl.getD k Cm.zero).x ∧ (fl.getD k Cm.zero).x ≤ 5) := HX.out k hlt
      have HP : Hid (chB (fl.getD k Cm.zero) = decide ((fl.getD k Cm.zero).k = 0 ∨ (fl.getD k Cm.zero).k = 1 ∨ (fl.getD k Cm.zero).k = 3)) := rfl
      clear hc V
      generalize fl.getD k Cm.zero = c at *
      have hne : b ≠ mb := fun e => by subst e; exact hs_ne h0 X.e0
      have ec := (Out.cells (p := b) (Out.ofS hb2) e1 (by omega)).1
      have x0 := X.e0; have x1 := X.e1; have x2 := X.e2; have x3 := X.e3; have x4 := X.e4; have x5 := X.e5; have x6 := X.e6; have x7 := X.e7; have x8 := X.e8; have x9 := X.e9
      rw [← ec] at x0 x1 x2 x3 x4 x5 x6 x7 x8 x9
      clear X ec hne
      have hkn : (k : Int) < (n : Int) := by omega
      by_cases hk3 : c.k = 0 ∨ c.k = 1 ∨ c.k = 3
      · have hcb : chB c = true := by rw [HP.out]; exact decide_eq_true hk3
        have wx := wf_small (HX2.out hcb).1 (HX2.out hcb).2
        have HY3 : Hid (chN fl (k + 1) = fun x => chN fl k x || decide (x = c.x)) := HY2.out hcb
        clear HY2 HN2 HX2 HP hcb h0
        rcases hk3 with e | e | e
        all_goals
          rw [e] at x0
          have hca := S.add_any mb k _ c.x (wr.alloc (.cells #[.int .i64 c.k, .int .i64 c.x, .int .i64 c.y, .bool c.q, .slice a0 c.l0.length c0, .slice a1 c.l1.length c1, .slice a2 c.l2.length c2, .slice a3 c.l3.length c3, .slice aA c.A.length cA, .slice aB c.B.length cB] 59)) wx (by omega) (hm.alloc _)
          have M := hbw.alloc hbw.size (.cells #[.int .i64 c.k, .int .i64 c.x, .int .i64 c.y, .bool c.q, .slice a0 c.l0.length c0, .slice a1 c.l1.length c1, .slice a2 c.l2.length c2, .slice a3 c.l3.length c3, .slice aA c.A.length cA, .slice aB c.B.length cB] 59)
          have M2 := hb2.trans (S.Out.ofBelow (lo := mb) (hi := mb + 1) ((Below.refl wr.heap.size wr).alloc (Nat.le_refl _) (.cells #[.int .i64 c.k, .int .i64 c.x, .int .i64 c.y, .bool c.q, .slice a0 c.l0.length c0, .slice a1 c.l1.length c1, .slice a2 c.l2.length c2, .slice a3 c.l3.length c3, .slice aA c.A.length cA, .slice aB c.B.length cB] 59)))
          rw [e] at hca M M2
          clear e hbw hb2 hm
          go_wp2_with fail
          clear x0 x1 x2 x3 x4 x5 x6 x7 x8 x9
          refine hca.mono ?_
          rintro e w3 ⟨rfl, hm3, ho3⟩
          have M3 := M.trans (ho3.below hM M.size)
          have M4 := M2.trans ho3
          clear hca M M2 ho3
          go_wp2
          go_roundw
          case rel => exact ⟨k + 1, by omega, by go_num, by rw [HY3.out]; exact hm3, M3, M4⟩
          case measure => simp [intOf]; omega
      · have HN3 : Hid (chN fl (k + 1) = chN fl k) := HN2.out (by rw [HP.out]; exact decide_eq_false hk3)
        have M := hbw.alloc hbw.size (.cells #[.int .i64 c.k, .int .i64 c.x, .int .i64 c.y, .bool c.q, .slice a0 c.l0.length c0, .slice a1 c.l1.length c1, .slice a2 c.l2.length c2, .slice a3 c.l3.length c3, .slice aA c.A.length cA, .slice aB c.B.length cB] 59)
        have M2 := hb2.trans (S.Out.ofBelow (lo := mb) (hi := mb + 1) ((Below.refl wr.heap.size wr).alloc (Nat.le_refl _) (.cells #[.int .i64 c.k, .int .i64 c.x, .int .i64 c.y, .bool c.q, .slice a0 c.l0.length c0, .slice a1 c.l1.length c1, .slice a2 c.l2.length c2, .slice a3 c.l3.length c3, .slice aA c.A.length cA, .slice aB c.B.length cB] 59)))
        have hm2 := (hm.alloc (.cells #[.int .i64 c.k, .int .i64 c.x, .int .i64 c.y, .bool c.q, .slice a0 c.l0.length c0, .slice a1 c.l1.length c1, .slice a2 c.l2.length c2, .slice a3 c.l3.length c3, .slice aA c.A.length cA, .slice aB c.B.length cB] 59)).mono (Nat.le_succ k)
        obtain ⟨q0, q1, q3⟩ : c.k ≠ 0 ∧ c.k ≠ 1 ∧ c.k ≠ 3 := by omega
        clear HY2 HN2 HX2 HP h0 hk3 hbw hb2 hm
        go_wp2
        go_roundw
        case rel => exact ⟨k + 1, by omega, by go_num, by rw [HN3.out]; exact hm2, M, M2⟩
        case measure => simp [intOf]; omega
    · obtain rfl : k = n := by omega
      rw [HFL.out] at hm
      go_wp2_with fail
      refine (S.asc_any mb k _ wr (by omega) HIN.out hm).mono ?_
      rintro e w3 ⟨a', c', rfl, hin, hb3⟩
      have M3 := hbw.trans (hb3.mono hbw.size)
      have hws := hbw.size
      clear hb3 hbw hb2 hm h0
      go_wp2
      go_ret
      exact ⟨a', c', by rw [HV2.out]; rfl, by rw [HV2.out]; exact hin.mono hws (Nat.le_refl _), M3⟩

end Go.Proofs.Ytanihlecenmdcaa
