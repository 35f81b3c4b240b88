/-
  The contracts of Loops.
-/
import Derived.Test.YtnaeomppceblpaaCLs
import Derived.Outline
namespace Go.Proofs.Ytnaeomppceblpaa
open Go.RowKit

theorem lpN_take {l : List Cm} {k : Nat} (hk : k < l.length) : lpN (l.take (k + 1)) = lpN (l.take k) + (if (l.getD k Cm.zero).k = 6 then 1 else 0) := by
  rw [List.take_succ_eq_append_getElem hk, List.getD_eq_getElem?_getD, List.getElem?_eq_getElem hk]
  unfold lpN
  simp only [List.countP_append, List.countP_cons, List.countP_nil, lpB, decide_eq_true_eq]
  simp

set_option maxHeartbeats 1000000 in
theorem sLoops_any (l : List Cm) (w : World) (lo hi : Nat) (a : Option Addr) (cap : Nat) (hr : CRow w lo hi a l) (hh : hi ≤ w.heap.size) (hs : cnts l ≤ 1048576) :
    Calls Try.prog 70 #[.slice a l.length cap] w fun e w' => e = .returned (.int .i64 (loopsV l)) ∧ Below w.heap.size w w' := by
  have HV : Hid (loopsV l = if progV l = true then (lpN (flats l) : Int) else -1) := rfl
  go_enter Try.func70, Try.ntmps70
  go_wp2_with fail
  refine (sProgOk_any l _ _ _ _ _ hr hh hs).mono ?_
  rintro e w1 ⟨rfl, L⟩
  cases hok : progV l
  · go_wp2
    go_ret
    exact ⟨ret_int (by rw [HV.out, hok]; rfl), L⟩
  go_wp2_with fail
  refine (l6loops_any l _ _ _ _ _ (by exact hr.below L hh) hs).mono ?_
  rintro e w2 ⟨rfl, n, rfl⟩
  have L2 := L.trans (Below.drewN w1 n)
  go_wp2
  go_ret
  exact ⟨ret_int (by rw [HV.out, hok]; rfl), L2⟩

set_option maxHeartbeats 2000000 in
theorem iLoops_any (l : List Cm) (w : World) (lo hi : Nat) (a : Option Addr) (cap : Nat) (hr : CRow w lo hi a l) (hh : hi ≤ w.heap.size) (hs : cnts l ≤ 1048576) :
    Calls Try.prog 71 #[.slice a l.length cap] w fun e w' => e = .returned (.int .i64 (loopsV l)) ∧ Below w.heap.size w w' := by
  have HV : Hid (loopsV l = if progV l = true then (lpN (flats l) : Int) else -1) := rfl
  have hfl : (flats l).length ≤ 1048576 := by rw [flats_length]; exact Nat.le_trans (sizes_le_cnts l) hs
  go_enter Try.func71, Try.ntmps71
  go_wp2_with fail
  refine (iProgOk_any l _ _ _ _ _ hr hh (by omega)).mono ?_
  rintro e w1 ⟨rfl, L⟩
  cases hok : progV l
  · go_wp2
    go_ret
    exact ⟨ret_int (by rw [HV.out, hok]; rfl), L⟩
  have HV2 : Hid (loopsV l = (lpN (flats l) : Int)) := by show loopsV l = _; rw [HV.out, hok]; rfl
  clear HV hok
  go_wp2_with fail
  have hh1 : hi ≤ w1.heap.size := Nat.le_trans hh L.size
  refine (everyOf_any l _ _ _ _ _ (by exact hr.below L hh) hh1 hs).mono ?_
  rintro e w2 ⟨a', c', rfl, hz, R, hb⟩
  have L2 := L.trans (hb.mono L.size)
  have hh2 : hi ≤ w2.heap.size := Nat.le_trans hh1 hb.size
  clear hb L hr hs hh1 hz
  generalize flats l = fl at *
  have HCELL : Hid (∀ k, k < fl.length → ∃ b o, a' = some ⟨b, o, none⟩ ∧ b < w2.heap.size ∧ CAt w2 lo hi b (o + k * 10) (fl.getD k Cm.zero)) := by
    intro k hk
    rcases R with rfl | ⟨b, o, rfl, g1, hc⟩
    · simp at hk
    · exact ⟨b, o, rfl, g1, hc.get k hk⟩
  have HST : Hid (∀ k, k < fl.length → lpN (fl.take (k + 1)) = lpN (fl.take k) + (if (fl.getD k Cm.zero).k = 6 then 1 else 0)) := fun k hk => lpN_take hk
  have HTK : Hid (∀ k, k = fl.length → lpN (fl.take k) = lpN fl) := fun k hk => by rw [hk, List.take_length]
  have HBD : Hid (∀ k, lpN (fl.take k) ≤ 1048576) := fun k => Nat.le_trans (lpN_le _) (by rw [List.length_take]; omega)
  clear R
  generalize hN : fl.length = n at *
  clear hN
  go_wp2
  go_loopw [3, 12] (fun v i wr => ∃ k m : Nat, k ≤ n ∧ i = .int .i64 k ∧ v = .int .i64 m ∧ Hid (m = lpN (fl.take k)) ∧ Below w.heap.size w wr ∧ Below w2.heap.size w2 wr) (fun _ i _ => n - (intOf i).toNat)
  case atStart => exact ⟨0, 0, Nat.zero_le _, rfl, rfl, by show 0 = lpN (fl.take 0); simp [lpN], L2, Below.refl _ _⟩
  case round =>
    clear L2
    obtain ⟨k, m, hk, rfl, rfl, hm, hbw, hb2⟩ := hrel
    by_cases hlt : k < n
    · obtain ⟨b, o, rfl, e1, hc⟩ := HCELL.out k hlt
      obtain ⟨a0, a1, a2, a3, aA, aB, c0, c1, c2, c3, cA, cB, X, V⟩ := hc.out
      have HS2 : Hid (lpN (fl.take (k + 1)) = m + (if (fl.getD k Cm.zero).k = 6 then 1 else 0)) := by
        show _ = _
        rw [HST.out k hlt, hm.out]
      have hmb : (m : Int) ≤ 1048576 := by have h1 := HBD.out k; have h2 := hm.out; omega
      clear hc V hm
      generalize fl.getD k Cm.zero = c at *
      replace X := X.below hb2 e1
      have x0 := X.e0; have x1 := X.e1; have x2 := X.e2; have x3 := X.e3; have x4 := X.e4; have x5 := X.e5; have x6 := X.e6; have x7 := X.e7; have x8 := X.e8; have x9 := X.e9
      clear X
      have hkn : (k : Int) < (n : Int) := by omega
      have M := hbw.alloc hbw.size (.cells #[.int .i64 c.k, .int .i64 c.x, .int .i64 c.y, .bool c.q, .slice a0 c.l0.length c0, .slice a1 c.l1.length c1, .slice a2 c.l2.length c2, .slice a3 c.l3.length c3, .slice aA c.A.length cA, .slice aB c.B.length cB] 59)
      have M2 := hb2.alloc hb2.size (.cells #[.int .i64 c.k, .int .i64 c.x, .int .i64 c.y, .bool c.q, .slice a0 c.l0.length c0, .slice a1 c.l1.length c1, .slice a2 c.l2.length c2, .slice a3 c.l3.length c3, .slice aA c.A.length cA, .slice aB c.B.length cB] 59)
      by_cases h6 : c.k = 6
      · have HS3 : Hid (lpN (fl.take (k + 1)) = m + 1) := by have := HS2.out; rw [if_pos h6] at this; exact this
        rw [h6] at x0 M M2
        clear h6 HS2 hbw hb2
        go_wp2
        go_roundw
        case rel => exact ⟨k + 1, m + 1, by omega, by go_num, by go_num, HS3.out.symm, M, M2⟩
        case measure => simp [intOf]; omega
      · have HS3 : Hid (lpN (fl.take (k + 1)) = m) := by have := HS2.out; rw [if_neg h6, Nat.add_zero] at this; exact this
        clear HS2 hbw hb2
        go_wp2
        go_roundw
        case rel => exact ⟨k + 1, m, by omega, by go_num, rfl, HS3.out.symm, M, M2⟩
        case measure => simp [intOf]; omega
    · go_wp2
      go_ret
      obtain rfl : k = n := by omega
      exact ⟨ret_int (by rw [HV2.out, ← HTK.out k rfl, hm.out]), hbw⟩

end Go.Proofs.Ytnaeomppceblpaa
