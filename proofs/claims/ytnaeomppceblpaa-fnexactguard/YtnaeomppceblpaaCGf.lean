/-
  The contracts of Guard.
-/
import Derived.Test.YtnaeomppceblpaaCGe
import Derived.Outline
namespace Go.Proofs.Ytnaeomppceblpaa
open Go.RowKit


set_option maxHeartbeats 4000000 in
theorem sGuard_any (b0 b1 s0 s1 : Nat) (t h : List Int) (c : Cm) (a0 a1 a2 a3 aA aB : Option Addr) (c0 c1 c2 c3 cA cB : Nat) (w : World) (lo hi : Nat) (n0 : t.length ≤ 1048576) (n1 : h.length ≤ 1048576) (o0 : S.OwnI w b0 t.length t t.length) (o1 : S.OwnI w b1 h.length h h.length) (V : CVal w lo hi c a0 a1 a2 a3 aA aB) (hh : hi ≤ w.heap.size) (hc : c.cnt ≤ 1048576) :
    Calls Try.prog 77 #[.agg #[.slice (some ⟨b0, 0, none⟩) t.length s0, .slice (some ⟨b1, 0, none⟩) h.length s1], .agg #[.int .i64 c.k, .int .i64 c.x, .int .i64 c.y, .bool c.q, .slice a0 c.l0.length c0, .slice a1 c.l1.length c1, .slice a2 c.l2.length c2, .slice a3 c.l3.length c3, .slice aA c.A.length cA, .slice aB c.B.length cB]] w fun e w' => e = .returned (.bool (guardV t h c)) ∧ Below w.heap.size w w' := by
  have HV : Hid (guardV t h c = (S.sOk t h && (cmdV c && (decide (5 ≤ c.k) && condV t c)))) := rfl
  have L : Below w.heap.size w ((w.alloc (.cells #[.slice (some ⟨b0, 0, none⟩) t.length s0, .slice (some ⟨b1, 0, none⟩) h.length s1] 43)).alloc (.cells #[.int .i64 c.k, .int .i64 c.x, .int .i64 c.y, .bool c.q, .slice a0 c.l0.length c0, .slice a1 c.l1.length c1, .slice a2 c.l2.length c2, .slice a3 c.l3.length c3, .slice aA c.A.length cA, .slice aB c.B.length cB] 59)) := ((Below.refl _ _).alloc (Nat.le_refl _) _).alloc (by simp) _
  have X := (S.Box.new w (.slice (some ⟨b0, 0, none⟩) t.length s0) (.slice (some ⟨b1, 0, none⟩) h.length s1) 43).alloc (.cells #[.int .i64 c.k, .int .i64 c.x, .int .i64 c.y, .bool c.q, .slice a0 c.l0.length c0, .slice a1 c.l1.length c1, .slice a2 c.l2.length c2, .slice a3 c.l3.length c3, .slice aA c.A.length cA, .slice aB c.B.length cB] 59)
  have Y := B10.new (w.alloc (.cells #[.slice (some ⟨b0, 0, none⟩) t.length s0, .slice (some ⟨b1, 0, none⟩) h.length s1] 43)) (.int .i64 c.k) (.int .i64 c.x) (.int .i64 c.y) (.bool c.q) (.slice a0 c.l0.length c0) (.slice a1 c.l1.length c1) (.slice a2 c.l2.length c2) (.slice a3 c.l3.length c3) (.slice aA c.A.length cA) (.slice aB c.B.length cB) 59
  simp only [World.size_alloc] at Y
  go_enter Try.func77, Try.ntmps77
  go_wp2_with fail
  refine (S.sStateOk_any b0 b1 s0 s1 t h _ n0 n1 (by exact o0.below L o0.1) (by exact o1.below L o1.1)).mono ?_
  rintro e w1 ⟨rfl, hb⟩
  replace X := X.below hb X.lt; replace Y := Y.below hb Y.lt; replace L := L.trans (hb.mono L.size)
  clear hb
  cases hs : S.sOk t h
  · go_wp2
    go_ret
    exact ⟨ret_bool (by rw [HV.out, hs]; rfl), L⟩
  have H16 : Hid (t.length = 16) := sOk_len hs
  have y0 := Y.c0
  have y1 := Y.c1
  have y2 := Y.c2
  have y3 := Y.c3
  have y4 := Y.c4
  have y5 := Y.c5
  have y6 := Y.c6
  have y7 := Y.c7
  have y8 := Y.c8
  have y9 := Y.c9
  go_wp2_with fail
  refine (sCmdOk_any c _ _ _ _ _ _ _ _ _ _ _ _ _ _ _ (by exact V.below L hh) (by exact Nat.le_trans hh L.size) hc).mono ?_
  rintro e w2 ⟨rfl, hb⟩
  replace X := X.below hb X.lt; replace Y := Y.below hb Y.lt; replace L := L.trans (hb.mono L.size)
  clear hb y0 y1 y2 y3 y4 y5 y6 y7 y8 y9
  cases hm : cmdV c
  · go_wp2
    go_ret
    exact ⟨ret_bool (by rw [HV.out, hs, hm]; rfl), L⟩
  have y0 := Y.c0
  have y1 := Y.c1
  have y2 := Y.c2
  have y3 := Y.c3
  have y4 := Y.c4
  have y5 := Y.c5
  have y6 := Y.c6
  have y7 := Y.c7
  have y8 := Y.c8
  have y9 := Y.c9
  have x0 := X.c0; have x1 := X.c1
  have HK : Hid (0 ≤ c.k) := by
    show 0 ≤ c.k
    by_cases h3 : 0 ≤ c.k
    · exact h3
    · have h0 := hm
      unfold cmdV at h0
      rw [ok_no (.inl (by omega))] at h0; cases h0
  by_cases h5 : 5 ≤ c.k
  rotate_left
  · go_wp2
    go_ret
    exact ⟨ret_bool (by rw [HV.out, hs, hm, decide_eq_false (show ¬ 5 ≤ c.k by omega)]; rfl), L⟩
  go_wp2_with fail
  refine (l6cond_of b0 b1 s0 s1 t h c _ _ _ _ _ _ _ _ _ _ _ _ _ H16.out (cmdV_vals hm h5).1 (cmdV_vals hm h5).2 (by exact o0.below L o0.1)).mono ?_
  rintro e w3 ⟨rfl, hb⟩
  replace L := L.trans (hb.mono L.size)
  go_wp2
  go_ret
  exact ⟨ret_bool (by rw [HV.out, hs, hm, decide_eq_true h5]; rfl), L⟩

set_option maxHeartbeats 4000000 in
theorem iGuard_any (b0 b1 s0 s1 : Nat) (t h : List Int) (c : Cm) (a0 a1 a2 a3 aA aB : Option Addr) (c0 c1 c2 c3 cA cB : Nat) (w : World) (lo hi : Nat) (n0 : t.length ≤ 1048576) (n1 : h.length ≤ 1048576) (o0 : S.OwnI w b0 t.length t t.length) (o1 : S.OwnI w b1 h.length h h.length) (V : CVal w lo hi c a0 a1 a2 a3 aA aB) (hh : hi ≤ w.heap.size) (hc : c.cnt ≤ 1048576) :
    Calls Try.prog 78 #[.agg #[.slice (some ⟨b0, 0, none⟩) t.length s0, .slice (some ⟨b1, 0, none⟩) h.length s1], .agg #[.int .i64 c.k, .int .i64 c.x, .int .i64 c.y, .bool c.q, .slice a0 c.l0.length c0, .slice a1 c.l1.length c1, .slice a2 c.l2.length c2, .slice a3 c.l3.length c3, .slice aA c.A.length cA, .slice aB c.B.length cB]] w fun e w' => e = .returned (.bool (guardV t h c)) ∧ Below w.heap.size w w' := by
  have HV : Hid (guardV t h c = (S.sOk t h && (cmdV c && (decide (5 ≤ c.k) && condV t c)))) := rfl
  have L : Below w.heap.size w ((w.alloc (.cells #[.slice (some ⟨b0, 0, none⟩) t.length s0, .slice (some ⟨b1, 0, none⟩) h.length s1] 43)).alloc (.cells #[.int .i64 c.k, .int .i64 c.x, .int .i64 c.y, .bool c.q, .slice a0 c.l0.length c0, .slice a1 c.l1.length c1, .slice a2 c.l2.length c2, .slice a3 c.l3.length c3, .slice aA c.A.length cA, .slice aB c.B.length cB] 59)) := ((Below.refl _ _).alloc (Nat.le_refl _) _).alloc (by simp) _
  have X := (S.Box.new w (.slice (some ⟨b0, 0, none⟩) t.length s0) (.slice (some ⟨b1, 0, none⟩) h.length s1) 43).alloc (.cells #[.int .i64 c.k, .int .i64 c.x, .int .i64 c.y, .bool c.q, .slice a0 c.l0.length c0, .slice a1 c.l1.length c1, .slice a2 c.l2.length c2, .slice a3 c.l3.length c3, .slice aA c.A.length cA, .slice aB c.B.length cB] 59)
  have Y := B10.new (w.alloc (.cells #[.slice (some ⟨b0, 0, none⟩) t.length s0, .slice (some ⟨b1, 0, none⟩) h.length s1] 43)) (.int .i64 c.k) (.int .i64 c.x) (.int .i64 c.y) (.bool c.q) (.slice a0 c.l0.length c0) (.slice a1 c.l1.length c1) (.slice a2 c.l2.length c2) (.slice a3 c.l3.length c3) (.slice aA c.A.length cA) (.slice aB c.B.length cB) 59
  simp only [World.size_alloc] at Y
  go_enter Try.func78, Try.ntmps78
  go_wp2_with fail
  refine (S.iStateOk_any b0 b1 s0 s1 t h _ n0 n1 (by exact o0.below L o0.1) (by exact o1.below L o1.1)).mono ?_
  rintro e w1 ⟨rfl, hb⟩
  replace X := X.below hb X.lt; replace Y := Y.below hb Y.lt; replace L := L.trans (hb.mono L.size)
  clear hb
  cases hs : S.sOk t h
  · go_wp2
    go_ret
    exact ⟨ret_bool (by rw [HV.out, hs]; rfl), L⟩
  have H16 : Hid (t.length = 16) := sOk_len hs
  have y0 := Y.c0
  have y1 := Y.c1
  have y2 := Y.c2
  have y3 := Y.c3
  have y4 := Y.c4
  have y5 := Y.c5
  have y6 := Y.c6
  have y7 := Y.c7
  have y8 := Y.c8
  have y9 := Y.c9
  go_wp2_with fail
  refine (iCmdOk_any c _ _ _ _ _ _ _ _ _ _ _ _ _ _ _ (by exact V.below L hh) (by exact Nat.le_trans hh L.size) hc).mono ?_
  rintro e w2 ⟨rfl, hb⟩
  replace X := X.below hb X.lt; replace Y := Y.below hb Y.lt; replace L := L.trans (hb.mono L.size)
  clear hb y0 y1 y2 y3 y4 y5 y6 y7 y8 y9
  cases hm : cmdV c
  · go_wp2
    go_ret
    exact ⟨ret_bool (by rw [HV.out, hs, hm]; rfl), L⟩
  have y0 := Y.c0
  have y1 := Y.c1
  have y2 := Y.c2
  have y3 := Y.c3
  have y4 := Y.c4
  have y5 := Y.c5
  have y6 := Y.c6
  have y7 := Y.c7
  have y8 := Y.c8
  have y9 := Y.c9
  have x0 := X.c0; have x1 := X.c1
  have HK : Hid (0 ≤ c.k) := by
    show 0 ≤ c.k
    by_cases h3 : 0 ≤ c.k
    · exact h3
    · have h0 := hm
      unfold cmdV at h0
      rw [ok_no (.inl (by omega))] at h0; cases h0
  go_wp2_with fail
  refine (plainKind_any _ _).mono ?_
  rintro e w1 ⟨rfl, rfl⟩
  by_cases h5 : 5 ≤ c.k
  rotate_left
  · have hk := HK.out
    rw [decide_eq_true (show 0 ≤ c.k ∧ c.k ≤ 4 by omega)]
    go_wp2
    go_ret
    exact ⟨ret_bool (by rw [HV.out, hs, hm, decide_eq_false (show ¬ 5 ≤ c.k by omega)]; rfl), L⟩
  rw [decide_eq_false (show ¬ (0 ≤ c.k ∧ c.k ≤ 4) by omega)]
  go_wp2_with fail
  refine (meets_of b0 b1 s0 s1 t h c _ _ _ _ _ _ _ _ _ _ _ _ _ H16.out (cmdV_vals hm h5).1 (cmdV_vals hm h5).2 (by exact o0.below L o0.1)).mono ?_
  rintro e w3 ⟨rfl, hb⟩
  replace L := L.trans (hb.mono L.size)
  go_wp2
  go_ret
  exact ⟨ret_bool (by rw [HV.out, hs, hm, decide_eq_true h5]; rfl), L⟩

end Go.Proofs.Ytnaeomppceblpaa
