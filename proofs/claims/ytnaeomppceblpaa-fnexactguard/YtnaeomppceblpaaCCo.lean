/-
  The contracts of CmdOk, in package spec and in package impl.
-/
import Derived.Test.YtnaeomppceblpaaCTop
import Derived.Outline
import Derived.Deep.RegionWith
import Derived.Deep.RegionHeld3
namespace Go.Proofs.Ytnaeomppceblpaa
open Go.RowKit Go.Deep

def cmdV (c : Cm) : Bool := c.ok 0 && decide (c.size ≤ 20)
theorem wrapk_two (s t : Nat) (h : (s : Int) ≤ 1048576) (k : (t : Int) ≤ 1048576) : IntKind.i64.wrap (IntKind.i64.wrap (1 + (s : Int)) + t) = 1 + s + t := by rw [IntKind.wrap_i64, IntKind.wrap_i64]; omega
theorem wrapk_twob (s t : Nat) (h : (s : Int) ≤ 1048576) (k : (t : Int) ≤ 1048576) : IntKind.i64.wrap (1 + (s : Int) + t) = 1 + s + t := by rw [IntKind.wrap_i64]; omega
theorem wrapk_oneb (s : Nat) (h : (s : Int) ≤ 1048576) : IntKind.i64.wrap (1 + (s : Int)) = 1 + s := by rw [IntKind.wrap_i64]; omega

set_option linter.unusedSimpArgs false in
set_option maxHeartbeats 4000000 in
theorem sCmdOk_any (c : Cm) (a0 a1 a2 a3 aA aB : Option Addr) (c0 c1 c2 c3 cA cB : Nat) (w : World) (lo hi : Nat) (V : CVal w lo hi c a0 a1 a2 a3 aA aB) (hh : hi ≤ w.heap.size) (hc : c.cnt ≤ 1048576) :
    Calls Try.prog 45 #[.agg #[.int .i64 c.k, .int .i64 c.x, .int .i64 c.y, .bool c.q, .slice a0 c.l0.length c0, .slice a1 c.l1.length c1, .slice a2 c.l2.length c2, .slice a3 c.l3.length c3, .slice aA c.A.length cA, .slice aB c.B.length cB]] w fun e w' => e = .returned (.bool (cmdV c)) ∧ Below w.heap.size w w' := by
  have F := Fit.of hc
  have HV : Hid (cmdV c = (c.ok 0 && decide (1 + sizes c.A + sizes c.B ≤ 20))) := by show cmdV c = _; unfold cmdV; rw [c.size_eq]
  have B1 := B10.new w (.int .i64 c.k) (.int .i64 c.x) (.int .i64 c.y) (.bool c.q) (.slice a0 c.l0.length c0) (.slice a1 c.l1.length c1) (.slice a2 c.l2.length c2) (.slice a3 c.l3.length c3) (.slice aA c.A.length cA) (.slice aB c.B.length cB) 59
  have L0 : Below w.heap.size w (w.alloc (.cells #[.int .i64 c.k, .int .i64 c.x, .int .i64 c.y, .bool c.q, .slice a0 c.l0.length c0, .slice a1 c.l1.length c1, .slice a2 c.l2.length c2, .slice a3 c.l3.length c3, .slice aA c.A.length cA, .slice aB c.B.length cB] 59)) := (Below.refl _ _).alloc (Nat.le_refl _) _
  have V0 := V.below L0 hh
  have hh0 : hi ≤ (w.alloc (.cells #[.int .i64 c.k, .int .i64 c.x, .int .i64 c.y, .bool c.q, .slice a0 c.l0.length c0, .slice a1 c.l1.length c1, .slice a2 c.l2.length c2, .slice a3 c.l3.length c3, .slice aA c.A.length cA, .slice aB c.B.length cB] 59)).heap.size := Nat.le_trans hh L0.size
  have HOK : Hid (∀ w', Below (w.alloc (.cells #[.int .i64 c.k, .int .i64 c.x, .int .i64 c.y, .bool c.q, .slice a0 c.l0.length c0, .slice a1 c.l1.length c1, .slice a2 c.l2.length c2, .slice a3 c.l3.length c3, .slice aA c.A.length cA, .slice aB c.B.length cB] 59)).heap.size (w.alloc (.cells #[.int .i64 c.k, .int .i64 c.x, .int .i64 c.y, .bool c.q, .slice a0 c.l0.length c0, .slice a1 c.l1.length c1, .slice a2 c.l2.length c2, .slice a3 c.l3.length c3, .slice aA c.A.length cA, .slice aB c.B.length cB] 59)) w' → Calls Try.prog 94 #[.agg #[.int .i64 c.k, .int .i64 c.x, .int .i64 c.y, .bool c.q, .slice a0 c.l0.length c0, .slice a1 c.l1.length c1, .slice a2 c.l2.length c2, .slice a3 c.l3.length c3, .slice aA c.A.length cA, .slice aB c.B.length cB], .int .i64 0] w' fun e w'' => e = .returned (.bool (c.ok 0)) ∧ Below w'.heap.size w' w'') := fun w' h => by
    exact l6ok_of (l6all_any _) (l6all_any _) a0 a1 a2 a3 aA aB c0 c1 c2 c3 cA cB w' lo hi 0 (V0.below h hh0) (Nat.le_trans hh0 h.size) hc (by omega)
  obtain ⟨sA, hsA⟩ : ∃ s, sizes c.A = s := ⟨_, rfl⟩
  obtain ⟨sB, hsB⟩ : ∃ s, sizes c.B = s := ⟨_, rfl⟩
  have HSA : Hid (∀ w', Below (w.alloc (.cells #[.int .i64 c.k, .int .i64 c.x, .int .i64 c.y, .bool c.q, .slice a0 c.l0.length c0, .slice a1 c.l1.length c1, .slice a2 c.l2.length c2, .slice a3 c.l3.length c3, .slice aA c.A.length cA, .slice aB c.B.length cB] 59)).heap.size (w.alloc (.cells #[.int .i64 c.k, .int .i64 c.x, .int .i64 c.y, .bool c.q, .slice a0 c.l0.length c0, .slice a1 c.l1.length c1, .slice a2 c.l2.length c2, .slice a3 c.l3.length c3, .slice aA c.A.length cA, .slice aB c.B.length cB] 59)) w' → Calls Try.prog 95 #[.slice aA c.A.length cA] w' fun e w'' => e = .returned (.int .i64 sA) ∧ Below w'.heap.size w' w'') := fun w' h => by
    rw [← hsA]; exact (l6size_any _ _ _ _ _ _ (V0.rA.below h hh0) F.nA).mono fun e w'' ⟨h1, n, h2⟩ => ⟨h1, by rw [h2]; exact Below.drewN _ _⟩
  have HSB : Hid (∀ w', Below (w.alloc (.cells #[.int .i64 c.k, .int .i64 c.x, .int .i64 c.y, .bool c.q, .slice a0 c.l0.length c0, .slice a1 c.l1.length c1, .slice a2 c.l2.length c2, .slice a3 c.l3.length c3, .slice aA c.A.length cA, .slice aB c.B.length cB] 59)).heap.size (w.alloc (.cells #[.int .i64 c.k, .int .i64 c.x, .int .i64 c.y, .bool c.q, .slice a0 c.l0.length c0, .slice a1 c.l1.length c1, .slice a2 c.l2.length c2, .slice a3 c.l3.length c3, .slice aA c.A.length cA, .slice aB c.B.length cB] 59)) w' → Calls Try.prog 95 #[.slice aB c.B.length cB] w' fun e w'' => e = .returned (.int .i64 sB) ∧ Below w'.heap.size w' w'') := fun w' h => by
    rw [← hsB]; exact (l6size_any _ _ _ _ _ _ (V0.rB.below h hh0) F.nB).mono fun e w'' ⟨h1, n, h2⟩ => ⟨h1, by rw [h2]; exact Below.drewN _ _⟩
  have fA : (sA : Int) ≤ 1048576 := by have := sizes_le_cnts c.A; have := F.nA; omega
  have fB : (sB : Int) ≤ 1048576 := by have := sizes_le_cnts c.B; have := F.nB; omega
  rw [hsA, hsB] at HV
  have TT : Hid (IntKind.i64.wrap (IntKind.i64.wrap (1 + (sA : Int)) + sB) = 1 + sA + sB ∧ IntKind.i64.wrap (1 + (sA : Int)) = 1 + sA ∧ IntKind.i64.wrap (1 + (sA : Int) + sB) = 1 + sA + sB) := ⟨wrapk_two sA sB fA fB, wrapk_oneb sA fA, wrapk_twob sA sB fA fB⟩
  clear hsA hsB fA fB V V0 F
  have D0 : Below (w.alloc (.cells #[.int .i64 c.k, .int .i64 c.x, .int .i64 c.y, .bool c.q, .slice a0 c.l0.length c0, .slice a1 c.l1.length c1, .slice a2 c.l2.length c2, .slice a3 c.l3.length c3, .slice aA c.A.length cA, .slice aB c.B.length cB] 59)).heap.size (w.alloc (.cells #[.int .i64 c.k, .int .i64 c.x, .int .i64 c.y, .bool c.q, .slice a0 c.l0.length c0, .slice a1 c.l1.length c1, .slice a2 c.l2.length c2, .slice a3 c.l3.length c3, .slice aA c.A.length cA, .slice aB c.B.length cB] 59)) (w.alloc (.cells #[.int .i64 c.k, .int .i64 c.x, .int .i64 c.y, .bool c.q, .slice a0 c.l0.length c0, .slice a1 c.l1.length c1, .slice a2 c.l2.length c2, .slice a3 c.l3.length c3, .slice aA c.A.length cA, .slice aB c.B.length cB] 59)).drew := (Below.refl _ _).drew
  have B1d := B1.below D0 B1.lt
  have y8 := B1.c8; have y9 := B1.c9
  cases hok : c.ok 0
  · rw [hok] at HOK
    go_enter Try.func45, Try.ntmps45
    go_wp2_with fail
    have q0 := B1d.c0
    have q1 := B1d.c1
    have q2 := B1d.c2
    have q3 := B1d.c3
    have q4 := B1d.c4
    have q5 := B1d.c5
    have q6 := B1d.c6
    have q7 := B1d.c7
    have q8 := B1d.c8
    have q9 := B1d.c9
    refine wp_region_held_drew (S := fun _ => True) (by kernel_rfl) trivial (fun _ => ?_)
    refine wpAnyH_ready (rs := [0]) (by kernel_rfl) (by simp) ?_
    refine AllReadyH.cons rfl (fun K hK => ?_) AllReadyH.nil
    rw [if_pos (by rfl)]
    go_simp
    refine hK.out _ _ trivial (fun _ => ?_)
    clear hK K
    clear q0 q1 q2 q3 q4 q5 q6 q7 q8 q9
    refine wpAnyH_ready (rs := [1]) (by kernel_rfl) (by simp) ?_
    refine AllReadyH.cons rfl (fun K hK => ?_) AllReadyH.nil
    rw [if_pos (by rfl)]
    go_simp
    refine (HOK.out _ D0).mono ?_
    rintro e w1 ⟨rfl, hb1⟩
    have M := L0.trans ((D0.trans (hb1.mono D0.size)).mono L0.size)
    clear hb1
    refine hK.out _ _ trivial (fun _ => ?_)
    clear hK K
    refine wpAnyH_ready (rs := [2]) (by kernel_rfl) (by simp) ?_
    refine AllReadyH.cons rfl (fun K hK => ?_) AllReadyH.nil
    rw [if_pos (by rfl)]
    go_simp
    refine hK.out _ _ trivial (fun _ => ?_)
    clear hK K
    refine wpAnyH_take (i := 3) (v := undef) rfl (by kernel_rfl) (by kernel_rfl) (by kernel_rfl) (fun _ _ _ h => h) (Or.inr ⟨by rfl, rfl⟩) trivial ?_
    simp only [Act.put, List.setIfInBounds_toArray, List.set_cons_zero, List.set_cons_succ]
    refine wpAnyH_take (i := 4) (v := undef) rfl (by kernel_rfl) (by kernel_rfl) (by kernel_rfl) (fun _ _ _ h => h) (Or.inr ⟨by rfl, rfl⟩) trivial ?_
    simp only [Act.put, List.setIfInBounds_toArray, List.set_cons_zero, List.set_cons_succ]
    refine wpAnyH_take (i := 5) (v := undef) rfl (by kernel_rfl) (by kernel_rfl) (by kernel_rfl) (fun _ _ _ h => h) (Or.inr ⟨by rfl, rfl⟩) trivial ?_
    simp only [Act.put, List.setIfInBounds_toArray, List.set_cons_zero, List.set_cons_succ]
    refine wpAnyH_take (i := 6) (v := undef) rfl (by kernel_rfl) (by kernel_rfl) (by kernel_rfl) (fun _ _ _ h => h) (Or.inr ⟨by rfl, rfl⟩) trivial ?_
    simp only [Act.put, List.setIfInBounds_toArray, List.set_cons_zero, List.set_cons_succ]
    refine wpAnyH_take (i := 7) (v := undef) rfl (by kernel_rfl) (by kernel_rfl) (by kernel_rfl) (fun _ _ _ h => h) (Or.inr ⟨by rfl, rfl⟩) trivial ?_
    simp only [Act.put, List.setIfInBounds_toArray, List.set_cons_zero, List.set_cons_succ]
    refine wpAnyH_take (i := 8) (v := undef) rfl (by kernel_rfl) (by kernel_rfl) (by kernel_rfl) (fun _ _ _ h => h) (Or.inr ⟨by rfl, rfl⟩) trivial ?_
    simp only [Act.put, List.setIfInBounds_toArray, List.set_cons_zero, List.set_cons_succ]
    refine wpAnyH_take (i := 9) (v := undef) rfl (by kernel_rfl) (by kernel_rfl) (by kernel_rfl) (fun _ _ _ h => h) (Or.inr ⟨by rfl, rfl⟩) trivial ?_
    simp only [Act.put, List.setIfInBounds_toArray, List.set_cons_zero, List.set_cons_succ]
    refine wpAnyH_take (i := 10) (v := undef) rfl (by kernel_rfl) (by kernel_rfl) (by kernel_rfl) (fun _ _ _ h => h) (Or.inr ⟨by rfl, rfl⟩) trivial ?_
    simp only [Act.put, List.setIfInBounds_toArray, List.set_cons_zero, List.set_cons_succ]
    refine wpAnyH_take (i := 11) (v := undef) rfl (by kernel_rfl) (by kernel_rfl) (by kernel_rfl) (fun _ _ _ h => h) (Or.inr ⟨by rfl, rfl⟩) trivial ?_
    simp only [Act.put, List.setIfInBounds_toArray, List.set_cons_zero, List.set_cons_succ]
    refine wpAnyH_ready (rs := [12]) (by kernel_rfl) (by simp) ?_
    refine AllReadyH.cons rfl (fun K hK => ?_) AllReadyH.nil
    rw [if_pos (by rfl)]
    go_simp
    refine hK.out _ _ trivial (fun _ => ?_)
    clear hK K
    refine wpAnyH_ready (rs := [13]) (by kernel_rfl) (by simp) ?_
    refine AllReadyH.cons rfl (fun K hK => ?_) AllReadyH.nil
    rw [if_pos (by rfl)]
    go_simp
    refine hK.out _ _ trivial (fun _ => ?_)
    clear hK K
    refine wpAnyH_done (by kernel_rfl) ?_ _
    go_wp2
    go_ret
    exact ⟨ret_bool (by rw [HV.out, hok]; rfl), M⟩
  · rw [hok] at HOK
    go_enter Try.func45, Try.ntmps45
    go_wp2_with fail
    go_region_with (first
      | (go_at_call 94; refine (HOK.out _ D0).mono ?_; rintro e w1 ⟨rfl, hb1⟩; have z8 := (B1d.below hb1 B1d.lt).c8; have z9 := (B1d.below hb1 B1d.lt).c9; have D1 := D0.trans (hb1.mono D0.size))
      | (go_at_call_of 95 aA; refine (HSA.out _ D1).mono ?_; rintro e w2 ⟨rfl, hb2⟩; have z9b := ((B1d.below hb1 B1d.lt).below hb2 (B1d.below hb1 B1d.lt).lt).c9; have D2 := D1.trans (hb2.mono D1.size))
      | (go_at_call_of 95 aB; refine (HSB.out _ D2).mono ?_; rintro e w3 ⟨rfl, hb3⟩))
    all_goals
      have M := L0.trans ((D2.trans (hb3.mono D2.size)).mono L0.size)
      obtain ⟨_, T2, T3⟩ := TT.out
      simp only [T2, T3]
      go_wp2
      go_ret
      exact ⟨ret_bool (by rw [HV.out, hok, Bool.eq_iff_iff]; simp; omega), M⟩

set_option maxHeartbeats 1000000 in
theorem iCmdOk_any (c : Cm) (a0 a1 a2 a3 aA aB : Option Addr) (c0 c1 c2 c3 cA cB : Nat) (w : World) (lo hi : Nat) (V : CVal w lo hi c a0 a1 a2 a3 aA aB) (hh : hi ≤ w.heap.size) (hc : c.cnt ≤ 1048576) :
    Calls Try.prog 47 #[.agg #[.int .i64 c.k, .int .i64 c.x, .int .i64 c.y, .bool c.q, .slice a0 c.l0.length c0, .slice a1 c.l1.length c1, .slice a2 c.l2.length c2, .slice a3 c.l3.length c3, .slice aA c.A.length cA, .slice aB c.B.length cB]] w fun e w' => e = .returned (.bool (cmdV c)) ∧ Below w.heap.size w w' := by
  have HV : Hid (progV [c] = cmdV c) := by
    show progV [c] = cmdV c
    unfold progV cmdV okS
    simp [oks, sizes_cons, sizes_nil]
  have L0 : Below w.heap.size w ((w.alloc (.cells #[.int .i64 c.k, .int .i64 c.x, .int .i64 c.y, .bool c.q, .slice a0 c.l0.length c0, .slice a1 c.l1.length c1, .slice a2 c.l2.length c2, .slice a3 c.l3.length c3, .slice aA c.A.length cA, .slice aB c.B.length cB] 59)).alloc (.cells #[.int .i64 c.k, .int .i64 c.x, .int .i64 c.y, .bool c.q, .slice a0 c.l0.length c0, .slice a1 c.l1.length c1, .slice a2 c.l2.length c2, .slice a3 c.l3.length c3, .slice aA c.A.length cA, .slice aB c.B.length cB] 59)) := ((Below.refl _ _).alloc (Nat.le_refl _) _).alloc (by simp) _
  have V0 := V.below L0 hh
  have X : C10 ((w.alloc (.cells #[.int .i64 c.k, .int .i64 c.x, .int .i64 c.y, .bool c.q, .slice a0 c.l0.length c0, .slice a1 c.l1.length c1, .slice a2 c.l2.length c2, .slice a3 c.l3.length c3, .slice aA c.A.length cA, .slice aB c.B.length cB] 59)).alloc (.cells #[.int .i64 c.k, .int .i64 c.x, .int .i64 c.y, .bool c.q, .slice a0 c.l0.length c0, .slice a1 c.l1.length c1, .slice a2 c.l2.length c2, .slice a3 c.l3.length c3, .slice aA c.A.length cA, .slice aB c.B.length cB] 59)) (w.heap.size + 1) 0 c a0 a1 a2 a3 aA aB c0 c1 c2 c3 cA cB := by
    have := C10.new (w.alloc (.cells #[.int .i64 c.k, .int .i64 c.x, .int .i64 c.y, .bool c.q, .slice a0 c.l0.length c0, .slice a1 c.l1.length c1, .slice a2 c.l2.length c2, .slice a3 c.l3.length c3, .slice aA c.A.length cA, .slice aB c.B.length cB] 59)) c a0 a1 a2 a3 aA aB c0 c1 c2 c3 cA cB 59
    simpa using this
  have R : CRow ((w.alloc (.cells #[.int .i64 c.k, .int .i64 c.x, .int .i64 c.y, .bool c.q, .slice a0 c.l0.length c0, .slice a1 c.l1.length c1, .slice a2 c.l2.length c2, .slice a3 c.l3.length c3, .slice aA c.A.length cA, .slice aB c.B.length cB] 59)).alloc (.cells #[.int .i64 c.k, .int .i64 c.x, .int .i64 c.y, .bool c.q, .slice a0 c.l0.length c0, .slice a1 c.l1.length c1, .slice a2 c.l2.length c2, .slice a3 c.l3.length c3, .slice aA c.A.length cA, .slice aB c.B.length cB] 59)) 0 (w.heap.size + 1 + 1) (some ⟨w.heap.size + 1, 0, none⟩) [c] := by
    refine ⟨by simp; decide, .inr ⟨_, 0, rfl, Nat.zero_le _, by omega, ?_⟩⟩
    unfold CsAt
    exact ⟨CAt.mk X (V0.keep (Eqv.refl _ _ _) (Nat.zero_le _) (by omega)), by unfold CsAt; trivial⟩
  have hcn : cnts [c] ≤ 1048577 := by rw [cnts_cons, cnts_nil]; omega
  go_enter Try.func47, Try.ntmps47
  go_wp2_with fail
  refine (iProgOk_any [c] _ 0 _ _ _ R (by simp) hcn).mono ?_
  rintro e w1 ⟨rfl, hb⟩
  have M := L0.trans (hb.mono L0.size)
  rw [HV.out]
  go_wp2
  go_ret
  exact ⟨rfl, M⟩

end Go.Proofs.Ytnaeomppceblpaa
