/-
  The contracts of AllHold, in package spec and in package impl.
-/
import Derived.Test.YtccldjodijdciaaDoorCn
namespace Go.Proofs.YtccldjodijdciaaDoor
open Go.RowKit


def holdB (l : List Int) : Bool := decide (l.length ≤ 20000) && decide (cntV l 0 = ((linesV l).length : Int))
theorem cntV_ge (l : List Int) (v : Int) : -1 ≤ cntV l v ∧ cntV l v ≤ l.length := by
  have h1 := cnt_le (vw v) (linesV l)
  have h2 := linesV_le l
  unfold cntV
  split <;> omega

set_option maxRecDepth 20000 in
set_option maxHeartbeats 2000000 in
theorem sAllHold_any (b : Nat) (l : List Int) (w : World) (hn : l.length ≤ 1048576) (hr : OwnY w b l.length l l.length) :
    Calls Tryd.prog 14 #[.slice (some ⟨b, 0, none⟩) l.length l.length] w fun e w' => e = .returned (.bool (holdB l)) ∧ Below w.heap.size w w' := by
  by_cases c0 : 20000 < l.length
  · have HV : Hid (holdB l = false) := by show holdB l = false; unfold holdB; rw [decide_eq_false (by omega)]; rfl
    go_enter Tryd.func14, Tryd.ntmps14
    go_wp2
    go_ret
    exact ⟨ret_bool HV.out.symm, Below.refl _ _⟩
  have HV : Hid (holdB l = decide (cntV l 0 = ((linesV l).length : Int))) := by show holdB l = _; unfold holdB; rw [decide_eq_true (p := l.length ≤ 20000) (by omega)]; rfl
  have hc1 := sCountOf_any b l 0 w hn hr
  go_enter Tryd.func14, Tryd.ntmps14
  go_wp2_with fail
  refine hc1.mono ?_
  rintro e w1 ⟨rfl, L1⟩
  have hc2 := l9lines_any b l w1 hn (hr.below L1 hr.1)
  clear hc1 hr
  generalize cntV l 0 = q at *
  go_wp2_with fail
  refine hc2.mono ?_
  rintro e w2 ⟨v, rfl, ho, L2⟩
  clear hc2
  obtain ⟨va, vc, rfl⟩ := ho.form
  clear ho
  have L3 := L1.trans (L2.mono L1.size)
  generalize (linesV l).length = m at *
  go_wp2
  go_ret
  exact ⟨ret_bool (by rw [HV.out]; rfl), L3⟩

set_option maxRecDepth 20000 in
set_option maxHeartbeats 2000000 in
theorem iAllHold_any (b : Nat) (l : List Int) (w : World) (hn : l.length ≤ 1048576) (hr : OwnY w b l.length l l.length) (hby : ∀ x ∈ l, 0 ≤ x ∧ x < 256) (hL : verdict.Lw w) :
    Calls Tryd.prog 15 #[.slice (some ⟨b, 0, none⟩) l.length l.length] w fun e w' => e = .returned (.bool (holdB l)) ∧ Below w.heap.size w w' := by
  have HV : Hid (holdB l = decide (cntV l 0 = ((linesV l).length : Int))) := by
    show holdB l = _
    unfold holdB
    by_cases c0 : l.length ≤ 20000
    · rw [decide_eq_true c0]; rfl
    · have : cntV l 0 = -1 := by unfold cntV; rw [if_pos (.inl (by omega))]
      rw [decide_eq_false c0, this, decide_eq_false (by omega)]
      rfl
  have hc1 := iCountOf_any b l 0 w hn hr hby hL
  go_enter Tryd.func15, Tryd.ntmps15
  go_wp2_with fail
  refine hc1.mono ?_
  rintro e w1 ⟨rfl, L1⟩
  have hc2 := linesOf_any b l w1 hn (hr.below L1 hr.1) hby
  clear hc1 hr hby
  generalize cntV l 0 = q at *
  go_wp2_with fail
  refine hc2.mono ?_
  rintro e w2 ⟨v, rfl, ho, L2⟩
  clear hc2
  obtain ⟨va, vc, rfl⟩ := ho.form
  clear ho
  have L3 := L1.trans (L2.mono L1.size)
  generalize (linesV l).length = m at *
  go_wp2
  go_ret
  exact ⟨ret_bool (by rw [HV.out]; rfl), L3⟩

end Go.Proofs.YtccldjodijdciaaDoor
