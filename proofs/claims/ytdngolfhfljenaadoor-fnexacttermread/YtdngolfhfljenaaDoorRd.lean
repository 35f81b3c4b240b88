/-
  The contracts of TermRead, in package spec and in package impl.
-/
import Derived.Test.YtdngolfhfljenaaDoorRdb
namespace Go.Proofs.YtdngolfhfljenaaDoor
open Go.RowKit

set_option maxRecDepth 100000 in
set_option maxHeartbeats 1000000 in
theorem sTermRead_any (b c n : Nat) (l : List Int) (w : World) (ho : OwnY w b n l n) (hl : l.length = n) :
    Calls Tryd.prog 28 #[.slice (some ⟨b, 0, none⟩) n c] w fun e w' => e = .returned (.tuple #[.int .i64 (rd (qB l)).1, .bool (rd (qB l)).2]) ∧ Below w.heap.size w w' := by
  have HL : Hid (l.length = n) := hl
  clear hl
  go_enter Tryd.func28, Tryd.ntmps28
  go_wp2
  go_loopw [4] (fun i wr => ∃ k : Nat, k ≤ 16 ∧ i = .int .i64 k ∧ Hid (∀ i, i < k → qB l i = false) ∧ Below w.heap.size w wr) (fun i _ => 16 - (intOf i).toNat)
  case atStart => exact ⟨0, by omega, rfl, fun i hi => by omega, Below.refl _ _⟩
  case round =>
    obtain ⟨k, hk, rfl, hall, hbw⟩ := hrel
    by_cases hlt : k < 16
    · have ho1 := ho.below hbw ho.1
      have ho2 : OwnY wr.drew b n l n := ho1.below ((Below.refl _ _).drew) ho1.1
      have hv0 := ho2.str (c := c) HL.out
      cases hq : qB l k
      all_goals
        have hqq : ((strOfNums (tt k)).toList == (strOfNums l).toList) = qB l k := rfl
        rw [hq] at hqq
        have HQ := (show Hid (qB l k = _) from hq)
        clear hq
        go_wp2
        go_region_with (go_at_call 46; refine (l1term_any _ _ (by omega) (by omega)).mono ?_; rintro e w1 ⟨a, c1, rfl, hr, hb⟩; obtain ⟨g, rfl, hg⟩ := hr.own (tt_pos _); have hv1 := hg.str (c := c1) hr.1; have hv2 := (ho2.below hb ho1.1).str (c := c) HL.out; clear hr hg)
      all_goals
        have hb2 : Below w.heap.size w w1 := hbw.drew.trans (hb.mono (by simpa using hbw.size))
        clear hb hv0 hv1 hv2 ho1 ho2
        go_wp2
        first
          | (go_ret2
             exact ⟨by rw [rd_hit hlt hall.out HQ.out]; rfl, hb2⟩)
          | (go_roundw
             case rel => exact ⟨k + 1, by omega, by go_num, fun i hi => by
               by_cases e : i = k
               · subst e; exact HQ.out
               · exact hall.out i (by omega), hb2⟩
             case measure => simp [intOf]; omega)
    · obtain rfl : k = 16 := by omega
      go_wp2
      go_ret2
      exact ⟨by rw [rd_miss hall.out]; rfl, hbw⟩

set_option maxRecDepth 100000 in
set_option maxHeartbeats 1000000 in
theorem equal_any (b c n b' c' n' : Nat) (l m : List Int) (w : World) (ho : OwnY w b n l n) (hl : l.length = n) (ho' : OwnY w b' n' m n') (hl' : m.length = n') :
    Calls Tryd.prog 38 #[.slice (some ⟨b, 0, none⟩) n c, .slice (some ⟨b', 0, none⟩) n' c'] w fun e w' => e = .returned (.bool ((strOfNums l).toList == (strOfNums m).toList)) ∧ w' = w := by
  have hv1 := ho.str (c := c) hl
  have hv2 := ho'.str (c := c') hl'
  clear ho ho' hl hl'
  go_enter Tryd.func38, Tryd.ntmps38
  go_wp2
  go_ret
  exact ⟨rfl, rfl⟩

set_option maxRecDepth 100000 in
set_option maxHeartbeats 1000000 in
theorem iTermRead_any (b c n : Nat) (l : List Int) (w : World) (ho : OwnY w b n l n) (hl : l.length = n) :
    Calls Tryd.prog 16 #[.slice (some ⟨b, 0, none⟩) n c] w fun e w' => e = .returned (.tuple #[.int .i64 (rd (qB l)).1, .bool (rd (qB l)).2]) ∧ Below w.heap.size w w' := by
  have HL : Hid (l.length = n) := hl
  clear hl
  go_enter Tryd.func16, Tryd.ntmps16
  go_wp2
  go_loopw [5] (fun i wr => ∃ k : Nat, k ≤ 16 ∧ i = .int .i64 k ∧ Hid (∀ i, i < k → qB l i = false) ∧ Below w.heap.size w wr) (fun i _ => 16 - (intOf i).toNat)
  case atStart => exact ⟨0, by omega, rfl, fun i hi => by omega, Below.refl _ _⟩
  case round =>
    obtain ⟨k, hk, rfl, hall, hbw⟩ := hrel
    by_cases hlt : k < 16
    · have ho1 := ho.below hbw ho.1
      go_wp2_with fail
      refine (iTermText_any _ _).mono ?_
      rintro e w1 ⟨a, c1, rfl, hr, hb⟩
      have et : textV (k : Int) = tt k := by unfold textV; rw [if_pos (by simp [tok]; omega)]
      rw [et] at hr
      rw [et]
      clear et
      obtain ⟨g, rfl, hg⟩ := hr.own (tt_pos _)
      have hgl := hr.1
      have ho2 := ho1.below hb ho1.1
      have hb2 := hbw.trans (hb.mono hbw.size)
      clear hr hb ho1 hbw
      have HG : Hid ((tt (k : Int)).length = (tt (k : Int)).length) := hgl
      clear hgl
      go_wp2_with fail
      refine (equal_any _ _ _ _ _ _ (tt k) l _ hg rfl ho2 HL.out).mono ?_
      rintro e w2 ⟨rfl, rfl⟩
      rw [show ((strOfNums (tt k)).toList == (strOfNums l).toList) = qB l k from rfl]
      clear hg ho2
      cases hq : qB l k
      · have HQ : Hid (qB l k = false) := hq
        clear hq
        go_wp2
        go_roundw
        case rel => exact ⟨k + 1, by omega, by go_num, fun i hi => by
          by_cases e : i = k
          · subst e; exact HQ.out
          · exact hall.out i (by omega), hb2⟩
        case measure => simp [intOf]; omega
      · have HQ : Hid (qB l k = true) := hq
        clear hq
        go_wp2
        go_ret2
        exact ⟨by rw [rd_hit hlt hall.out HQ.out]; rfl, hb2⟩
    · obtain rfl : k = 16 := by omega
      go_wp2
      go_ret2
      exact ⟨by rw [rd_miss hall.out]; rfl, hbw⟩

end Go.Proofs.YtdngolfhfljenaaDoor
