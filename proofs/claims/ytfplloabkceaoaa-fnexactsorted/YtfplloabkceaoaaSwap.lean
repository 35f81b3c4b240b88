/-
  The contracts of spec.l1swap and spec.l1subst.
-/
import Derived.Test.YtfplloabkceaoaaApp
import Derived.Outline
namespace Go.Proofs.Ytfplloabkceaoaa
open Go.RowKit

def sw (t b x : Int) : Int := if x = t then b else x
def swapL (t b : Int) (l : List (Int × Int)) : List (Int × Int) := l.map fun p => (sw t b p.1, sw t b p.2)
theorem swapL_length (t b : Int) (l : List (Int × Int)) : (swapL t b l).length = l.length := by simp [swapL]
theorem swapL_step (t b : Int) {l : List (Int × Int)} {k : Nat} (hk : k < l.length) : swapL t b (l.take (k + 1)) = swapL t b (l.take k) ++ [(sw t b (l[k]?.getD (0, 0)).1, sw t b (l[k]?.getD (0, 0)).2)] := by
  unfold swapL
  rw [List.take_succ_eq_append_getElem hk, List.map_append]
  simp [hk]

set_option maxHeartbeats 1000000 in
theorem l1swap_any (b cap : Nat) (l : List (Int × Int)) (t by' : Int) (w : World) (hn : l.length ≤ 1048576) (ho : Own w b l.length l l.length) :
    Calls Try.prog 209 #[.slice (some ⟨b, 0, none⟩) l.length cap, .int .i64 t, .int .i64 by'] w fun e w' => ∃ a c, e = .returned (.slice a l.length c) ∧ RowIn w' w.heap.size w'.heap.size a l.length (swapL t by' l) ∧ Below w.heap.size w w' := by
  obtain ⟨i0, hi, hz0, hz1, hz2⟩ := Try.i57
  have HL : Hid (∀ k, k < l.length → swapL t by' (l.take (k + 1)) = swapL t by' (l.take k) ++ [(sw t by' (l[k]?.getD (0, 0)).1, sw t by' (l[k]?.getD (0, 0)).2)]) := fun k hk => swapL_step t by' hk
  have HE : Hid (swapL t by' (l.take l.length) = swapL t by' l) := by show swapL t by' (l.take l.length) = _; rw [List.take_of_length_le (Nat.le_refl _)]
  generalize hN : l.length = n at *
  clear hN
  go_enter Try.func209, Try.ntmps209
  go_wp2
  go_loopw [7, 8] (fun v i wr => ∃ k : Nat, k ≤ n ∧ i = .int .i64 k ∧ wr.ownsRow w.heap.size 69 2 v k (pc (swapL t by' (l.take k))) ∧ Below w.heap.size w wr) (fun _ i _ => n - (intOf i).toNat)
  case atStart => exact ⟨0, Nat.zero_le _, rfl, World.ownsRow_nil _ _ _ _, Below.refl _ _⟩
  case round =>
    obtain ⟨k, hk, rfl, hown, hbw⟩ := hrel
    by_cases hlt : k < n
    · have hc := (ho.below hbw ho.1).2.2 k hlt
      have hx := hc.1
      have hy := hc.2
      have hst := HL.out k hlt
      rw [List.getD_eq_getElem?_getD] at hx hy
      generalize (l[k]?.getD (0, 0)).1 = x at hx hst
      generalize (l[k]?.getD (0, 0)).2 = y at hy hst
      have HS : Hid (swapL t by' (l.take (k + 1)) = swapL t by' (l.take k) ++ [(sw t by' x, sw t by' y)]) := hst
      clear hst hc
      generalize swapL t by' (l.take k) = ls at *
      have e1 : (x == t) = true → sw t by' x = by' := by intro h; simp at h; simp [sw, h]
      have e2 : (x == t) = false → sw t by' x = x := by intro h; simp at h; simp [sw, h]
      have e3 : (y == t) = true → sw t by' y = by' := by intro h; simp at h; simp [sw, h]
      have e4 : (y == t) = false → sw t by' y = y := by intro h; simp at h; simp [sw, h]
      cases hxt : (x == t)
      all_goals cases hyt : (y == t)
      · have EX := e2 hxt
        have EY := e4 hyt
        replace HS : Hid (swapL t by' (l.take (k + 1)) = ls ++ [(x, y)]) := by have h := HS.out; rw [EX, EY] at h; exact h
        clear e1 e2 e3 e4 EX EY
        go_wp2_with (at_builtin; refine wpList_append_own _ rfl _ _ 26 rfl w.heap.size 69 i0 (.agg #[.int .i64 0, .int .i64 0]) 2 16 Try.underlying26 hi hz0 hz1 hz2 rfl (by decide) _ _ _ rfl ((hown.alloc _).alloc _) ⟨wr.heap.size + 1, 0, none⟩ 1 1 (pc [(x, y)]) rfl rfl ?c1 pc_one ?c3 ?c4 ?c5 ?_)
        case c1 =>
          intro j u hj
          match j, hj with
          | 0, hj => simp [pc] at hj; subst hj; simp [Addr.add]
          | 1, hj => simp [pc] at hj; subst hj; simp [Addr.add]
        case c3 => unfold maxLen; omega
        case c4 => omega
        case c5 => have := hbw.size; simp; omega
        · intro v' w4 hown' hg hiff
          have hb2 := ((hbw.alloc hbw.size _).alloc (Nat.le_trans hbw.size (by simp)) _).grown hg (Nat.le_trans hbw.size (by simp; omega)) (by intro q hq; exact (hown.lt q hq).1)
          rw [← pc_append] at hown'
          clear hiff hg hown hbw
          go_wp2
          first
            | (go_roundw
               case rel => exact ⟨k + 1, by omega, by go_num, by rw [HS.out]; exact hown', hb2⟩
               case measure => simp [intOf]; omega)
            | ((repeat apply Exists.intro); exact ⟨⟨k + 1, by omega, by go_num, by rw [HS.out]; exact hown', hb2⟩, rfl⟩)
      · have EX := e2 hxt
        have EY := e3 hyt
        replace HS : Hid (swapL t by' (l.take (k + 1)) = ls ++ [(x, by')]) := by have h := HS.out; rw [EX, EY] at h; exact h
        clear e1 e2 e3 e4 EX EY
        go_wp2_with (at_builtin; refine wpList_append_own _ rfl _ _ 26 rfl w.heap.size 69 i0 (.agg #[.int .i64 0, .int .i64 0]) 2 16 Try.underlying26 hi hz0 hz1 hz2 rfl (by decide) _ _ _ rfl ((hown.alloc _).alloc _) ⟨wr.heap.size + 1, 0, none⟩ 1 1 (pc [(x, by')]) rfl rfl ?c1 pc_one ?c3 ?c4 ?c5 ?_)
        case c1 =>
          intro j u hj
          match j, hj with
          | 0, hj => simp [pc] at hj; subst hj; simp [Addr.add]
          | 1, hj => simp [pc] at hj; subst hj; simp [Addr.add]
        case c3 => unfold maxLen; omega
        case c4 => omega
        case c5 => have := hbw.size; simp; omega
        · intro v' w4 hown' hg hiff
          have hb2 := ((hbw.alloc hbw.size _).alloc (Nat.le_trans hbw.size (by simp)) _).grown hg (Nat.le_trans hbw.size (by simp; omega)) (by intro q hq; exact (hown.lt q hq).1)
          rw [← pc_append] at hown'
          clear hiff hg hown hbw
          go_wp2
          first
            | (go_roundw
               case rel => exact ⟨k + 1, by omega, by go_num, by rw [HS.out]; exact hown', hb2⟩
               case measure => simp [intOf]; omega)
            | ((repeat apply Exists.intro); exact ⟨⟨k + 1, by omega, by go_num, by rw [HS.out]; exact hown', hb2⟩, rfl⟩)
      · have EX := e1 hxt
        have EY := e4 hyt
        replace HS : Hid (swapL t by' (l.take (k + 1)) = ls ++ [(by', y)]) := by have h := HS.out; rw [EX, EY] at h; exact h
        clear e1 e2 e3 e4 EX EY
        go_wp2_with (at_builtin; refine wpList_append_own _ rfl _ _ 26 rfl w.heap.size 69 i0 (.agg #[.int .i64 0, .int .i64 0]) 2 16 Try.underlying26 hi hz0 hz1 hz2 rfl (by decide) _ _ _ rfl ((hown.alloc _).alloc _) ⟨wr.heap.size + 1, 0, none⟩ 1 1 (pc [(by', y)]) rfl rfl ?c1 pc_one ?c3 ?c4 ?c5 ?_)
        case c1 =>
          intro j u hj
          match j, hj with
          | 0, hj => simp [pc] at hj; subst hj; simp [Addr.add]
          | 1, hj => simp [pc] at hj; subst hj; simp [Addr.add]
        case c3 => unfold maxLen; omega
        case c4 => omega
        case c5 => have := hbw.size; simp; omega
        · intro v' w4 hown' hg hiff
          have hb2 := ((hbw.alloc hbw.size _).alloc (Nat.le_trans hbw.size (by simp)) _).grown hg (Nat.le_trans hbw.size (by simp; omega)) (by intro q hq; exact (hown.lt q hq).1)
          rw [← pc_append] at hown'
          clear hiff hg hown hbw
          go_wp2
          first
            | (go_roundw
               case rel => exact ⟨k + 1, by omega, by go_num, by rw [HS.out]; exact hown', hb2⟩
               case measure => simp [intOf]; omega)
            | ((repeat apply Exists.intro); exact ⟨⟨k + 1, by omega, by go_num, by rw [HS.out]; exact hown', hb2⟩, rfl⟩)
      · have EX := e1 hxt
        have EY := e3 hyt
        replace HS : Hid (swapL t by' (l.take (k + 1)) = ls ++ [(by', by')]) := by have h := HS.out; rw [EX, EY] at h; exact h
        clear e1 e2 e3 e4 EX EY
        go_wp2_with (at_builtin; refine wpList_append_own _ rfl _ _ 26 rfl w.heap.size 69 i0 (.agg #[.int .i64 0, .int .i64 0]) 2 16 Try.underlying26 hi hz0 hz1 hz2 rfl (by decide) _ _ _ rfl ((hown.alloc _).alloc _) ⟨wr.heap.size + 1, 0, none⟩ 1 1 (pc [(by', by')]) rfl rfl ?c1 pc_one ?c3 ?c4 ?c5 ?_)
        case c1 =>
          intro j u hj
          match j, hj with
          | 0, hj => simp [pc] at hj; subst hj; simp [Addr.add]
          | 1, hj => simp [pc] at hj; subst hj; simp [Addr.add]
        case c3 => unfold maxLen; omega
        case c4 => omega
        case c5 => have := hbw.size; simp; omega
        · intro v' w4 hown' hg hiff
          have hb2 := ((hbw.alloc hbw.size _).alloc (Nat.le_trans hbw.size (by simp)) _).grown hg (Nat.le_trans hbw.size (by simp; omega)) (by intro q hq; exact (hown.lt q hq).1)
          rw [← pc_append] at hown'
          clear hiff hg hown hbw
          go_wp2
          first
            | (go_roundw
               case rel => exact ⟨k + 1, by omega, by go_num, by rw [HS.out]; exact hown', hb2⟩
               case measure => simp [intOf]; omega)
            | ((repeat apply Exists.intro); exact ⟨⟨k + 1, by omega, by go_num, by rw [HS.out]; exact hown', hb2⟩, rfl⟩)
    · obtain rfl : k = n := by omega
      rw [HE.out] at hown
      obtain ⟨a, c, rfl, hr⟩ := RowIn.ofOwns hown
      go_wp2
      go_ret
      exact ⟨a, c, rfl, hr, hbw⟩

end Go.Proofs.Ytfplloabkceaoaa
