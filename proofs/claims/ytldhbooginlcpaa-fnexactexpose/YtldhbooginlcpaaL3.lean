/-
  The contract of spec.l3classes.
-/
import Derived.Test.YtldhbooginlcpaaJc
import Derived.Laws.AppendOwnNone
namespace Go.Proofs.Ytldhbooginlcpaa
open Go.RowKit
theorem Try.i3 : ∃ i, Try.prog.info? 3 = some i ∧ i.zero = some (.int .i64 0) ∧ i.size = 1 ∧ i.bytes = 8 := by
  have h : (Try.prog.info? 3).map (fun i => (i.zero, i.size, i.bytes)) = some (some (.int .i64 0), 1, 8) := by kernel_rfl
  cases hi : Try.prog.info? 3 with
  | none => rw [hi] at h; simp at h
  | some i =>
    rw [hi] at h
    simp only [Option.map_some, Option.some.injEq, Prod.mk.injEq] at h
    exact ⟨i, rfl, h.1, h.2.1, h.2.2⟩
theorem Mix.keep {w : World} {b k : Nat} {d c : List Int} (h : Mix w b d c k) (e : d.getD k 0 = c.getD k 0) : Mix w b d c (k + 1) := by
  refine ⟨h.1, h.2.1, fun j hj => ?_⟩
  rw [h.2.2 j hj]
  by_cases g : j < k
  · rw [if_pos g, if_pos (by omega)]
  · rw [if_neg g]
    by_cases q : j = k
    · subst q; rw [if_pos (by omega), e]
    · rw [if_neg (by omega)]
theorem ids_take {k : Nat} (h : k < 16) : ids.take (k + 1) = ids.take k ++ [(k : Int)] := by
  rw [List.take_add_one, List.getElem?_eq_getElem (by rw [ids_length]; exact h)]
  simp [ids]
theorem ids_take_len {k : Nat} (h : k ≤ 16) : (ids.take k).length = k := by rw [List.length_take, ids_length]; omega

set_option maxRecDepth 3000 in
set_option maxHeartbeats 1000000 in
theorem l3classes_any (a0 a1 a2 a3 : Option Addr) (c0 c1 c2 c3 : Nat) (l0 l1 l2 l3 : List (Int × Int)) (w : World) (n0 : l0.length ≤ 1048576) (ht : toks l0 = true) (r0 : PRow w a0 l0) :
    Calls Try.prog 133 #[.agg #[.slice a0 l0.length c0, .slice a1 l1.length c1, .slice a2 l2.length c2, .slice a3 l3.length c3]] w fun e w' => ∃ b c, e = .returned (.slice (some ⟨b, 0, none⟩) 16 c) ∧ w.heap.size ≤ b ∧ OwnI w' b 16 (clsV l0) 16 ∧ Below w.heap.size w w' := by
  have B0 := Box.new w (.slice a0 l0.length c0) (.slice a1 l1.length c1) (.slice a2 l2.length c2) (.slice a3 l3.length c3) 28
  have L0 : Below w.heap.size w (w.alloc (.cells #[.slice a0 l0.length c0, .slice a1 l1.length c1, .slice a2 l2.length c2, .slice a3 l3.length c3] 28)) := (Below.refl _ _).alloc (Nat.le_refl _) _
  obtain ⟨i0, hi, hz0, hz1, hz2⟩ := Try.i3
  have s0 : w.heap.size ≤ (w.alloc (.cells #[.slice a0 l0.length c0, .slice a1 l1.length c1, .slice a2 l2.length c2, .slice a3 l3.length c3] 28)).heap.size := by simp
  go_enter Try.func133, Try.ntmps133
  go_wp2_with fail
  generalize w.alloc (.cells #[.slice a0 l0.length c0, .slice a1 l1.length c1, .slice a2 l2.length c2, .slice a3 l3.length c3] 28) = W at *
  go_loopw [3, 4] (fun v i wr => ∃ k : Nat, k ≤ 16 ∧ i = .int .i64 k ∧ wr.ownsRow W.heap.size 3 1 v k (ic (ids.take k)) ∧ Below W.heap.size W wr) (fun _ i _ => 16 - (intOf i).toNat)
  case atStart => exact ⟨0, by omega, rfl, World.ownsRow_nil _ _ _ _, Below.refl _ _⟩
  case round =>
    obtain ⟨k, hk, rfl, hown, hbw⟩ := hrel
    by_cases hlt : k < 16
    · have HF : Hid (ids.take (k + 1) = ids.take k ++ [(k : Int)]) := ids_take hlt
      generalize ids.take k = ls at *
      have hkn : (k : Int) < 16 := by omega
      go_wp2_with (at_builtin; refine wpList_append_own _ rfl _ _ 44 rfl W.heap.size 3 i0 (.int .i64 0) 1 8 Try.underlying44 hi hz0 hz1 hz2 rfl (by decide) _ _ _ rfl (hown.alloc _) ⟨wr.heap.size, 0, none⟩ 1 1 [.int .i64 k] rfl rfl ?c1 ?c2 ?c3 ?c4 ?c5 ?_)
      case c1 =>
        intro j u hj
        match j, hj with
        | 0, hj => simp at hj; subst hj; simp [Addr.add]
      case c2 => intro u hu; simp at hu; subst hu; rfl
      case c3 => unfold maxLen; omega
      case c4 => omega
      case c5 => have := hbw.size; simp; omega
      · intro v' w4 hown' hg hiff
        have hb2 := (hbw.alloc hbw.size _).grown hg (Nat.le_trans hbw.size (by simp)) (by intro q hq; exact (hown.lt q hq).1)
        clear hiff hg hown hbw
        go_wp2
        first
          | (go_roundw
             case rel => exact ⟨k + 1, by omega, by go_num, by rw [HF.out]; simpa [ic] using hown', hb2⟩
             case measure => simp [intOf]; omega)
          | ((repeat apply Exists.intro); exact ⟨⟨k + 1, by omega, by go_num, by rw [HF.out]; simpa [ic] using hown', hb2⟩, rfl⟩)
    · have hown2 := hown
      rw [show k = 16 by omega] at hown2
      obtain ⟨a, cp, rfl, hr⟩ := IntIn.ofOwns hown2
      clear hown2
      obtain ⟨hl, h0 | ⟨b, rfl, g1, g2, O⟩⟩ := hr
      · omega
      have C1 : OwnI wr b 16 (clsV (l0.take 0)) 16 := by rw [show ids.take 16 = ids from rfl] at O; simpa [clsV] using O
      have L := L0.trans (hbw.mono s0)
      have X := B0.below hbw B0.lt
      have g3 := B0.lt
      have s1 : w.heap.size + 1 ≤ W.heap.size := by omega
      clear hown hbw O hl L0 B0
      generalize W.heap.size = NW at *
      clear g2
      go_wp2_with fail
      go_loopw [5] (fun i wr => ∃ k : Nat, k ≤ l0.length ∧ i = .int .i64 k ∧ OwnI wr b 16 (clsV (l0.take k)) 16 ∧ Box wr w.heap.size (.slice a0 l0.length c0) (.slice a1 l1.length c1) (.slice a2 l2.length c2) (.slice a3 l3.length c3) ∧ Below w.heap.size w wr) (fun i _ => l0.length - (intOf i).toNat)
      case atStart => exact ⟨0, Nat.zero_le _, rfl, C1, X, L⟩
      case round =>
        clear C1 X L
        obtain ⟨k, hk, rfl, C, X, L⟩ := hrel
        by_cases hlt : k < l0.length
        · rcases r0 with hnil | ⟨b0, off, rfl, hb, hc⟩
          · rw [hnil] at hlt; simp at hlt
          have hq0 : wr.cell? ⟨b0, off + k * 2, none⟩ = some (.int .i64 (l0.getD k (0, 0)).1) := by rw [L.cell (p := ⟨b0, _, none⟩) hb]; exact (hc k hlt).1
          have hq1 : wr.cell? ⟨b0, off + k * 2 + 1, none⟩ = some (.int .i64 (l0.getD k (0, 0)).2) := by rw [L.cell (p := ⟨b0, _, none⟩) hb]; exact (hc k hlt).2
          have hkn : (k : Int) < (l0.length : Int) := by omega
          have hk0' : (0 : Int) ≤ (k : Int) := by omega
          have htk := toks_get ht hlt
          have hcs := Cls.take ht k hk
          have hnx := clsV_step hlt
          generalize hp : l0.getD k (0, 0) = p at *
          clear hp hc
          obtain ⟨⟨q1, q2⟩, q3, q4⟩ := htk
          obtain ⟨x, y, rfl, hx, hy⟩ : ∃ x y : Nat, p = ((x : Int), (y : Int)) ∧ x < 16 ∧ y < 16 := ⟨p.1.toNat, p.2.toNat, by rw [Int.toNat_of_nonneg q1, Int.toNat_of_nonneg q3], by omega, by omega⟩
          clear q1 q2 q3 q4
          dsimp only at hq0 hq1
          have HNX : Hid (clsV (l0.take (k + 1)) = jn (clsV (l0.take k)) ((x : Int), (y : Int))) := hnx
          clear hnx ht
          have HL : Hid ((clsV (l0.take k)).length = 16) := hcs.1
          clear hcs
          generalize clsV (l0.take k) = c at *
          have hxi : (x : Int) < 16 := by omega
          have hyi : (y : Int) < 16 := by omega
          have hx0 : (0 : Int) ≤ (x : Int) := by omega
          have hy0 : (0 : Int) ≤ (y : Int) := by omega
          have e0 := X.c0
          have eu := C.2.2 x hx
          have ev := C.2.2 y hy
          have HJ0 : Hid (jn c ((x : Int), (y : Int)) = reps c (max (c.getD x 0) (c.getD y 0)) (min (c.getD x 0) (c.getD y 0))) := by simp [Hid, jn]
          generalize c.getD x 0 = u at *
          generalize c.getD y 0 = v at *
          go_wp2_with fail
          have hS0 : Below w.heap.size w wr.drew ∧ wr.drew.cell? ⟨w.heap.size, 0, none⟩ = some (.slice (some ⟨b0, off, none⟩) l0.length c0) ∧ wr.drew.cell? ⟨b0, off + k * 2, none⟩ = some (.int .i64 x) ∧ wr.drew.cell? ⟨b0, off + k * 2 + 1, none⟩ = some (.int .i64 y) ∧ wr.drew.cell? ⟨b, x, none⟩ = some (.int .i64 u) ∧ wr.drew.cell? ⟨b, y, none⟩ = some (.int .i64 v) := ⟨L.drew, e0, hq0, hq1, eu, ev⟩
          have X2 := X.drew
          have C2 := C.drew
          go_region_held3 (fun w' => Below w.heap.size w w' ∧ w'.cell? ⟨w.heap.size, 0, none⟩ = some (.slice (some ⟨b0, off, none⟩) l0.length c0) ∧ w'.cell? ⟨b0, off + k * 2, none⟩ = some (.int .i64 x) ∧ w'.cell? ⟨b0, off + k * 2 + 1, none⟩ = some (.int .i64 y) ∧ w'.cell? ⟨b, x, none⟩ = some (.int .i64 u) ∧ w'.cell? ⟨b, y, none⟩ = some (.int .i64 v))
            (first | exact hS0 | assumption | (refine ⟨?_, ?_, ?_, ?_, ?_, ?_⟩ <;> assumption))
            (fail)
          replace L := hS0.1
          clear hS0 X C e0 eu ev hq0 hq1
          generalize wr.drew = wd at *
          replace X := X2; replace C := C2
          clear X2 C2
          by_cases huv : v < u
          · have HJ : Hid (jn c ((x : Int), (y : Int)) = reps c u v) := by unfold Hid; rw [HJ0.out, show max u v = u by omega, show min u v = v by omega]
            clear HJ0
            go_wp2_with fail
            go_loopw [8] (fun i wr => ∃ t : Nat, t ≤ 16 ∧ i = .int .i64 t ∧ Mix wr b (reps c u v) c t ∧ Box wr w.heap.size (.slice (some ⟨b0, off, none⟩) l0.length c0) (.slice a1 l1.length c1) (.slice a2 l2.length c2) (.slice a3 l3.length c3) ∧ Below w.heap.size w wr) (fun i _ => 16 - (intOf i).toNat)
            case atStart => exact ⟨0, Nat.zero_le _, rfl, Mix.start _ C, X, L⟩
            case round =>
              clear C X L
              obtain ⟨t, ht, rfl, M, X, L⟩ := hrel
              by_cases hlt2 : t < 16
              · have hkn2 : (t : Int) < 16 := by omega
                have hk02 : (0 : Int) ≤ (t : Int) := by omega
                have hcell := M.2.2 t hlt2
                have hfr := M.2.1 t hlt2
                rw [if_neg (Nat.lt_irrefl t)] at hcell
                have hst := M.step
                have HRA := reps_at c u v (i := t) (by have := HL.out; omega)
                rw [HRA] at hst
                have HZZ : ¬ c.getD t 0 = u → (reps c u v).getD t 0 = c.getD t 0 := fun h => by rw [HRA]; unfold rep; rw [if_neg h]
                clear HRA
                replace HZZ : Hid (¬ c.getD t 0 = u → Mix wr b (reps c u v) c (t + 1)) := fun h => M.keep (HZZ h)
                generalize c.getD t 0 = z at *
                by_cases hz : z = u
                · have HZ : Hid (rep z u v = v) := by unfold Hid rep; rw [if_pos hz]
                  rw [HZ.out] at hst
                  have X2 := X.other b t (by omega) (.int .i64 v)
                  have L2 := Below.set L b t (by omega) (.int .i64 v)
                  clear M X L HZ
                  go_wp2
                  go_roundw
                  case rel => exact ⟨t + 1, by omega, by go_num, hst, X2, L2⟩
                  case measure => simp [intOf]; omega
                · have hst2 : Mix wr b (reps c u v) c (t + 1) := HZZ.out hz
                  clear hst M
                  go_wp2
                  go_roundw
                  case rel => exact ⟨t + 1, by omega, by go_num, hst2, X, L⟩
                  case measure => simp [intOf]; omega
              · have C2 : OwnI wr b 16 (reps c u v) 16 := by obtain rfl : t = 16 := (by omega); exact M.done
                have hge : ¬ ((t : Int) < 16) := by omega
                clear M hlt2
                go_wp2
                go_roundw
                case rel => exact ⟨k + 1, by omega, by go_num, by rw [HNX.out, HJ.out]; exact C2, X, L⟩
                case measure => simp [intOf]; omega
            
          · have HJ : Hid (jn c ((x : Int), (y : Int)) = reps c v u) := by unfold Hid; rw [HJ0.out, show max u v = v by omega, show min u v = u by omega]
            clear HJ0
            go_wp2_with fail
            go_loopw [8] (fun i wr => ∃ t : Nat, t ≤ 16 ∧ i = .int .i64 t ∧ Mix wr b (reps c v u) c t ∧ Box wr w.heap.size (.slice (some ⟨b0, off, none⟩) l0.length c0) (.slice a1 l1.length c1) (.slice a2 l2.length c2) (.slice a3 l3.length c3) ∧ Below w.heap.size w wr) (fun i _ => 16 - (intOf i).toNat)
            case atStart => exact ⟨0, Nat.zero_le _, rfl, Mix.start _ C, X, L⟩
            case round =>
              clear C X L
              obtain ⟨t, ht, rfl, M, X, L⟩ := hrel
              by_cases hlt2 : t < 16
              · have hkn2 : (t : Int) < 16 := by omega
                have hk02 : (0 : Int) ≤ (t : Int) := by omega
                have hcell := M.2.2 t hlt2
                have hfr := M.2.1 t hlt2
                rw [if_neg (Nat.lt_irrefl t)] at hcell
                have hst := M.step
                have HRA := reps_at c v u (i := t) (by have := HL.out; omega)
                rw [HRA] at hst
                have HZZ : ¬ c.getD t 0 = v → (reps c v u).getD t 0 = c.getD t 0 := fun h => by rw [HRA]; unfold rep; rw [if_neg h]
                clear HRA
                replace HZZ : Hid (¬ c.getD t 0 = v → Mix wr b (reps c v u) c (t + 1)) := fun h => M.keep (HZZ h)
                generalize c.getD t 0 = z at *
                by_cases hz : z = v
                · have HZ : Hid (rep z v u = u) := by unfold Hid rep; rw [if_pos hz]
                  rw [HZ.out] at hst
                  have X2 := X.other b t (by omega) (.int .i64 u)
                  have L2 := Below.set L b t (by omega) (.int .i64 u)
                  clear M X L HZ
                  go_wp2
                  go_roundw
                  case rel => exact ⟨t + 1, by omega, by go_num, hst, X2, L2⟩
                  case measure => simp [intOf]; omega
                · have hst2 : Mix wr b (reps c v u) c (t + 1) := HZZ.out hz
                  clear hst M
                  go_wp2
                  go_roundw
                  case rel => exact ⟨t + 1, by omega, by go_num, hst2, X, L⟩
                  case measure => simp [intOf]; omega
              · have C2 : OwnI wr b 16 (reps c v u) 16 := by obtain rfl : t = 16 := (by omega); exact M.done
                have hge : ¬ ((t : Int) < 16) := by omega
                clear M hlt2
                go_wp2
                go_roundw
                case rel => exact ⟨k + 1, by omega, by go_num, by rw [HNX.out, HJ.out]; exact C2, X, L⟩
                case measure => simp [intOf]; omega
            
        · obtain rfl : k = l0.length := by omega
          rw [List.take_length] at C
          have e0 := X.c0
          go_wp2
          go_ret
          exact ⟨b, cp, rfl, by omega, C, L⟩
end Go.Proofs.Ytldhbooginlcpaa
