/-
  The contract of spec.l1sorted.
-/
import Derived.Test.YtfplloabkceaoaaSL0
import Derived.Deep.RegionHeld3
namespace Go.Proofs.Ytfplloabkceaoaa
open Go.RowKit
set_option linter.unusedVariables false

set_option maxRecDepth 20000 in
set_option maxHeartbeats 8000000 in
theorem l1sorted_any (b cb : Nat) (l : List (Int × Int)) (w : World) (hn : l.length ≤ 4096) (ho : Own w b l.length l l.length) :
    Calls Try.prog 146 #[.slice (some ⟨b, 0, none⟩) l.length cb] w fun e w' => ∃ p q, e = .returned (.slice p l.length q) ∧ RowIn w' w.heap.size w'.heap.size p l.length (sortP l) ∧ Below w.heap.size w w' := by
  have hb := ho.1
  have hc := ho.2.2
  clear ho
  generalize hN : l.length = n at *
  have HN : Hid (l.length = n) := hN
  clear hN
  go_enter Try.func146, Try.ntmps146
  go_wp2
  go_loopw [3, 4] (fun v i wr => ∃ k : Nat, k ≤ n ∧ i = .int .i64 k ∧ ((k = 0 ∧ v = .slice none 0 0) ∨ ∃ g c, v = .slice (some ⟨g, 0, none⟩) k c) ∧ wr.ownsRow w.heap.size 69 2 v k (pc (sortG l k)) ∧ Below w.heap.size w wr) (fun _ i _ => n - (intOf i).toNat)
  case atStart => exact ⟨0, Nat.zero_le _, rfl, .inl ⟨rfl, rfl⟩, World.ownsRow_nil _ _ _ _, Below.refl _ _⟩
  case round =>
    obtain ⟨k, hk, rfl, hv, hrow, hbw⟩ := hrel
    obtain ⟨W0, rfl⟩ : ∃ W0, W0 = wr := ⟨_, rfl⟩
    by_cases hlt : k < n
    · have hxa := (hbw.cell (p := ⟨b, k * 2, none⟩) hb).trans (hc k hlt).1
      have hxb := (hbw.cell (p := ⟨b, k * 2 + 1, none⟩) hb).trans (hc k hlt).2
      have HSL : Hid ((sortG l k).length = k) := sortG_length l k
      have hbr : b < W0.heap.size := Nat.lt_of_lt_of_le hb hbw.size
      have k1 : (0 : Int) ≤ (k : Int) := by omega
      have k2 : (k : Int) < (n : Int) := by omega
      generalize hx0 : l.getD k (0, 0) = x at *
      have HX0 : Hid (l.getD k (0, 0) = x) := hx0
      clear hx0
      rcases hv with ⟨rfl, rfl⟩ | ⟨g, c, rfl⟩
      · go_wp2
        go_loopw [5] (fun y wz => y = .int .i64 0 ∧ Below W0.heap.size W0 wz) (fun _ _ => 0)
        case atStart => exact ⟨rfl, Below.refl _ _⟩
        case round =>
          obtain ⟨rfl, hbz⟩ := hrel
          have hbw2 := hbw.trans (hbz.mono hbw.size)
          have hxa2 := (hbz.cell (p := ⟨b, 0 * 2, none⟩) hbr).trans hxa
          have hxb2 := (hbz.cell (p := ⟨b, 0 * 2 + 1, none⟩) hbr).trans hxb
          have hins : sortG l 1 = [x] := by rw [sortG, HX0.out]; rfl
          obtain ⟨v3, w3, r1, r2, o3, L3⟩ := ins_run0 wr.drew.drew w.heap.size x (by have := hbw2.size; simpa using this)
          rw [← hins] at o3
          have hbw3 : Below w.heap.size w w3 := (hbw2.drew.drew).trans L3
          have hv3 : ∃ g' c', v3 = .slice (some ⟨g', 0, none⟩) 1 c' := by
            rcases o3.2 with ⟨_, e⟩ | ⟨g', c', _, e, _⟩
            · omega
            · exact ⟨g', c', e⟩
          obtain ⟨g', c', rfl⟩ := hv3
          have R1 := (show Hid _ from r1)
          have R2 := (show Hid _ from r2)
          clear r1 r2 L3 hins
          simp only [Nat.zero_mul] at hxa2 hxb2
          go_wp2
          go_region
          all_goals
            go_wp2
            go_region_law (first
              | (refine step_append_run rfl (.tmp 67) (.tmp 70) 26 rfl (.slice (some ⟨wr.heap.size, 0, none⟩) 1 1) (.slice none 0 0) (.slice (some ⟨wr.heap.size, 0, none⟩) 1 1) _ (by simp [Act.eval]) (by simp [Act.eval]) R1.out ?_)
              | (refine step_append_run rfl (.tmp 62) (.tmp 71) 26 rfl (.slice none 0 0) (.slice (some ⟨wr.heap.size, 0, none⟩) 1 1) (.slice (some ⟨g', 0, none⟩) 1 c') w3 (by simp [Act.eval]) (by simp [Act.eval]) R2.out ?_))
            all_goals
              go_wp2
              go_roundw
              case rel => exact ⟨1, by omega, by go_num, .inr ⟨g', c', rfl⟩, o3, hbw3⟩
              case measure => simp [intOf]; omega
      · go_wp2
        go_loopw [5] (fun y wz => ∃ i : Nat, i ≤ k ∧ y = .int .i64 i ∧ Hid (posG (sortG l k) x k = posG (sortG l k) x i) ∧ Below W0.heap.size W0 wz) (fun y _ => (intOf y).toNat)
        case atStart => exact ⟨k, Nat.le_refl _, rfl, rfl, Below.refl _ _⟩
        case round =>
          obtain ⟨i, hi, rfl, hp, hbz⟩ := hrel
          have hbw2 := hbw.trans (hbz.mono hbw.size)
          have ho2 := owns_below hrow hbz
          have hxa2 := (hbz.cell (p := ⟨b, k * 2, none⟩) hbr).trans hxa
          have hxb2 := (hbz.cell (p := ⟨b, k * 2 + 1, none⟩) hbr).trans hxb
          by_cases hi0 : i = 0
          · subst hi0
            have HPI : posG (sortG l k) x k = 0 := hp.out
            go_wp2
            go_region
            all_goals
              have hpi : posG (sortG l k) x k = 0 := HPI
              have hins : sortG l (k + 1) = (sortG l k).take (0) ++ x :: (sortG l k).drop (0) := by rw [sortG, insP, HSL.out, HX0.out, hpi]
              obtain ⟨a1, c1, w2, v3, w3, r1, r2, o3, L3⟩ := ins_run wr.drew.drew w.heap.size g k c (0) (sortG l k) x (owns_below ho2 ((Below.refl _ _).drew.drew)) (by omega) (by omega) (by have := hbw2.size; simpa using this)
              rw [← hins] at o3
              have e0 : dropA g 0 c 0 = ⟨g, 0, none⟩ := by unfold dropA; simp
              rw [e0, Nat.sub_zero, Nat.sub_zero] at r1
              rw [Nat.sub_zero] at r2
              have hbw3 : Below w.heap.size w w3 := (hbw2.drew.drew).trans L3
              have hv3 : ∃ g' c', v3 = .slice (some ⟨g', 0, none⟩) (k + 1) c' := by
                rcases o3.2 with ⟨_, e⟩ | ⟨g', c', _, e, _⟩
                · omega
                · exact ⟨g', c', e⟩
              obtain ⟨g', c', rfl⟩ := hv3
              have R1 := (show Hid _ from r1); have R2 := (show Hid _ from r2)
              have sh := fun w => cut_hi g 0 k c (0) (by omega) w
              
              clear r1 r2 L3 hins hpi
              go_wp2
              go_region_law (first
                | (refine step_append_run rfl (.tmp 67) (.tmp 70) 26 rfl (.slice (some ⟨wr.heap.size, 0, none⟩) 1 1) (.slice (some ⟨g, 0, none⟩) k c) (.slice (some ⟨a1, 0, none⟩) (1 + k) c1) w2 (by simp [Act.eval]) (by simp [Act.eval]) R1.out ?_)
                | (refine step_append_run rfl (.tmp 62) (.tmp 71) 26 rfl (.slice (some ⟨g, 0, none⟩) (0) c) (.slice (some ⟨a1, 0, none⟩) (1 + k) c1) (.slice (some ⟨g', 0, none⟩) (k + 1) c') w3 (by simp [Act.eval]) (by simp [Act.eval]) R2.out ?_))
              all_goals
                go_wp2
                go_roundw
                case rel => exact ⟨k + 1, by omega, by go_num, .inr ⟨g', c', rfl⟩, o3, hbw3⟩
                case measure => simp [intOf]; omega
          obtain ⟨i, rfl⟩ : ∃ j, i = j + 1 := ⟨i - 1, by omega⟩
          have hgb := hrow.lt g rfl
          have hcl := (Own.ofOwns hrow).2.2.2.2 i (by omega)
          have hya := (hbz.cell (p := ⟨g, i * 2, none⟩) hgb.2).trans hcl.1
          have hyb := (hbz.cell (p := ⟨g, i * 2 + 1, none⟩) hgb.2).trans hcl.2
          have hless : lessP x ((sortG l k).getD i (0, 0)) = decide (x.1 < ((sortG l k).getD i (0, 0)).1 ∨ (x.1 = ((sortG l k).getD i (0, 0)).1 ∧ x.2 < ((sortG l k).getD i (0, 0)).2)) := rfl
          have hstep : Hid (lessP x ((sortG l k).getD i (0, 0)) = true → posG (sortG l k) x k = posG (sortG l k) x i) := fun h => by rw [hp.out, posG_on h]
          have hstop : Hid (lessP x ((sortG l k).getD i (0, 0)) = false → posG (sortG l k) x k = i + 1) := fun h => by rw [hp.out, posG_end h]
          generalize hy0 : (sortG l k).getD i (0, 0) = y at *
          clear hy0 hcl
          have i1 : (0 : Int) ≤ (i : Int) := by omega
          have i2 : (i : Int) < (k : Int) := by omega
          have i3 : (0 : Int) < (i : Int) + 1 := by omega
          have iw : IntKind.i64.wrap ((i : Int) + 1 - 1) = (i : Int) := by rw [IntKind.wrap_i64]; omega
          have iw2 : IntKind.i64.wrap (i : Int) = (i : Int) := by rw [IntKind.wrap_i64]; omega
          have kn : k ≤ 4096 := by omega
          obtain ⟨x1, x2⟩ := x
          obtain ⟨y1, y2⟩ := y
          dsimp only at hya hyb hxa2 hxb2 hless
          by_cases t1 : x1 < y1
          · have hl : lessP (x1, x2) (y1, y2) = true := by rw [hless]; exact decide_eq_true (.inl t1)
            have hst := hstep.out hl
            clear hstep hstop hless hl
            have hbz2 := hbz.drew
            clear hxa hxb
            go_wp2
            go_region
            all_goals
              go_wp2
              go_roundw
              case rel => exact ⟨i, by omega, by go_num, hst, hbz2⟩
              case measure => simp [intOf]
          by_cases t2 : x1 = y1
          · subst t2
            by_cases t3 : x2 < y2
            · have hl : lessP (x1, x2) (x1, y2) = true := by rw [hless]; exact decide_eq_true (.inr ⟨rfl, t3⟩)
              have hst := hstep.out hl
              clear hstep hstop hless hl
              have hbz2 := hbz.drew
              clear hxa hxb
              go_wp2
              go_region
              all_goals
                go_wp2
                go_roundw
                case rel => exact ⟨i, by omega, by go_num, hst, hbz2⟩
                case measure => simp [intOf]
            · have hl : lessP (x1, x2) (x1, y2) = false := by rw [hless]; exact decide_eq_false (by simp; omega)
              have HPI : posG (sortG l k) (x1, x2) k = i + 1 := hstop.out hl
              clear hstep hstop hless hl
              go_wp2
              go_region
              all_goals
                have hpi : posG (sortG l k) (x1, x2) k = i + 1 := HPI
                have hins : sortG l (k + 1) = (sortG l k).take (i + 1) ++ (x1, x2) :: (sortG l k).drop (i + 1) := by rw [sortG, insP, HSL.out, HX0.out, hpi]
                have hkc : k ≤ c := by
                  rcases hrow.2 with ⟨e, _⟩ | ⟨g9, cap, cur, e, _, _, e4, _⟩
                  · cases e
                  · injection e with _ _ e; omega
                obtain ⟨a1, c1, w2, v3, w3, r1, r2, o3, L3⟩ := ins_run wr.drew.drew w.heap.size g k c (i + 1) (sortG l k) (x1, x2) (owns_below ho2 ((Below.refl _ _).drew.drew)) (by omega) (by omega) (by have := hbw2.size; simpa using this)
                rw [← hins] at o3
                have hbw3 : Below w.heap.size w w3 := (hbw2.drew.drew).trans L3
                have hv3 : ∃ g' c', v3 = .slice (some ⟨g', 0, none⟩) (k + 1) c' := by
                  rcases o3.2 with ⟨_, e⟩ | ⟨g', c', _, e, _⟩
                  · omega
                  · exact ⟨g', c', e⟩
                obtain ⟨g', c', rfl⟩ := hv3
                have R1 := (show Hid _ from r1); have R2 := (show Hid _ from r2)
                have sh : ∀ w, (Instr.slice 26 (.slice (some ⟨g, 0, none⟩) k c) none (some (.int .i64 ((i : Int) + 1))) none).run Try.prog w = .ok (.slice (some ⟨g, 0, none⟩) (i + 1) c) w := fun w => cut_hi g 0 k c (i + 1) (by omega) w
                have sl : ∀ w, (Instr.slice 26 (.slice (some ⟨g, 0, none⟩) k c) (some (.int .i64 ((i : Int) + 1))) none none).run Try.prog w = .ok (.slice (some (dropA g 0 c (i + 1))) (k - (i + 1)) (c - (i + 1))) w := fun w => cut_lo g 0 k c (i + 1) (by omega) w
                clear r1 r2 L3 hins hpi
                go_wp2
                go_region_law (first
                  | (refine step_append_run rfl (.tmp 67) (.tmp 70) 26 rfl (.slice (some ⟨wr.heap.size, 0, none⟩) 1 1) (.slice (some (dropA g 0 c (i + 1))) (k - (i + 1)) (c - (i + 1))) (.slice (some ⟨a1, 0, none⟩) (1 + (k - (i + 1))) c1) w2 (by simp [Act.eval]) (by simp [Act.eval]) R1.out ?_)
                  | (refine step_append_run rfl (.tmp 62) (.tmp 71) 26 rfl (.slice (some ⟨g, 0, none⟩) (i + 1) c) (.slice (some ⟨a1, 0, none⟩) (1 + (k - (i + 1))) c1) (.slice (some ⟨g', 0, none⟩) (k + 1) c') w3 (by simp [Act.eval]) (by simp [Act.eval]) R2.out ?_))
                all_goals
                  go_wp2
                  go_roundw
                  case rel => exact ⟨k + 1, by omega, by go_num, .inr ⟨g', c', rfl⟩, o3, hbw3⟩
                  case measure => simp [intOf]; omega
          · have hl : lessP (x1, x2) (y1, y2) = false := by rw [hless]; exact decide_eq_false (by simp; omega)
            have HPI : posG (sortG l k) (x1, x2) k = i + 1 := hstop.out hl
            clear hstep hstop hless hl
            have t2c : ¬ y1 = x1 := fun e => t2 e.symm
            have t2b : (y1 == x1) = false := beq_eq_false_iff_ne.2 t2c
            have t2d : y1 < x1 := by omega
            have t2e : (x1 == y1) = false := beq_eq_false_iff_ne.2 t2
            have t1g : decide (x1 < y1) = false := decide_eq_false t1
            have t1h : (x1 < y1) = False := eq_false t1
            clear hxa hxb hp
            go_wp2
            refine wp_region_held_drew (S := fun W => W.cell? ⟨g, i * 2, none⟩ = some (.int .i64 y1) ∧ W.cell? ⟨g, i * 2 + 1, none⟩ = some (.int .i64 y2) ∧ W.cell? ⟨b, k * 2, none⟩ = some (.int .i64 x1) ∧ W.cell? ⟨b, k * 2 + 1, none⟩ = some (.int .i64 x2)) (by kernel_rfl) ⟨by simp [hya], by simp [hyb], by simp [hxa2], by simp [hxb2]⟩ (fun hHeld => ?_)
            refine wpAnyH_take (i := 0) (oi := { dst := some 14, op := Op.move (Operand.tmp 5), type := 3, pos := _, after := #[], guard := none }) (v := ?v1) rfl (by kernel_rfl) (by kernel_rfl) (by kernel_rfl) (fun _ _ _ h => h) (Or.inl ⟨by rfl, ?hy1⟩) (by assumption) ?_
            case hy1 => (intro w hSw); (try dsimp only at hSw); go_simp; try with_reducible rfl
            try simp only [Act.put, List.setIfInBounds_toArray, List.set_cons_zero, List.set_cons_succ]
            refine wpAnyH_take (i := 1) (oi := { dst := some 15, op := Op.binOp BinOp.gtr 3 (Operand.tmp 14) (Operand.const (Value.int IntKind.i64 0)) 3, type := 4, pos := _, after := #[{ on := 0, ground := Ground.data }], guard := none }) (v := ?v2) rfl (by kernel_rfl) (by kernel_rfl) (by kernel_rfl) (fun _ _ _ h => h) (Or.inl ⟨by rfl, ?hy2⟩) (by assumption) ?_
            case hy2 => (intro w hSw); (try dsimp only at hSw); go_simp; try with_reducible rfl
            try simp only [Act.put, List.setIfInBounds_toArray, List.set_cons_zero, List.set_cons_succ]
            refine wpAnyH_take (i := 2) (oi := { dst := some 16, op := Op.move (Operand.tmp 15), type := 4, pos := _, after := #[{ on := 1, ground := Ground.data }], guard := none }) (v := ?v3) rfl (by kernel_rfl) (by kernel_rfl) (by kernel_rfl) (fun _ _ _ h => h) (Or.inl ⟨by rfl, ?hy3⟩) (by assumption) ?_
            case hy3 => (intro w hSw); (try dsimp only at hSw); go_simp; try with_reducible rfl
            try simp only [Act.put, List.setIfInBounds_toArray, List.set_cons_zero, List.set_cons_succ]
            refine wpAnyH_take (i := 3) (oi := { dst := some 17, op := Op.move (Operand.tmp 3), type := 26, pos := _, after := #[{ on := 2, ground := Ground.guard }], guard := some (2, true) }) (v := ?v4) rfl (by kernel_rfl) (by kernel_rfl) (by kernel_rfl) (fun _ _ _ h => h) (Or.inl ⟨by rfl, ?hy4⟩) (by assumption) ?_
            case hy4 => (intro w hSw); (try dsimp only at hSw); go_simp; try with_reducible rfl
            try simp only [Act.put, List.setIfInBounds_toArray, List.set_cons_zero, List.set_cons_succ]
            refine wpAnyH_take (i := 4) (oi := { dst := some 18, op := Op.move (Operand.tmp 5), type := 3, pos := _, after := #[{ on := 2, ground := Ground.guard }], guard := some (2, true) }) (v := ?v5) rfl (by kernel_rfl) (by kernel_rfl) (by kernel_rfl) (fun _ _ _ h => h) (Or.inl ⟨by rfl, ?hy5⟩) (by assumption) ?_
            case hy5 => (intro w hSw); (try dsimp only at hSw); go_simp; try with_reducible rfl
            try simp only [Act.put, List.setIfInBounds_toArray, List.set_cons_zero, List.set_cons_succ]
            refine wpAnyH_take (i := 5) (oi := { dst := some 19, op := Op.binOp BinOp.sub 3 (Operand.tmp 18) (Operand.const (Value.int IntKind.i64 1)) 3, type := 3, pos := _, after := #[{ on := 4, ground := Ground.data }, { on := 2, ground := Ground.guard }], guard := some (2, true) }) (v := ?v6) rfl (by kernel_rfl) (by kernel_rfl) (by kernel_rfl) (fun _ _ _ h => h) (Or.inl ⟨by rfl, ?hy6⟩) (by assumption) ?_
            case hy6 => (intro w hSw); (try dsimp only at hSw); go_simp; try with_reducible rfl
            try simp only [Act.put, List.setIfInBounds_toArray, List.set_cons_zero, List.set_cons_succ]
            refine wpAnyH_take (i := 6) (oi := { dst := some 20, op := Op.indexAddr 26 (Operand.tmp 17) (Operand.tmp 19), type := 0, pos := _, after := #[{ on := 3, ground := Ground.data }, { on := 5, ground := Ground.data }, { on := 2, ground := Ground.guard }], guard := some (2, true) }) (v := ?v7) rfl (by kernel_rfl) (by kernel_rfl) (by kernel_rfl) (fun _ _ _ h => h) (Or.inl ⟨by rfl, ?hy7⟩) (by assumption) ?_
            case hy7 => (intro w hSw); (try dsimp only at hSw); go_simp; try with_reducible rfl
            try simp only [Act.put, List.setIfInBounds_toArray, List.set_cons_zero, List.set_cons_succ]
            refine wpAnyH_take (i := 7) (oi := { dst := some 21, op := Op.fieldAddr 69 (Operand.tmp 20) 0, type := 0, pos := _, after := #[{ on := 6, ground := Ground.data }, { on := 2, ground := Ground.guard }], guard := some (2, true) }) (v := ?v8) rfl (by kernel_rfl) (by kernel_rfl) (by kernel_rfl) (fun _ _ _ h => h) (Or.inl ⟨by rfl, ?hy8⟩) (by assumption) ?_
            case hy8 => (intro w hSw); (try dsimp only at hSw); go_simp; try with_reducible rfl
            try simp only [Act.put, List.setIfInBounds_toArray, List.set_cons_zero, List.set_cons_succ]
            refine wpAnyH_take (i := 8) (oi := { dst := some 22, op := Op.load 3 (Operand.tmp 21), type := 3, pos := _, after := #[{ on := 7, ground := Ground.data }, { on := 2, ground := Ground.guard }], guard := some (2, true) }) (v := ?v9) rfl (by kernel_rfl) (by kernel_rfl) (by kernel_rfl) (fun _ _ _ h => h) (Or.inl ⟨by rfl, ?hy9⟩) (by assumption) ?_
            case hy9 => (intro w hSw); (try dsimp only at hSw); go_simp; try with_reducible rfl
            try simp only [Act.put, List.setIfInBounds_toArray, List.set_cons_zero, List.set_cons_succ]
            refine wpAnyH_take (i := 9) (oi := { dst := some 23, op := Op.move (Operand.tmp 0), type := 26, pos := _, after := #[{ on := 2, ground := Ground.guard }], guard := some (2, true) }) (v := ?v10) rfl (by kernel_rfl) (by kernel_rfl) (by kernel_rfl) (fun _ _ _ h => h) (Or.inl ⟨by rfl, ?hy10⟩) (by assumption) ?_
            case hy10 => (intro w hSw); (try dsimp only at hSw); go_simp; try with_reducible rfl
            try simp only [Act.put, List.setIfInBounds_toArray, List.set_cons_zero, List.set_cons_succ]
            refine wpAnyH_take (i := 10) (oi := { dst := some 24, op := Op.move (Operand.tmp 4), type := 3, pos := _, after := #[{ on := 2, ground := Ground.guard }], guard := some (2, true) }) (v := ?v11) rfl (by kernel_rfl) (by kernel_rfl) (by kernel_rfl) (fun _ _ _ h => h) (Or.inl ⟨by rfl, ?hy11⟩) (by assumption) ?_
            case hy11 => (intro w hSw); (try dsimp only at hSw); go_simp; try with_reducible rfl
            try simp only [Act.put, List.setIfInBounds_toArray, List.set_cons_zero, List.set_cons_succ]
            refine wpAnyH_take (i := 11) (oi := { dst := some 25, op := Op.indexAddr 26 (Operand.tmp 23) (Operand.tmp 24), type := 0, pos := _, after := #[{ on := 9, ground := Ground.data }, { on := 10, ground := Ground.data }, { on := 2, ground := Ground.guard }], guard := some (2, true) }) (v := ?v12) rfl (by kernel_rfl) (by kernel_rfl) (by kernel_rfl) (fun _ _ _ h => h) (Or.inl ⟨by rfl, ?hy12⟩) (by assumption) ?_
            case hy12 => (intro w hSw); (try dsimp only at hSw); go_simp; try with_reducible rfl
            try simp only [Act.put, List.setIfInBounds_toArray, List.set_cons_zero, List.set_cons_succ]
            refine wpAnyH_take (i := 12) (oi := { dst := some 26, op := Op.fieldAddr 69 (Operand.tmp 25) 0, type := 0, pos := _, after := #[{ on := 11, ground := Ground.data }, { on := 2, ground := Ground.guard }], guard := some (2, true) }) (v := ?v13) rfl (by kernel_rfl) (by kernel_rfl) (by kernel_rfl) (fun _ _ _ h => h) (Or.inl ⟨by rfl, ?hy13⟩) (by assumption) ?_
            case hy13 => (intro w hSw); (try dsimp only at hSw); go_simp; try with_reducible rfl
            try simp only [Act.put, List.setIfInBounds_toArray, List.set_cons_zero, List.set_cons_succ]
            refine wpAnyH_take (i := 13) (oi := { dst := some 27, op := Op.load 3 (Operand.tmp 26), type := 3, pos := _, after := #[{ on := 12, ground := Ground.data }, { on := 2, ground := Ground.guard }], guard := some (2, true) }) (v := ?v14) rfl (by kernel_rfl) (by kernel_rfl) (by kernel_rfl) (fun _ _ _ h => h) (Or.inl ⟨by rfl, ?hy14⟩) (by assumption) ?_
            case hy14 => (intro w hSw); (try dsimp only at hSw); go_simp; try with_reducible rfl
            try simp only [Act.put, List.setIfInBounds_toArray, List.set_cons_zero, List.set_cons_succ]
            refine wpAnyH_take (i := 14) (oi := { dst := some 28, op := Op.binOp BinOp.gtr 3 (Operand.tmp 22) (Operand.tmp 27) 3, type := 4, pos := _, after := #[{ on := 8, ground := Ground.data }, { on := 13, ground := Ground.data }, { on := 2, ground := Ground.guard }], guard := some (2, true) }) (v := ?v15) rfl (by kernel_rfl) (by kernel_rfl) (by kernel_rfl) (fun _ _ _ h => h) (Or.inl ⟨by rfl, ?hy15⟩) (by assumption) ?_
            case hy15 => (intro w hSw); (try dsimp only at hSw); go_simp; try with_reducible rfl
            try simp only [Act.put, List.setIfInBounds_toArray, List.set_cons_zero, List.set_cons_succ]
            refine wpAnyH_take (i := 15) (oi := { dst := some 29, op := Op.move (Operand.tmp 28), type := 4, pos := _, after := #[{ on := 14, ground := Ground.data }, { on := 2, ground := Ground.chain }, { on := 2, ground := Ground.guard }], guard := some (2, true) }) (v := ?v16) rfl (by kernel_rfl) (by kernel_rfl) (by kernel_rfl) (fun _ _ _ h => h) (Or.inl ⟨by rfl, ?hy16⟩) (by assumption) ?_
            case hy16 => (intro w hSw); (try dsimp only at hSw); go_simp; try with_reducible rfl
            try simp only [Act.put, List.setIfInBounds_toArray, List.set_cons_zero, List.set_cons_succ]
            refine wpAnyH_take (i := 16) (oi := { dst := some 30, op := Op.move (Operand.tmp 3), type := 26, pos := _, after := #[{ on := 15, ground := Ground.guard }], guard := some (15, false) }) (v := ?v17) rfl (by kernel_rfl) (by kernel_rfl) (by kernel_rfl) (fun _ _ _ h => h) (Or.inl ⟨by rfl, ?hy17⟩) (by assumption) ?_
            case hy17 => (intro w hSw); (try dsimp only at hSw); go_simp; try with_reducible rfl
            try simp only [Act.put, List.setIfInBounds_toArray, List.set_cons_zero, List.set_cons_succ]
            refine wpAnyH_take (i := 17) (oi := { dst := some 31, op := Op.move (Operand.tmp 5), type := 3, pos := _, after := #[{ on := 15, ground := Ground.guard }], guard := some (15, false) }) (v := ?v18) rfl (by kernel_rfl) (by kernel_rfl) (by kernel_rfl) (fun _ _ _ h => h) (Or.inl ⟨by rfl, ?hy18⟩) (by assumption) ?_
            case hy18 => (intro w hSw); (try dsimp only at hSw); go_simp; try with_reducible rfl
            try simp only [Act.put, List.setIfInBounds_toArray, List.set_cons_zero, List.set_cons_succ]
            refine wpAnyH_take (i := 18) (oi := { dst := some 32, op := Op.binOp BinOp.sub 3 (Operand.tmp 31) (Operand.const (Value.int IntKind.i64 1)) 3, type := 3, pos := _, after := #[{ on := 17, ground := Ground.data }, { on := 15, ground := Ground.guard }], guard := some (15, false) }) (v := ?v19) rfl (by kernel_rfl) (by kernel_rfl) (by kernel_rfl) (fun _ _ _ h => h) (Or.inl ⟨by rfl, ?hy19⟩) (by assumption) ?_
            case hy19 => (intro w hSw); (try dsimp only at hSw); go_simp; try with_reducible rfl
            try simp only [Act.put, List.setIfInBounds_toArray, List.set_cons_zero, List.set_cons_succ]
            refine wpAnyH_take (i := 19) (oi := { dst := some 33, op := Op.indexAddr 26 (Operand.tmp 30) (Operand.tmp 32), type := 0, pos := _, after := #[{ on := 16, ground := Ground.data }, { on := 18, ground := Ground.data }, { on := 15, ground := Ground.guard }], guard := some (15, false) }) (v := ?v20) rfl (by kernel_rfl) (by kernel_rfl) (by kernel_rfl) (fun _ _ _ h => h) (Or.inl ⟨by rfl, ?hy20⟩) (by assumption) ?_
            case hy20 => (intro w hSw); (try dsimp only at hSw); go_simp; try with_reducible rfl
            try simp only [Act.put, List.setIfInBounds_toArray, List.set_cons_zero, List.set_cons_succ]
            refine wpAnyH_take (i := 20) (oi := { dst := some 34, op := Op.fieldAddr 69 (Operand.tmp 33) 0, type := 0, pos := _, after := #[{ on := 19, ground := Ground.data }, { on := 15, ground := Ground.guard }], guard := some (15, false) }) (v := ?v21) rfl (by kernel_rfl) (by kernel_rfl) (by kernel_rfl) (fun _ _ _ h => h) (Or.inl ⟨by rfl, ?hy21⟩) (by assumption) ?_
            case hy21 => (intro w hSw); (try dsimp only at hSw); go_simp; try with_reducible rfl
            try simp only [Act.put, List.setIfInBounds_toArray, List.set_cons_zero, List.set_cons_succ]
            refine wpAnyH_take (i := 21) (oi := { dst := some 35, op := Op.load 3 (Operand.tmp 34), type := 3, pos := _, after := #[{ on := 20, ground := Ground.data }, { on := 15, ground := Ground.guard }], guard := some (15, false) }) (v := ?v22) rfl (by kernel_rfl) (by kernel_rfl) (by kernel_rfl) (fun _ _ _ h => h) (Or.inl ⟨by rfl, ?hy22⟩) (by assumption) ?_
            case hy22 => (intro w hSw); (try dsimp only at hSw); go_simp; try with_reducible rfl
            try simp only [Act.put, List.setIfInBounds_toArray, List.set_cons_zero, List.set_cons_succ]
            refine wpAnyH_take (i := 22) (oi := { dst := some 36, op := Op.move (Operand.tmp 0), type := 26, pos := _, after := #[{ on := 15, ground := Ground.guard }], guard := some (15, false) }) (v := ?v23) rfl (by kernel_rfl) (by kernel_rfl) (by kernel_rfl) (fun _ _ _ h => h) (Or.inl ⟨by rfl, ?hy23⟩) (by assumption) ?_
            case hy23 => (intro w hSw); (try dsimp only at hSw); go_simp; try with_reducible rfl
            try simp only [Act.put, List.setIfInBounds_toArray, List.set_cons_zero, List.set_cons_succ]
            refine wpAnyH_take (i := 23) (oi := { dst := some 37, op := Op.move (Operand.tmp 4), type := 3, pos := _, after := #[{ on := 15, ground := Ground.guard }], guard := some (15, false) }) (v := ?v24) rfl (by kernel_rfl) (by kernel_rfl) (by kernel_rfl) (fun _ _ _ h => h) (Or.inl ⟨by rfl, ?hy24⟩) (by assumption) ?_
            case hy24 => (intro w hSw); (try dsimp only at hSw); go_simp; try with_reducible rfl
            try simp only [Act.put, List.setIfInBounds_toArray, List.set_cons_zero, List.set_cons_succ]
            refine wpAnyH_take (i := 24) (oi := { dst := some 38, op := Op.indexAddr 26 (Operand.tmp 36) (Operand.tmp 37), type := 0, pos := _, after := #[{ on := 22, ground := Ground.data }, { on := 23, ground := Ground.data }, { on := 15, ground := Ground.guard }], guard := some (15, false) }) (v := ?v25) rfl (by kernel_rfl) (by kernel_rfl) (by kernel_rfl) (fun _ _ _ h => h) (Or.inl ⟨by rfl, ?hy25⟩) (by assumption) ?_
            case hy25 => (intro w hSw); (try dsimp only at hSw); go_simp; try with_reducible rfl
            try simp only [Act.put, List.setIfInBounds_toArray, List.set_cons_zero, List.set_cons_succ]
            refine wpAnyH_take (i := 25) (oi := { dst := some 39, op := Op.fieldAddr 69 (Operand.tmp 38) 0, type := 0, pos := _, after := #[{ on := 24, ground := Ground.data }, { on := 15, ground := Ground.guard }], guard := some (15, false) }) (v := ?v26) rfl (by kernel_rfl) (by kernel_rfl) (by kernel_rfl) (fun _ _ _ h => h) (Or.inl ⟨by rfl, ?hy26⟩) (by assumption) ?_
            case hy26 => (intro w hSw); (try dsimp only at hSw); go_simp; try with_reducible rfl
            try simp only [Act.put, List.setIfInBounds_toArray, List.set_cons_zero, List.set_cons_succ]
            refine wpAnyH_take (i := 26) (oi := { dst := some 40, op := Op.load 3 (Operand.tmp 39), type := 3, pos := _, after := #[{ on := 25, ground := Ground.data }, { on := 15, ground := Ground.guard }], guard := some (15, false) }) (v := ?v27) rfl (by kernel_rfl) (by kernel_rfl) (by kernel_rfl) (fun _ _ _ h => h) (Or.inl ⟨by rfl, ?hy27⟩) (by assumption) ?_
            case hy27 => (intro w hSw); (try dsimp only at hSw); go_simp; try with_reducible rfl
            try simp only [Act.put, List.setIfInBounds_toArray, List.set_cons_zero, List.set_cons_succ]
            refine wpAnyH_take (i := 27) (oi := { dst := some 41, op := Op.binOp BinOp.eql 3 (Operand.tmp 35) (Operand.tmp 40) 3, type := 4, pos := _, after := #[{ on := 21, ground := Ground.data }, { on := 26, ground := Ground.data }, { on := 15, ground := Ground.guard }], guard := some (15, false) }) (v := ?v28) rfl (by kernel_rfl) (by kernel_rfl) (by kernel_rfl) (fun _ _ _ h => h) (Or.inl ⟨by rfl, ?hy28⟩) (by assumption) ?_
            case hy28 => (intro w hSw); (try dsimp only at hSw); go_simp; try with_reducible rfl
            try simp only [Act.put, List.setIfInBounds_toArray, List.set_cons_zero, List.set_cons_succ]
            refine wpAnyH_take (i := 28) (oi := { dst := some 42, op := Op.move (Operand.tmp 41), type := 4, pos := _, after := #[{ on := 27, ground := Ground.data }, { on := 15, ground := Ground.chain }, { on := 15, ground := Ground.guard }], guard := some (15, false) }) (v := ?v29) rfl (by kernel_rfl) (by kernel_rfl) (by kernel_rfl) (fun _ _ _ h => h) (Or.inl ⟨by rfl, ?hy29⟩) (by assumption) ?_
            case hy29 => (intro w hSw); (try dsimp only at hSw); go_simp; try with_reducible rfl
            try simp only [Act.put, List.setIfInBounds_toArray, List.set_cons_zero, List.set_cons_succ]
            refine wpAnyH_take (i := 29) (oi := { dst := some 43, op := Op.move (Operand.tmp 3), type := 26, pos := _, after := #[{ on := 28, ground := Ground.guard }], guard := some (28, true) }) (v := undef) rfl (by kernel_rfl) (by kernel_rfl) (by kernel_rfl) (fun _ _ _ h => h) (Or.inr ⟨by rfl, rfl⟩) (by assumption) ?_
            try simp only [Act.put, List.setIfInBounds_toArray, List.set_cons_zero, List.set_cons_succ]
            refine wpAnyH_take (i := 30) (oi := { dst := some 44, op := Op.move (Operand.tmp 5), type := 3, pos := _, after := #[{ on := 28, ground := Ground.guard }], guard := some (28, true) }) (v := undef) rfl (by kernel_rfl) (by kernel_rfl) (by kernel_rfl) (fun _ _ _ h => h) (Or.inr ⟨by rfl, rfl⟩) (by assumption) ?_
            try simp only [Act.put, List.setIfInBounds_toArray, List.set_cons_zero, List.set_cons_succ]
            refine wpAnyH_take (i := 31) (oi := { dst := some 45, op := Op.binOp BinOp.sub 3 (Operand.tmp 44) (Operand.const (Value.int IntKind.i64 1)) 3, type := 3, pos := _, after := #[{ on := 30, ground := Ground.data }, { on := 28, ground := Ground.guard }], guard := some (28, true) }) (v := undef) rfl (by kernel_rfl) (by kernel_rfl) (by kernel_rfl) (fun _ _ _ h => h) (Or.inr ⟨by rfl, rfl⟩) (by assumption) ?_
            try simp only [Act.put, List.setIfInBounds_toArray, List.set_cons_zero, List.set_cons_succ]
            refine wpAnyH_take (i := 32) (oi := { dst := some 46, op := Op.indexAddr 26 (Operand.tmp 43) (Operand.tmp 45), type := 0, pos := _, after := #[{ on := 29, ground := Ground.data }, { on := 31, ground := Ground.data }, { on := 28, ground := Ground.guard }], guard := some (28, true) }) (v := undef) rfl (by kernel_rfl) (by kernel_rfl) (by kernel_rfl) (fun _ _ _ h => h) (Or.inr ⟨by rfl, rfl⟩) (by assumption) ?_
            try simp only [Act.put, List.setIfInBounds_toArray, List.set_cons_zero, List.set_cons_succ]
            refine wpAnyH_take (i := 33) (oi := { dst := some 47, op := Op.fieldAddr 69 (Operand.tmp 46) 1, type := 0, pos := _, after := #[{ on := 32, ground := Ground.data }, { on := 28, ground := Ground.guard }], guard := some (28, true) }) (v := undef) rfl (by kernel_rfl) (by kernel_rfl) (by kernel_rfl) (fun _ _ _ h => h) (Or.inr ⟨by rfl, rfl⟩) (by assumption) ?_
            try simp only [Act.put, List.setIfInBounds_toArray, List.set_cons_zero, List.set_cons_succ]
            refine wpAnyH_take (i := 34) (oi := { dst := some 48, op := Op.load 3 (Operand.tmp 47), type := 3, pos := _, after := #[{ on := 33, ground := Ground.data }, { on := 28, ground := Ground.guard }], guard := some (28, true) }) (v := undef) rfl (by kernel_rfl) (by kernel_rfl) (by kernel_rfl) (fun _ _ _ h => h) (Or.inr ⟨by rfl, rfl⟩) (by assumption) ?_
            try simp only [Act.put, List.setIfInBounds_toArray, List.set_cons_zero, List.set_cons_succ]
            refine wpAnyH_take (i := 35) (oi := { dst := some 49, op := Op.move (Operand.tmp 0), type := 26, pos := _, after := #[{ on := 28, ground := Ground.guard }], guard := some (28, true) }) (v := undef) rfl (by kernel_rfl) (by kernel_rfl) (by kernel_rfl) (fun _ _ _ h => h) (Or.inr ⟨by rfl, rfl⟩) (by assumption) ?_
            try simp only [Act.put, List.setIfInBounds_toArray, List.set_cons_zero, List.set_cons_succ]
            refine wpAnyH_take (i := 36) (oi := { dst := some 50, op := Op.move (Operand.tmp 4), type := 3, pos := _, after := #[{ on := 28, ground := Ground.guard }], guard := some (28, true) }) (v := undef) rfl (by kernel_rfl) (by kernel_rfl) (by kernel_rfl) (fun _ _ _ h => h) (Or.inr ⟨by rfl, rfl⟩) (by assumption) ?_
            try simp only [Act.put, List.setIfInBounds_toArray, List.set_cons_zero, List.set_cons_succ]
            refine wpAnyH_take (i := 37) (oi := { dst := some 51, op := Op.indexAddr 26 (Operand.tmp 49) (Operand.tmp 50), type := 0, pos := _, after := #[{ on := 35, ground := Ground.data }, { on := 36, ground := Ground.data }, { on := 28, ground := Ground.guard }], guard := some (28, true) }) (v := undef) rfl (by kernel_rfl) (by kernel_rfl) (by kernel_rfl) (fun _ _ _ h => h) (Or.inr ⟨by rfl, rfl⟩) (by assumption) ?_
            try simp only [Act.put, List.setIfInBounds_toArray, List.set_cons_zero, List.set_cons_succ]
            refine wpAnyH_take (i := 38) (oi := { dst := some 52, op := Op.fieldAddr 69 (Operand.tmp 51) 1, type := 0, pos := _, after := #[{ on := 37, ground := Ground.data }, { on := 28, ground := Ground.guard }], guard := some (28, true) }) (v := undef) rfl (by kernel_rfl) (by kernel_rfl) (by kernel_rfl) (fun _ _ _ h => h) (Or.inr ⟨by rfl, rfl⟩) (by assumption) ?_
            try simp only [Act.put, List.setIfInBounds_toArray, List.set_cons_zero, List.set_cons_succ]
            refine wpAnyH_take (i := 39) (oi := { dst := some 53, op := Op.load 3 (Operand.tmp 52), type := 3, pos := _, after := #[{ on := 38, ground := Ground.data }, { on := 28, ground := Ground.guard }], guard := some (28, true) }) (v := undef) rfl (by kernel_rfl) (by kernel_rfl) (by kernel_rfl) (fun _ _ _ h => h) (Or.inr ⟨by rfl, rfl⟩) (by assumption) ?_
            try simp only [Act.put, List.setIfInBounds_toArray, List.set_cons_zero, List.set_cons_succ]
            refine wpAnyH_take (i := 40) (oi := { dst := some 54, op := Op.binOp BinOp.gtr 3 (Operand.tmp 48) (Operand.tmp 53) 3, type := 4, pos := _, after := #[{ on := 34, ground := Ground.data }, { on := 39, ground := Ground.data }, { on := 28, ground := Ground.guard }], guard := some (28, true) }) (v := undef) rfl (by kernel_rfl) (by kernel_rfl) (by kernel_rfl) (fun _ _ _ h => h) (Or.inr ⟨by rfl, rfl⟩) (by assumption) ?_
            try simp only [Act.put, List.setIfInBounds_toArray, List.set_cons_zero, List.set_cons_succ]
            refine wpAnyH_take (i := 41) (oi := { dst := some 55, op := Op.pick (Operand.tmp 42) (Operand.tmp 54) (Operand.const (Value.bool false)), type := 4, pos := _, after := #[{ on := 28, ground := Ground.data }, { on := 40, ground := Ground.data }, { on := 15, ground := Ground.guard }], guard := some (15, false) }) (v := ?v30) rfl (by kernel_rfl) (by kernel_rfl) (by kernel_rfl) (fun _ _ _ h => h) (Or.inl ⟨by rfl, ?hy30⟩) (by assumption) ?_
            case hy30 => (intro w hSw); (try dsimp only at hSw); go_simp; try with_reducible rfl
            try simp only [Act.put, List.setIfInBounds_toArray, List.set_cons_zero, List.set_cons_succ]
            refine wpAnyH_take (i := 42) (oi := { dst := some 56, op := Op.pick (Operand.tmp 29) (Operand.const (Value.bool true)) (Operand.tmp 55), type := 4, pos := _, after := #[{ on := 15, ground := Ground.data }, { on := 41, ground := Ground.data }, { on := 2, ground := Ground.guard }], guard := some (2, true) }) (v := ?v31) rfl (by kernel_rfl) (by kernel_rfl) (by kernel_rfl) (fun _ _ _ h => h) (Or.inl ⟨by rfl, ?hy31⟩) (by assumption) ?_
            case hy31 => (intro w hSw); (try dsimp only at hSw); go_simp; try with_reducible rfl
            try simp only [Act.put, List.setIfInBounds_toArray, List.set_cons_zero, List.set_cons_succ]
            refine wpAnyH_take (i := 43) (oi := { dst := some 57, op := Op.pick (Operand.tmp 16) (Operand.tmp 56) (Operand.const (Value.bool false)), type := 4, pos := _, after := #[{ on := 2, ground := Ground.data }, { on := 42, ground := Ground.data }], guard := none }) (v := ?v32) rfl (by kernel_rfl) (by kernel_rfl) (by kernel_rfl) (fun _ _ _ h => h) (Or.inl ⟨by rfl, ?hy32⟩) (by assumption) ?_
            case hy32 => (intro w hSw); (try dsimp only at hSw); go_simp; try with_reducible rfl
            try simp only [Act.put, List.setIfInBounds_toArray, List.set_cons_zero, List.set_cons_succ]
            refine wpAnyH_done (by kernel_rfl) ?_ _
            all_goals
              have hpi : posG (sortG l k) (x1, x2) k = i + 1 := HPI
              have hins : sortG l (k + 1) = (sortG l k).take (i + 1) ++ (x1, x2) :: (sortG l k).drop (i + 1) := by rw [sortG, insP, HSL.out, HX0.out, hpi]
              have hkc : k ≤ c := by
                rcases hrow.2 with ⟨e, _⟩ | ⟨g9, cap, cur, e, _, _, e4, _⟩
                · cases e
                · injection e with _ _ e; omega
              obtain ⟨a1, c1, w2, v3, w3, r1, r2, o3, L3⟩ := ins_run wr.drew.drew w.heap.size g k c (i + 1) (sortG l k) (x1, x2) (owns_below ho2 ((Below.refl _ _).drew.drew)) (by omega) (by omega) (by have := hbw2.size; simpa using this)
              rw [← hins] at o3
              have hbw3 : Below w.heap.size w w3 := (hbw2.drew.drew).trans L3
              have hv3 : ∃ g' c', v3 = .slice (some ⟨g', 0, none⟩) (k + 1) c' := by
                rcases o3.2 with ⟨_, e⟩ | ⟨g', c', _, e, _⟩
                · omega
                · exact ⟨g', c', e⟩
              obtain ⟨g', c', rfl⟩ := hv3
              have R1 := (show Hid _ from r1); have R2 := (show Hid _ from r2)
              have sh : ∀ w, (Instr.slice 26 (.slice (some ⟨g, 0, none⟩) k c) none (some (.int .i64 ((i : Int) + 1))) none).run Try.prog w = .ok (.slice (some ⟨g, 0, none⟩) (i + 1) c) w := fun w => cut_hi g 0 k c (i + 1) (by omega) w
              have sl : ∀ w, (Instr.slice 26 (.slice (some ⟨g, 0, none⟩) k c) (some (.int .i64 ((i : Int) + 1))) none none).run Try.prog w = .ok (.slice (some (dropA g 0 c (i + 1))) (k - (i + 1)) (c - (i + 1))) w := fun w => cut_lo g 0 k c (i + 1) (by omega) w
              clear r1 r2 L3 hins hpi
              go_wp2
              go_region_law (first
                | (refine step_append_run rfl (.tmp 67) (.tmp 70) 26 rfl (.slice (some ⟨wr.heap.size, 0, none⟩) 1 1) (.slice (some (dropA g 0 c (i + 1))) (k - (i + 1)) (c - (i + 1))) (.slice (some ⟨a1, 0, none⟩) (1 + (k - (i + 1))) c1) w2 (by simp [Act.eval]) (by simp [Act.eval]) R1.out ?_)
                | (refine step_append_run rfl (.tmp 62) (.tmp 71) 26 rfl (.slice (some ⟨g, 0, none⟩) (i + 1) c) (.slice (some ⟨a1, 0, none⟩) (1 + (k - (i + 1))) c1) (.slice (some ⟨g', 0, none⟩) (k + 1) c') w3 (by simp [Act.eval]) (by simp [Act.eval]) R2.out ?_))
              all_goals
                go_wp2
                go_roundw
                case rel => exact ⟨k + 1, by omega, by go_num, .inr ⟨g', c', rfl⟩, o3, hbw3⟩
                case measure => simp [intOf]; omega
    · obtain rfl : k = n := by omega
      have hfin : Hid (sortG l k = sortP l) := by show _ = _; rw [sortP, HN.out]
      rw [hfin.out] at hrow
      obtain ⟨a, c, rfl, hr⟩ := RowIn.ofOwns hrow
      clear hv
      go_wp2
      go_ret
      exact ⟨a, c, rfl, hr, hbw⟩

end Go.Proofs.Ytfplloabkceaoaa
