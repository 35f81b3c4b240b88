/-
  The classes of an assertion: the contract of impl.classesOf.
-/
import Derived.Test.YtldhbooginlcpaaJc
namespace Go.Proofs.Ytldhbooginlcpaa
open Go.RowKit
set_option linter.unusedSimpArgs false in
set_option maxRecDepth 3000 in
set_option maxHeartbeats 1000000 in
theorem classesOf_any (a0 a1 a2 a3 : Option Addr) (c0 c1 c2 c3 : Nat) (l0 l1 l2 l3 : List (Int × Int)) (w : World) (n0 : l0.length ≤ 1048576) (ht : toks l0 = true) (r0 : PRow w a0 l0) :
    Calls Try.prog 134 #[.agg #[.slice a0 l0.length c0, .slice a1 l1.length c1, .slice a2 l2.length c2, .slice a3 l3.length c3]] w fun e w' => e = .returned (aV (clsV l0)) ∧ Below w.heap.size w w' := by
  have X0 := ((Box.new w (.slice a0 l0.length c0) (.slice a1 l1.length c1) (.slice a2 l2.length c2) (.slice a3 l3.length c3) 28).alloc (.cells z16 95)).alloc (.cells z16 95)
  have R0 := (OwnI.zeros (w.alloc (.cells #[.slice a0 l0.length c0, .slice a1 l1.length c1, .slice a2 l2.length c2, .slice a3 l3.length c3] 28)) 95).alloc (.cells z16 95)
  have C0 := OwnI.zeros ((w.alloc (.cells #[.slice a0 l0.length c0, .slice a1 l1.length c1, .slice a2 l2.length c2, .slice a3 l3.length c3] 28)).alloc (.cells z16 95)) 95
  have L0 : Below w.heap.size w (((w.alloc (.cells #[.slice a0 l0.length c0, .slice a1 l1.length c1, .slice a2 l2.length c2, .slice a3 l3.length c3] 28)).alloc (.cells z16 95)).alloc (.cells z16 95)) := (((Below.refl _ _).alloc (Nat.le_refl _) _).alloc (by simp) _).alloc (by simp; omega) _
  rw [World.size_alloc] at R0 C0
  rw [World.size_alloc] at C0
  go_enter Try.func134, Try.ntmps134
  go_wp2_with fail
  generalize (((w.alloc (.cells #[.slice a0 l0.length c0, .slice a1 l1.length c1, .slice a2 l2.length c2, .slice a3 l3.length c3] 28)).alloc (.cells z16 95)).alloc (.cells z16 95)) = W at *
  go_loopw [7] (fun i wr => ∃ k : Nat, k ≤ 16 ∧ i = .int .i64 k ∧ Mix wr (w.heap.size + 1 + 1) ids (List.replicate 16 0) k ∧ OwnI wr (w.heap.size + 1) 16 (List.replicate 16 0) 16 ∧ Box wr w.heap.size (.slice a0 l0.length c0) (.slice a1 l1.length c1) (.slice a2 l2.length c2) (.slice a3 l3.length c3) ∧ Below w.heap.size w wr) (fun i _ => 16 - (intOf i).toNat)
  case atStart => exact ⟨0, Nat.zero_le _, rfl, Mix.start _ C0, R0, X0, L0⟩
  case round =>
    clear X0 R0 C0 L0
    obtain ⟨k, hk, rfl, M, R, X, L⟩ := hrel
    by_cases hlt : k < 16
    · have hkn : (k : Int) < 16 := by omega
      have hk0' : (0 : Int) ≤ (k : Int) := by omega
      have hcell := M.2.2 k hlt
      have hfr := M.2.1 k hlt
      have hst := M.step
      rw [ids_at hlt] at hst
      have R2 := R.set_other (w.heap.size + 1 + 1) k (by omega) (.int .i64 k)
      have X2 := X.other (w.heap.size + 1 + 1) k (by omega) (.int .i64 k)
      have L2 := Below.set L (w.heap.size + 1 + 1) k (by omega) (.int .i64 k)
      generalize (if k < k then ids.getD k 0 else (List.replicate 16 (0 : Int)).getD k 0) = x at *
      clear M R X L
      go_wp2
      go_roundw
      case rel => exact ⟨k + 1, by omega, by go_num, hst, R2, X2, L2⟩
      case measure => simp [intOf]; omega
    · have D : OwnI wr (w.heap.size + 1 + 1) 16 ids 16 := by obtain rfl : k = 16 := by omega
                                                             exact M.done
      clear M
      have y0 := X.c0
      clear X
      go_wp2_with fail
      clear y0 hlt
      have C1 : OwnI wr (w.heap.size + 1 + 1) 16 (clsV (l0.take 0)) 16 := by simpa [clsV] using D
      clear D
      go_loopw [17] (fun i wr => ∃ k : Nat, k ≤ l0.length ∧ i = .int .i64 k ∧ OwnI wr (w.heap.size + 1 + 1) 16 (clsV (l0.take k)) 16 ∧ OwnI wr (w.heap.size + 1) 16 (List.replicate 16 0) 16 ∧ Below w.heap.size w wr) (fun i _ => l0.length - (intOf i).toNat)
      case atStart => exact ⟨0, Nat.zero_le _, rfl, C1, R, L⟩
      case round =>
        clear C1 R L
        obtain ⟨k, hk, rfl, C, R, L⟩ := hrel
        by_cases hlt : k < l0.length
        · rcases r0 with hnil | ⟨b, off, rfl, hb, hc⟩
          · rw [hnil] at hlt; simp at hlt
          have hq0 : wr.cell? ⟨b, off + k * 2, none⟩ = some (.int .i64 (l0.getD k (0, 0)).1) := by rw [L.cell (p := ⟨b, _, none⟩) hb]; exact (hc k hlt).1
          have hq1 : wr.cell? ⟨b, off + k * 2 + 1, none⟩ = some (.int .i64 (l0.getD k (0, 0)).2) := by rw [L.cell (p := ⟨b, _, none⟩) hb]; exact (hc k hlt).2
          have hkn : (k : Int) < (l0.length : Int) := by omega
          have hk0' : (0 : Int) ≤ (k : Int) := by omega
          have htk := toks_get ht hlt
          have hcs := Cls.take ht k hk
          have hnx := clsV_step hlt
          have hnl := (Cls.take ht (k + 1) hlt).1
          generalize hp : l0.getD k (0, 0) = p at *
          clear hp hc
          obtain ⟨⟨q1, q2⟩, q3, q4⟩ := htk
          obtain ⟨x, y, rfl, hx, hy⟩ : ∃ x y : Nat, p = ((x : Int), (y : Int)) ∧ x < 16 ∧ y < 16 := ⟨p.1.toNat, p.2.toNat, by rw [Int.toNat_of_nonneg q1, Int.toNat_of_nonneg q3], by omega, by omega⟩
          clear q1 q2 q3 q4
          dsimp only at hq0 hq1
          rw [hnx] at hnl
          have HNX : Hid (clsV (l0.take (k + 1)) = jn (clsV (l0.take k)) ((x : Int), (y : Int))) := hnx
          clear hnx ht
          have hX := hcs.2 x hx
          have hY := hcs.2 y hy
          have HL := hcs.1
          clear hcs
          generalize clsV (l0.take k) = c at *
          have HJ : Hid (jn c ((x : Int), (y : Int)) = reps c (max (c.getD x 0) (c.getD y 0)) (min (c.getD x 0) (c.getD y 0))) := by simp [Hid, jn]
          go_wp2_with fail
          have B1 := PBox.new wr x y 67
          have L1 := L.alloc L.size (.cells #[.int .i64 (x : Int), .int .i64 (y : Int)] 67)
          have C1 := C.alloc (.cells #[.int .i64 (x : Int), .int .i64 (y : Int)] 67)
          have R1 := R.alloc (.cells #[.int .i64 (x : Int), .int .i64 (y : Int)] 67)
          have s1 := C.1
          have s2 := B1.lt
          have s0 := L1.size
          clear L C R hq0 hq1 hb
          generalize wr.alloc (.cells #[.int .i64 (x : Int), .int .i64 (y : Int)] 67) = W2 at *
          generalize wr.heap.size = q at *
          replace L1 := L1.drew; replace C1 := C1.drew; replace R1 := R1.drew; replace B1 := B1.drew
          have u67 := Try.underlying95
          have u60 := Try.underlying67
          have i67 : (Try.prog.info? 95).map (·.size) = some (ic c).length := by rw [ic_length, HL]; kernel_rfl
          have i60 : (Try.prog.info? 67).map (·.size) = some [Value.int .i64 (x : Int), Value.int .i64 (y : Int)].length := by kernel_rfl
          replace HL : Hid (c.length = 16) := HL
          have HNL : Hid ((jn c ((x : Int), (y : Int))).length = 16) := hnl
          clear hnl
          refine wp_region_held_drew (S := fun _ => True) (by kernel_rfl) trivial (fun _ => ?_)
          generalize W2.drew = W3 at *
          refine wpAnyH_ready (rs := [0, 1, 2]) (by kernel_rfl) (by simp) ?_
          refine AllReadyH.cons rfl (fun K hK => ?_) ?_
          · rw [if_pos (by rfl)]
            refine wp_load_mid 95 _ rfl _ 0 rfl (ic c) _ (C1.range HL.out) u67 rfl i67 ?_
            refine hK.out _ _ trivial (fun _ => ?_)
            clear hK K
            simp only [Act.put, List.setIfInBounds_toArray, List.set_cons_zero, List.set_cons_succ]
            refine wpAnyH_ready (rs := [1, 2]) (by kernel_rfl) (by simp) ?_
            refine AllReadyH.cons rfl (fun K hK => ?_) ?_
            · rw [if_pos (by rfl)]
              refine wp_load_mid 95 _ rfl _ 0 rfl (ic c) _ (C1.range HL.out) u67 rfl i67 ?_
              refine hK.out _ _ trivial (fun _ => ?_)
              clear hK K
              simp only [Act.put, List.setIfInBounds_toArray, List.set_cons_zero, List.set_cons_succ]
              refine wpAnyH_ready (rs := [2]) (by kernel_rfl) (by simp) ?_
              refine AllReadyH.cons rfl (fun K hK => ?_) ?_
              · rw [if_pos (by rfl)]
                refine wp_load_mid 67 _ rfl _ 0 rfl [.int .i64 (x : Int), .int .i64 (y : Int)] _ B1.range u60 rfl i60 ?_
                refine hK.out _ _ trivial (fun _ => ?_)
                clear hK K
                simp only [Act.put, List.setIfInBounds_toArray, List.set_cons_zero, List.set_cons_succ]
                refine wpAnyH_ready (rs := [3]) (by kernel_rfl) (by simp) ?_
                refine AllReadyH.cons rfl (fun K hK => ?_) ?_
                · rw [if_pos (by rfl)]
                  go_simp
                  refine (of_any c x y _ HL.out hx hy).mono ?_
                  rintro e u0 ⟨rfl, h0⟩
                  have C2 := C1.below h0 C1.1; have R2 := R1.below h0 R1.1; have B2 := B1.below h0 B1.lt; have L2 := L1.trans (h0.mono L1.size); clear h0
                  refine hK.out _ _ trivial (fun _ => ?_)
                  clear hK K
                  refine wpAnyH_ready (rs := [4]) (by kernel_rfl) (by simp) ?_
                  refine AllReadyH.cons rfl (fun K hK => ?_) ?_
                  · rw [if_pos (by rfl)]
                    go_simp
                    refine (joined_any c _ _ HL.out hX.1 hX.2 hY.1 hY.2 _).mono ?_
                    rintro e u1 ⟨rfl, h1⟩
                    have C3 := C2.below h1 C2.1; have R3 := R2.below h1 R2.1; have L3 := L2.trans (h1.mono L2.size); clear h1
                    rw [← HJ.out]
                    unfold aV
                    refine hK.out _ _ trivial (fun _ => ?_)
                    clear hK K
                    refine wpAnyH_ready (rs := [5]) (by kernel_rfl) (by simp) ?_
                    refine AllReadyH.cons rfl (fun K hK => ?_) ?_
                    · rw [if_pos (by rfl)]
                      refine wp_store_mid 95 _ _ rfl _ 0 (ic (jn c ((x : Int), (y : Int)))).toArray rfl rfl (by rw [ic_size, HNL.out]; exact C3.there) (by rw [ic_size, HNL.out]; kernel_rfl) (ic_one _) ?_
                      refine hK.out _ _ trivial (fun _ => ?_)
                      clear hK K
                      simp only [Act.put, List.setIfInBounds_toArray, List.set_cons_zero, List.set_cons_succ]
                      refine wpAnyH_done (by kernel_rfl) ?_ _
                      have C4 := C3.setAll HNL.out
                      have R4 := R3.setCells (w.heap.size + 1 + 1) (by omega) (ic (jn c ((x : Int), (y : Int))))
                      have L4 := Below.setCells (w.heap.size + 1 + 1) (by omega) (ic (jn c ((x : Int), (y : Int)))) 0 _ L3
                      clear C3 R3 L3
                      generalize World.setCells _ (w.heap.size + 1 + 1) 0 (ic (jn c ((x : Int), (y : Int)))) = u2 at *
                      go_wp2
                      go_roundw
                      case rel => exact ⟨k + 1, by omega, by go_num, by rw [HNX.out]; exact C4, R4, L4⟩
                      case measure => simp [intOf]; omega
                    exact AllReadyH.nil
                  exact AllReadyH.nil
                exact AllReadyH.nil
              exact AllReadyH.nil
            refine AllReadyH.cons rfl (fun K hK => ?_) ?_
            · rw [if_pos (by rfl)]
              refine wp_load_mid 67 _ rfl _ 0 rfl [.int .i64 (x : Int), .int .i64 (y : Int)] _ B1.range u60 rfl i60 ?_
              refine hK.out _ _ trivial (fun _ => ?_)
              clear hK K
              simp only [Act.put, List.setIfInBounds_toArray, List.set_cons_zero, List.set_cons_succ]
              refine wpAnyH_ready (rs := [1]) (by kernel_rfl) (by simp) ?_
              refine AllReadyH.cons rfl (fun K hK => ?_) ?_
              · rw [if_pos (by rfl)]
                refine wp_load_mid 95 _ rfl _ 0 rfl (ic c) _ (C1.range HL.out) u67 rfl i67 ?_
                refine hK.out _ _ trivial (fun _ => ?_)
                clear hK K
                simp only [Act.put, List.setIfInBounds_toArray, List.set_cons_zero, List.set_cons_succ]
                refine wpAnyH_ready (rs := [3]) (by kernel_rfl) (by simp) ?_
                refine AllReadyH.cons rfl (fun K hK => ?_) ?_
                · rw [if_pos (by rfl)]
                  go_simp
                  refine (of_any c x y _ HL.out hx hy).mono ?_
                  rintro e u0 ⟨rfl, h0⟩
                  have C2 := C1.below h0 C1.1; have R2 := R1.below h0 R1.1; have B2 := B1.below h0 B1.lt; have L2 := L1.trans (h0.mono L1.size); clear h0
                  refine hK.out _ _ trivial (fun _ => ?_)
                  clear hK K
                  refine wpAnyH_ready (rs := [4]) (by kernel_rfl) (by simp) ?_
                  refine AllReadyH.cons rfl (fun K hK => ?_) ?_
                  · rw [if_pos (by rfl)]
                    go_simp
                    refine (joined_any c _ _ HL.out hX.1 hX.2 hY.1 hY.2 _).mono ?_
                    rintro e u1 ⟨rfl, h1⟩
                    have C3 := C2.below h1 C2.1; have R3 := R2.below h1 R2.1; have L3 := L2.trans (h1.mono L2.size); clear h1
                    rw [← HJ.out]
                    unfold aV
                    refine hK.out _ _ trivial (fun _ => ?_)
                    clear hK K
                    refine wpAnyH_ready (rs := [5]) (by kernel_rfl) (by simp) ?_
                    refine AllReadyH.cons rfl (fun K hK => ?_) ?_
                    · rw [if_pos (by rfl)]
                      refine wp_store_mid 95 _ _ rfl _ 0 (ic (jn c ((x : Int), (y : Int)))).toArray rfl rfl (by rw [ic_size, HNL.out]; exact C3.there) (by rw [ic_size, HNL.out]; kernel_rfl) (ic_one _) ?_
                      refine hK.out _ _ trivial (fun _ => ?_)
                      clear hK K
                      simp only [Act.put, List.setIfInBounds_toArray, List.set_cons_zero, List.set_cons_succ]
                      refine wpAnyH_done (by kernel_rfl) ?_ _
                      have C4 := C3.setAll HNL.out
                      have R4 := R3.setCells (w.heap.size + 1 + 1) (by omega) (ic (jn c ((x : Int), (y : Int))))
                      have L4 := Below.setCells (w.heap.size + 1 + 1) (by omega) (ic (jn c ((x : Int), (y : Int)))) 0 _ L3
                      clear C3 R3 L3
                      generalize World.setCells _ (w.heap.size + 1 + 1) 0 (ic (jn c ((x : Int), (y : Int)))) = u2 at *
                      go_wp2
                      go_roundw
                      case rel => exact ⟨k + 1, by omega, by go_num, by rw [HNX.out]; exact C4, R4, L4⟩
                      case measure => simp [intOf]; omega
                    exact AllReadyH.nil
                  exact AllReadyH.nil
                exact AllReadyH.nil
              exact AllReadyH.nil
            exact AllReadyH.nil
          refine AllReadyH.cons rfl (fun K hK => ?_) ?_
          · rw [if_pos (by rfl)]
            refine wp_load_mid 95 _ rfl _ 0 rfl (ic c) _ (C1.range HL.out) u67 rfl i67 ?_
            refine hK.out _ _ trivial (fun _ => ?_)
            clear hK K
            simp only [Act.put, List.setIfInBounds_toArray, List.set_cons_zero, List.set_cons_succ]
            refine wpAnyH_ready (rs := [0, 2]) (by kernel_rfl) (by simp) ?_
            refine AllReadyH.cons rfl (fun K hK => ?_) ?_
            · rw [if_pos (by rfl)]
              refine wp_load_mid 95 _ rfl _ 0 rfl (ic c) _ (C1.range HL.out) u67 rfl i67 ?_
              refine hK.out _ _ trivial (fun _ => ?_)
              clear hK K
              simp only [Act.put, List.setIfInBounds_toArray, List.set_cons_zero, List.set_cons_succ]
              refine wpAnyH_ready (rs := [2]) (by kernel_rfl) (by simp) ?_
              refine AllReadyH.cons rfl (fun K hK => ?_) ?_
              · rw [if_pos (by rfl)]
                refine wp_load_mid 67 _ rfl _ 0 rfl [.int .i64 (x : Int), .int .i64 (y : Int)] _ B1.range u60 rfl i60 ?_
                refine hK.out _ _ trivial (fun _ => ?_)
                clear hK K
                simp only [Act.put, List.setIfInBounds_toArray, List.set_cons_zero, List.set_cons_succ]
                refine wpAnyH_ready (rs := [3]) (by kernel_rfl) (by simp) ?_
                refine AllReadyH.cons rfl (fun K hK => ?_) ?_
                · rw [if_pos (by rfl)]
                  go_simp
                  refine (of_any c x y _ HL.out hx hy).mono ?_
                  rintro e u0 ⟨rfl, h0⟩
                  have C2 := C1.below h0 C1.1; have R2 := R1.below h0 R1.1; have B2 := B1.below h0 B1.lt; have L2 := L1.trans (h0.mono L1.size); clear h0
                  refine hK.out _ _ trivial (fun _ => ?_)
                  clear hK K
                  refine wpAnyH_ready (rs := [4]) (by kernel_rfl) (by simp) ?_
                  refine AllReadyH.cons rfl (fun K hK => ?_) ?_
                  · rw [if_pos (by rfl)]
                    go_simp
                    refine (joined_any c _ _ HL.out hX.1 hX.2 hY.1 hY.2 _).mono ?_
                    rintro e u1 ⟨rfl, h1⟩
                    have C3 := C2.below h1 C2.1; have R3 := R2.below h1 R2.1; have L3 := L2.trans (h1.mono L2.size); clear h1
                    rw [← HJ.out]
                    unfold aV
                    refine hK.out _ _ trivial (fun _ => ?_)
                    clear hK K
                    refine wpAnyH_ready (rs := [5]) (by kernel_rfl) (by simp) ?_
                    refine AllReadyH.cons rfl (fun K hK => ?_) ?_
                    · rw [if_pos (by rfl)]
                      refine wp_store_mid 95 _ _ rfl _ 0 (ic (jn c ((x : Int), (y : Int)))).toArray rfl rfl (by rw [ic_size, HNL.out]; exact C3.there) (by rw [ic_size, HNL.out]; kernel_rfl) (ic_one _) ?_
                      refine hK.out _ _ trivial (fun _ => ?_)
                      clear hK K
                      simp only [Act.put, List.setIfInBounds_toArray, List.set_cons_zero, List.set_cons_succ]
                      refine wpAnyH_done (by kernel_rfl) ?_ _
                      have C4 := C3.setAll HNL.out
                      have R4 := R3.setCells (w.heap.size + 1 + 1) (by omega) (ic (jn c ((x : Int), (y : Int))))
                      have L4 := Below.setCells (w.heap.size + 1 + 1) (by omega) (ic (jn c ((x : Int), (y : Int)))) 0 _ L3
                      clear C3 R3 L3
                      generalize World.setCells _ (w.heap.size + 1 + 1) 0 (ic (jn c ((x : Int), (y : Int)))) = u2 at *
                      go_wp2
                      go_roundw
                      case rel => exact ⟨k + 1, by omega, by go_num, by rw [HNX.out]; exact C4, R4, L4⟩
                      case measure => simp [intOf]; omega
                    exact AllReadyH.nil
                  exact AllReadyH.nil
                exact AllReadyH.nil
              exact AllReadyH.nil
            refine AllReadyH.cons rfl (fun K hK => ?_) ?_
            · rw [if_pos (by rfl)]
              refine wp_load_mid 67 _ rfl _ 0 rfl [.int .i64 (x : Int), .int .i64 (y : Int)] _ B1.range u60 rfl i60 ?_
              refine hK.out _ _ trivial (fun _ => ?_)
              clear hK K
              simp only [Act.put, List.setIfInBounds_toArray, List.set_cons_zero, List.set_cons_succ]
              refine wpAnyH_ready (rs := [0, 3]) (by kernel_rfl) (by simp) ?_
              refine AllReadyH.cons rfl (fun K hK => ?_) ?_
              · rw [if_pos (by rfl)]
                refine wp_load_mid 95 _ rfl _ 0 rfl (ic c) _ (C1.range HL.out) u67 rfl i67 ?_
                refine hK.out _ _ trivial (fun _ => ?_)
                clear hK K
                simp only [Act.put, List.setIfInBounds_toArray, List.set_cons_zero, List.set_cons_succ]
                refine wpAnyH_ready (rs := [3]) (by kernel_rfl) (by simp) ?_
                refine AllReadyH.cons rfl (fun K hK => ?_) ?_
                · rw [if_pos (by rfl)]
                  go_simp
                  refine (of_any c x y _ HL.out hx hy).mono ?_
                  rintro e u0 ⟨rfl, h0⟩
                  have C2 := C1.below h0 C1.1; have R2 := R1.below h0 R1.1; have B2 := B1.below h0 B1.lt; have L2 := L1.trans (h0.mono L1.size); clear h0
                  refine hK.out _ _ trivial (fun _ => ?_)
                  clear hK K
                  refine wpAnyH_ready (rs := [4]) (by kernel_rfl) (by simp) ?_
                  refine AllReadyH.cons rfl (fun K hK => ?_) ?_
                  · rw [if_pos (by rfl)]
                    go_simp
                    refine (joined_any c _ _ HL.out hX.1 hX.2 hY.1 hY.2 _).mono ?_
                    rintro e u1 ⟨rfl, h1⟩
                    have C3 := C2.below h1 C2.1; have R3 := R2.below h1 R2.1; have L3 := L2.trans (h1.mono L2.size); clear h1
                    rw [← HJ.out]
                    unfold aV
                    refine hK.out _ _ trivial (fun _ => ?_)
                    clear hK K
                    refine wpAnyH_ready (rs := [5]) (by kernel_rfl) (by simp) ?_
                    refine AllReadyH.cons rfl (fun K hK => ?_) ?_
                    · rw [if_pos (by rfl)]
                      refine wp_store_mid 95 _ _ rfl _ 0 (ic (jn c ((x : Int), (y : Int)))).toArray rfl rfl (by rw [ic_size, HNL.out]; exact C3.there) (by rw [ic_size, HNL.out]; kernel_rfl) (ic_one _) ?_
                      refine hK.out _ _ trivial (fun _ => ?_)
                      clear hK K
                      simp only [Act.put, List.setIfInBounds_toArray, List.set_cons_zero, List.set_cons_succ]
                      refine wpAnyH_done (by kernel_rfl) ?_ _
                      have C4 := C3.setAll HNL.out
                      have R4 := R3.setCells (w.heap.size + 1 + 1) (by omega) (ic (jn c ((x : Int), (y : Int))))
                      have L4 := Below.setCells (w.heap.size + 1 + 1) (by omega) (ic (jn c ((x : Int), (y : Int)))) 0 _ L3
                      clear C3 R3 L3
                      generalize World.setCells _ (w.heap.size + 1 + 1) 0 (ic (jn c ((x : Int), (y : Int)))) = u2 at *
                      go_wp2
                      go_roundw
                      case rel => exact ⟨k + 1, by omega, by go_num, by rw [HNX.out]; exact C4, R4, L4⟩
                      case measure => simp [intOf]; omega
                    exact AllReadyH.nil
                  exact AllReadyH.nil
                exact AllReadyH.nil
              refine AllReadyH.cons rfl (fun K hK => ?_) ?_
              · rw [if_pos (by rfl)]
                go_simp
                refine (of_any c x y _ HL.out hx hy).mono ?_
                rintro e u0 ⟨rfl, h0⟩
                have C2 := C1.below h0 C1.1; have R2 := R1.below h0 R1.1; have B2 := B1.below h0 B1.lt; have L2 := L1.trans (h0.mono L1.size); clear h0
                refine hK.out _ _ trivial (fun _ => ?_)
                clear hK K
                refine wpAnyH_ready (rs := [0]) (by kernel_rfl) (by simp) ?_
                refine AllReadyH.cons rfl (fun K hK => ?_) ?_
                · rw [if_pos (by rfl)]
                  refine wp_load_mid 95 _ rfl _ 0 rfl (ic c) _ (C2.range HL.out) u67 rfl i67 ?_
                  refine hK.out _ _ trivial (fun _ => ?_)
                  clear hK K
                  simp only [Act.put, List.setIfInBounds_toArray, List.set_cons_zero, List.set_cons_succ]
                  refine wpAnyH_ready (rs := [4]) (by kernel_rfl) (by simp) ?_
                  refine AllReadyH.cons rfl (fun K hK => ?_) ?_
                  · rw [if_pos (by rfl)]
                    go_simp
                    refine (joined_any c _ _ HL.out hX.1 hX.2 hY.1 hY.2 _).mono ?_
                    rintro e u1 ⟨rfl, h1⟩
                    have C3 := C2.below h1 C2.1; have R3 := R2.below h1 R2.1; have L3 := L2.trans (h1.mono L2.size); clear h1
                    rw [← HJ.out]
                    unfold aV
                    refine hK.out _ _ trivial (fun _ => ?_)
                    clear hK K
                    refine wpAnyH_ready (rs := [5]) (by kernel_rfl) (by simp) ?_
                    refine AllReadyH.cons rfl (fun K hK => ?_) ?_
                    · rw [if_pos (by rfl)]
                      refine wp_store_mid 95 _ _ rfl _ 0 (ic (jn c ((x : Int), (y : Int)))).toArray rfl rfl (by rw [ic_size, HNL.out]; exact C3.there) (by rw [ic_size, HNL.out]; kernel_rfl) (ic_one _) ?_
                      refine hK.out _ _ trivial (fun _ => ?_)
                      clear hK K
                      simp only [Act.put, List.setIfInBounds_toArray, List.set_cons_zero, List.set_cons_succ]
                      refine wpAnyH_done (by kernel_rfl) ?_ _
                      have C4 := C3.setAll HNL.out
                      have R4 := R3.setCells (w.heap.size + 1 + 1) (by omega) (ic (jn c ((x : Int), (y : Int))))
                      have L4 := Below.setCells (w.heap.size + 1 + 1) (by omega) (ic (jn c ((x : Int), (y : Int)))) 0 _ L3
                      clear C3 R3 L3
                      generalize World.setCells _ (w.heap.size + 1 + 1) 0 (ic (jn c ((x : Int), (y : Int)))) = u2 at *
                      go_wp2
                      go_roundw
                      case rel => exact ⟨k + 1, by omega, by go_num, by rw [HNX.out]; exact C4, R4, L4⟩
                      case measure => simp [intOf]; omega
                    exact AllReadyH.nil
                  exact AllReadyH.nil
                exact AllReadyH.nil
              exact AllReadyH.nil
            exact AllReadyH.nil
          refine AllReadyH.cons rfl (fun K hK => ?_) ?_
          · rw [if_pos (by rfl)]
            refine wp_load_mid 67 _ rfl _ 0 rfl [.int .i64 (x : Int), .int .i64 (y : Int)] _ B1.range u60 rfl i60 ?_
            refine hK.out _ _ trivial (fun _ => ?_)
            clear hK K
            simp only [Act.put, List.setIfInBounds_toArray, List.set_cons_zero, List.set_cons_succ]
            refine wpAnyH_ready (rs := [0, 1]) (by kernel_rfl) (by simp) ?_
            refine AllReadyH.cons rfl (fun K hK => ?_) ?_
            · rw [if_pos (by rfl)]
              refine wp_load_mid 95 _ rfl _ 0 rfl (ic c) _ (C1.range HL.out) u67 rfl i67 ?_
              refine hK.out _ _ trivial (fun _ => ?_)
              clear hK K
              simp only [Act.put, List.setIfInBounds_toArray, List.set_cons_zero, List.set_cons_succ]
              refine wpAnyH_ready (rs := [1]) (by kernel_rfl) (by simp) ?_
              refine AllReadyH.cons rfl (fun K hK => ?_) ?_
              · rw [if_pos (by rfl)]
                refine wp_load_mid 95 _ rfl _ 0 rfl (ic c) _ (C1.range HL.out) u67 rfl i67 ?_
                refine hK.out _ _ trivial (fun _ => ?_)
                clear hK K
                simp only [Act.put, List.setIfInBounds_toArray, List.set_cons_zero, List.set_cons_succ]
                refine wpAnyH_ready (rs := [3]) (by kernel_rfl) (by simp) ?_
                refine AllReadyH.cons rfl (fun K hK => ?_) ?_
                · rw [if_pos (by rfl)]
                  go_simp
                  refine (of_any c x y _ HL.out hx hy).mono ?_
                  rintro e u0 ⟨rfl, h0⟩
                  have C2 := C1.below h0 C1.1; have R2 := R1.below h0 R1.1; have B2 := B1.below h0 B1.lt; have L2 := L1.trans (h0.mono L1.size); clear h0
                  refine hK.out _ _ trivial (fun _ => ?_)
                  clear hK K
                  refine wpAnyH_ready (rs := [4]) (by kernel_rfl) (by simp) ?_
                  refine AllReadyH.cons rfl (fun K hK => ?_) ?_
                  · rw [if_pos (by rfl)]
                    go_simp
                    refine (joined_any c _ _ HL.out hX.1 hX.2 hY.1 hY.2 _).mono ?_
                    rintro e u1 ⟨rfl, h1⟩
                    have C3 := C2.below h1 C2.1; have R3 := R2.below h1 R2.1; have L3 := L2.trans (h1.mono L2.size); clear h1
                    rw [← HJ.out]
                    unfold aV
                    refine hK.out _ _ trivial (fun _ => ?_)
                    clear hK K
                    refine wpAnyH_ready (rs := [5]) (by kernel_rfl) (by simp) ?_
                    refine AllReadyH.cons rfl (fun K hK => ?_) ?_
                    · rw [if_pos (by rfl)]
                      refine wp_store_mid 95 _ _ rfl _ 0 (ic (jn c ((x : Int), (y : Int)))).toArray rfl rfl (by rw [ic_size, HNL.out]; exact C3.there) (by rw [ic_size, HNL.out]; kernel_rfl) (ic_one _) ?_
                      refine hK.out _ _ trivial (fun _ => ?_)
                      clear hK K
                      simp only [Act.put, List.setIfInBounds_toArray, List.set_cons_zero, List.set_cons_succ]
                      refine wpAnyH_done (by kernel_rfl) ?_ _
                      have C4 := C3.setAll HNL.out
                      have R4 := R3.setCells (w.heap.size + 1 + 1) (by omega) (ic (jn c ((x : Int), (y : Int))))
                      have L4 := Below.setCells (w.heap.size + 1 + 1) (by omega) (ic (jn c ((x : Int), (y : Int)))) 0 _ L3
                      clear C3 R3 L3
                      generalize World.setCells _ (w.heap.size + 1 + 1) 0 (ic (jn c ((x : Int), (y : Int)))) = u2 at *
                      go_wp2
                      go_roundw
                      case rel => exact ⟨k + 1, by omega, by go_num, by rw [HNX.out]; exact C4, R4, L4⟩
                      case measure => simp [intOf]; omega
                    exact AllReadyH.nil
                  exact AllReadyH.nil
                exact AllReadyH.nil
              exact AllReadyH.nil
            refine AllReadyH.cons rfl (fun K hK => ?_) ?_
            · rw [if_pos (by rfl)]
              refine wp_load_mid 95 _ rfl _ 0 rfl (ic c) _ (C1.range HL.out) u67 rfl i67 ?_
              refine hK.out _ _ trivial (fun _ => ?_)
              clear hK K
              simp only [Act.put, List.setIfInBounds_toArray, List.set_cons_zero, List.set_cons_succ]
              refine wpAnyH_ready (rs := [0, 3]) (by kernel_rfl) (by simp) ?_
              refine AllReadyH.cons rfl (fun K hK => ?_) ?_
              · rw [if_pos (by rfl)]
                refine wp_load_mid 95 _ rfl _ 0 rfl (ic c) _ (C1.range HL.out) u67 rfl i67 ?_
                refine hK.out _ _ trivial (fun _ => ?_)
                clear hK K
                simp only [Act.put, List.setIfInBounds_toArray, List.set_cons_zero, List.set_cons_succ]
                refine wpAnyH_ready (rs := [3]) (by kernel_rfl) (by simp) ?_
                refine AllReadyH.cons rfl (fun K hK => ?_) ?_
                · rw [if_pos (by rfl)]
                  go_simp
                  refine (of_any c x y _ HL.out hx hy).mono ?_
                  rintro e u0 ⟨rfl, h0⟩
                  have C2 := C1.below h0 C1.1; have R2 := R1.below h0 R1.1; have B2 := B1.below h0 B1.lt; have L2 := L1.trans (h0.mono L1.size); clear h0
                  refine hK.out _ _ trivial (fun _ => ?_)
                  clear hK K
                  refine wpAnyH_ready (rs := [4]) (by kernel_rfl) (by simp) ?_
                  refine AllReadyH.cons rfl (fun K hK => ?_) ?_
                  · rw [if_pos (by rfl)]
                    go_simp
                    refine (joined_any c _ _ HL.out hX.1 hX.2 hY.1 hY.2 _).mono ?_
                    rintro e u1 ⟨rfl, h1⟩
                    have C3 := C2.below h1 C2.1; have R3 := R2.below h1 R2.1; have L3 := L2.trans (h1.mono L2.size); clear h1
                    rw [← HJ.out]
                    unfold aV
                    refine hK.out _ _ trivial (fun _ => ?_)
                    clear hK K
                    refine wpAnyH_ready (rs := [5]) (by kernel_rfl) (by simp) ?_
                    refine AllReadyH.cons rfl (fun K hK => ?_) ?_
                    · rw [if_pos (by rfl)]
                      refine wp_store_mid 95 _ _ rfl _ 0 (ic (jn c ((x : Int), (y : Int)))).toArray rfl rfl (by rw [ic_size, HNL.out]; exact C3.there) (by rw [ic_size, HNL.out]; kernel_rfl) (ic_one _) ?_
                      refine hK.out _ _ trivial (fun _ => ?_)
                      clear hK K
                      simp only [Act.put, List.setIfInBounds_toArray, List.set_cons_zero, List.set_cons_succ]
                      refine wpAnyH_done (by kernel_rfl) ?_ _
                      have C4 := C3.setAll HNL.out
                      have R4 := R3.setCells (w.heap.size + 1 + 1) (by omega) (ic (jn c ((x : Int), (y : Int))))
                      have L4 := Below.setCells (w.heap.size + 1 + 1) (by omega) (ic (jn c ((x : Int), (y : Int)))) 0 _ L3
                      clear C3 R3 L3
                      generalize World.setCells _ (w.heap.size + 1 + 1) 0 (ic (jn c ((x : Int), (y : Int)))) = u2 at *
                      go_wp2
                      go_roundw
                      case rel => exact ⟨k + 1, by omega, by go_num, by rw [HNX.out]; exact C4, R4, L4⟩
                      case measure => simp [intOf]; omega
                    exact AllReadyH.nil
                  exact AllReadyH.nil
                exact AllReadyH.nil
              refine AllReadyH.cons rfl (fun K hK => ?_) ?_
              · rw [if_pos (by rfl)]
                go_simp
                refine (of_any c x y _ HL.out hx hy).mono ?_
                rintro e u0 ⟨rfl, h0⟩
                have C2 := C1.below h0 C1.1; have R2 := R1.below h0 R1.1; have B2 := B1.below h0 B1.lt; have L2 := L1.trans (h0.mono L1.size); clear h0
                refine hK.out _ _ trivial (fun _ => ?_)
                clear hK K
                refine wpAnyH_ready (rs := [0]) (by kernel_rfl) (by simp) ?_
                refine AllReadyH.cons rfl (fun K hK => ?_) ?_
                · rw [if_pos (by rfl)]
                  refine wp_load_mid 95 _ rfl _ 0 rfl (ic c) _ (C2.range HL.out) u67 rfl i67 ?_
                  refine hK.out _ _ trivial (fun _ => ?_)
                  clear hK K
                  simp only [Act.put, List.setIfInBounds_toArray, List.set_cons_zero, List.set_cons_succ]
                  refine wpAnyH_ready (rs := [4]) (by kernel_rfl) (by simp) ?_
                  refine AllReadyH.cons rfl (fun K hK => ?_) ?_
                  · rw [if_pos (by rfl)]
                    go_simp
                    refine (joined_any c _ _ HL.out hX.1 hX.2 hY.1 hY.2 _).mono ?_
                    rintro e u1 ⟨rfl, h1⟩
                    have C3 := C2.below h1 C2.1; have R3 := R2.below h1 R2.1; have L3 := L2.trans (h1.mono L2.size); clear h1
                    rw [← HJ.out]
                    unfold aV
                    refine hK.out _ _ trivial (fun _ => ?_)
                    clear hK K
                    refine wpAnyH_ready (rs := [5]) (by kernel_rfl) (by simp) ?_
                    refine AllReadyH.cons rfl (fun K hK => ?_) ?_
                    · rw [if_pos (by rfl)]
                      refine wp_store_mid 95 _ _ rfl _ 0 (ic (jn c ((x : Int), (y : Int)))).toArray rfl rfl (by rw [ic_size, HNL.out]; exact C3.there) (by rw [ic_size, HNL.out]; kernel_rfl) (ic_one _) ?_
                      refine hK.out _ _ trivial (fun _ => ?_)
                      clear hK K
                      simp only [Act.put, List.setIfInBounds_toArray, List.set_cons_zero, List.set_cons_succ]
                      refine wpAnyH_done (by kernel_rfl) ?_ _
                      have C4 := C3.setAll HNL.out
                      have R4 := R3.setCells (w.heap.size + 1 + 1) (by omega) (ic (jn c ((x : Int), (y : Int))))
                      have L4 := Below.setCells (w.heap.size + 1 + 1) (by omega) (ic (jn c ((x : Int), (y : Int)))) 0 _ L3
                      clear C3 R3 L3
                      generalize World.setCells _ (w.heap.size + 1 + 1) 0 (ic (jn c ((x : Int), (y : Int)))) = u2 at *
                      go_wp2
                      go_roundw
                      case rel => exact ⟨k + 1, by omega, by go_num, by rw [HNX.out]; exact C4, R4, L4⟩
                      case measure => simp [intOf]; omega
                    exact AllReadyH.nil
                  exact AllReadyH.nil
                exact AllReadyH.nil
              exact AllReadyH.nil
            exact AllReadyH.nil
          exact AllReadyH.nil
        · obtain rfl : k = l0.length := by omega
          rw [List.take_length] at C
          have HC := (Cls.all ht).1
          have hnl : ¬ ((l0.length : Int) < (l0.length : Int)) := by omega
          iterate 18 go_step
          refine wl67 rfl (.tmp 3) rfl _ rfl C HC ?_
          refine ws67 rfl (.tmp 2) (.tmp 27) rfl _ rfl (clsV l0) _ rfl R HC rfl ?_
          have F := R.setAll HC
          have L2 := Below.setCells (w.heap.size + 1) (Nat.le_succ _) (ic (clsV l0)) 0 _ L
          generalize wr.setCells (w.heap.size + 1) 0 (ic (clsV l0)) = wz at *
          iterate 5 go_step
          exact bodyPost_ret (ret67 rfl _ _ _ rfl F HC) rfl ⟨rfl, L2⟩
end Go.Proofs.Ytldhbooginlcpaa
