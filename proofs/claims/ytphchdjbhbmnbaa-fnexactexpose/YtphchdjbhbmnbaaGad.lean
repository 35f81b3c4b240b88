/-
  Plain lemmas and contracts of functions for the other texts of this seat: Cl, Ix, Hd, Xc, Swap, Subst.
-/
import Derived.Test.YtphchdjbhbmnbaaGac
import Derived.Deep.RegionHeld3
import Derived.Deep.DeepCutAuto
import Derived.Test.YtphchdjbhbmnbaaGab
import Derived.Outline
namespace Go.Proofs.Ytphchdjbhbmnbaa
open Go.RowKit
set_option linter.unusedSimpArgs false in
set_option maxRecDepth 3000 in
set_option maxHeartbeats 1000000 in
theorem classesOf_any (a0 a1 a2 a3 : Option Addr) (c0 c1 c2 c3 : Nat) (l0 l1 l2 l3 : List (Int × Int)) (w : World) (n0 : l0.length ≤ 1048576) (ht : toks l0 = true) (r0 : PRow w a0 l0) :
    Calls Try.prog 152 #[.agg #[.slice a0 l0.length c0, .slice a1 l1.length c1, .slice a2 l2.length c2, .slice a3 l3.length c3]] w fun e w' => e = .returned (aV (clsV l0)) ∧ Below w.heap.size w w' := by
  have X0 := ((Box.new w (.slice a0 l0.length c0) (.slice a1 l1.length c1) (.slice a2 l2.length c2) (.slice a3 l3.length c3) 28).alloc (.cells z16 102)).alloc (.cells z16 102)
  have R0 := (OwnI.zeros (w.alloc (.cells #[.slice a0 l0.length c0, .slice a1 l1.length c1, .slice a2 l2.length c2, .slice a3 l3.length c3] 28)) 102).alloc (.cells z16 102)
  have C0 := OwnI.zeros ((w.alloc (.cells #[.slice a0 l0.length c0, .slice a1 l1.length c1, .slice a2 l2.length c2, .slice a3 l3.length c3] 28)).alloc (.cells z16 102)) 102
  have L0 : Below w.heap.size w (((w.alloc (.cells #[.slice a0 l0.length c0, .slice a1 l1.length c1, .slice a2 l2.length c2, .slice a3 l3.length c3] 28)).alloc (.cells z16 102)).alloc (.cells z16 102)) := (((Below.refl _ _).alloc (Nat.le_refl _) _).alloc (by simp) _).alloc (by simp; omega) _
  rw [World.size_alloc] at R0 C0
  rw [World.size_alloc] at C0
  go_enter Try.func152, Try.ntmps152
  go_wp2_with fail
  generalize (((w.alloc (.cells #[.slice a0 l0.length c0, .slice a1 l1.length c1, .slice a2 l2.length c2, .slice a3 l3.length c3] 28)).alloc (.cells z16 102)).alloc (.cells z16 102)) = W at *
  go_loopw [7] (fun i wr => ∃ k : Nat, k ≤ 16 ∧ i = .int .i64 k ∧ Mix wr (w.heap.size + 1 + 1) ids (List.replicate 16 0) k ∧ OwnI wr (w.heap.size + 1) 16 (List.replicate 16 0) 16 ∧ Box wr w.heap.size (.slice a0 l0.length c0) (.slice a1 l1.length c1) (.slice a2 l2.length c2) (.slice a3 l3.length c3) ∧ Below w.heap.size w wr) (fun i _ => 16 - (intOf i).toNat)
  case atStart => exact ⟨0, Nat.zero_le _, rfl, Mix.start _ C0, R0, X0, L0⟩
  case round =>
    clear X0 R0 C0 L0
    obtain ⟨k, hk, rfl, M, R, X, L⟩ := hrel
    by_cases hlt : k < 16
    · have hkn : (k : Int) < 16 := by omega
      have hk0' : (0 : Int) ≤ (k : Int) := by omega
      have hcell := M.2.2 k hlt
      have hfr := M.2.1 k hlt
      have hst := M.step
      rw [ids_at hlt] at hst
      have R2 := R.set_other (w.heap.size + 1 + 1) k (by omega) (.int .i64 k)
      have X2 := X.other (w.heap.size + 1 + 1) k (by omega) (.int .i64 k)
      have L2 := Below.set L (w.heap.size + 1 + 1) k (by omega) (.int .i64 k)
      generalize (if k < k then ids.getD k 0 else (List.replicate 16 (0 : Int)).getD k 0) = x at *
      clear M R X L
      go_wp2
      go_roundw
      case rel => exact ⟨k + 1, by omega, by go_num, hst, R2, X2, L2⟩
      case measure => simp [intOf]; omega
    · have D : OwnI wr (w.heap.size + 1 + 1) 16 ids 16 := by obtain rfl : k = 16 := by omega
                                                             exact M.done
      clear M
      have y0 := X.c0
      clear X
      go_wp2_with fail
      clear y0 hlt
      have C1 : OwnI wr (w.heap.size + 1 + 1) 16 (clsV (l0.take 0)) 16 := by simpa [clsV] using D
      clear D
      go_loopw [17] (fun i wr => ∃ k : Nat, k ≤ l0.length ∧ i = .int .i64 k ∧ OwnI wr (w.heap.size + 1 + 1) 16 (clsV (l0.take k)) 16 ∧ OwnI wr (w.heap.size + 1) 16 (List.replicate 16 0) 16 ∧ Below w.heap.size w wr) (fun i _ => l0.length - (intOf i).toNat)
      case atStart => exact ⟨0, Nat.zero_le _, rfl, C1, R, L⟩
      case round =>
        clear C1 R L
        obtain ⟨k, hk, rfl, C, R, L⟩ := hrel
        by_cases hlt : k < l0.length
        · rcases r0 with hnil | ⟨b, off, rfl, hb, hc⟩
          · rw [hnil] at hlt; simp at hlt
          have hq0 : wr.cell? ⟨b, off + k * 2, none⟩ = some (.int .i64 (l0.getD k (0, 0)).1) := by rw [L.cell (p := ⟨b, _, none⟩) hb]; exact (hc k hlt).1
          have hq1 : wr.cell? ⟨b, off + k * 2 + 1, none⟩ = some (.int .i64 (l0.getD k (0, 0)).2) := by rw [L.cell (p := ⟨b, _, none⟩) hb]; exact (hc k hlt).2
          have hkn : (k : Int) < (l0.length : Int) := by omega
          have hk0' : (0 : Int) ≤ (k : Int) := by omega
          have htk := toks_get ht hlt
          have hcs := Cls.take ht k hk
          have hnx := clsV_step hlt
          have hnl := (Cls.take ht (k + 1) hlt).1
          generalize hp : l0.getD k (0, 0) = p at *
          clear hp hc
          obtain ⟨⟨q1, q2⟩, q3, q4⟩ := htk
          obtain ⟨x, y, rfl, hx, hy⟩ : ∃ x y : Nat, p = ((x : Int), (y : Int)) ∧ x < 16 ∧ y < 16 := ⟨p.1.toNat, p.2.toNat, by rw [Int.toNat_of_nonneg q1, Int.toNat_of_nonneg q3], by omega, by omega⟩
          clear q1 q2 q3 q4
          dsimp only at hq0 hq1
          rw [hnx] at hnl
          have HNX : Hid (clsV (l0.take (k + 1)) = jn (clsV (l0.take k)) ((x : Int), (y : Int))) := hnx
          clear hnx ht
          have hX := hcs.2 x hx
          have hY := hcs.2 y hy
          have HL := hcs.1
          clear hcs
          generalize clsV (l0.take k) = c at *
          have HJ : Hid (jn c ((x : Int), (y : Int)) = reps c (max (c.getD x 0) (c.getD y 0)) (min (c.getD x 0) (c.getD y 0))) := by simp [Hid, jn]
          go_wp2_with fail
          have B1 := PBox.new wr x y 69
          have L1 := L.alloc L.size (.cells #[.int .i64 (x : Int), .int .i64 (y : Int)] 69)
          have C1 := C.alloc (.cells #[.int .i64 (x : Int), .int .i64 (y : Int)] 69)
          have R1 := R.alloc (.cells #[.int .i64 (x : Int), .int .i64 (y : Int)] 69)
          have s1 := C.1
          have s2 := B1.lt
          have s0 := L1.size
          clear L C R hq0 hq1 hb
          generalize wr.alloc (.cells #[.int .i64 (x : Int), .int .i64 (y : Int)] 69) = W2 at *
          generalize wr.heap.size = q at *
          replace L1 := L1.drew; replace C1 := C1.drew; replace R1 := R1.drew; replace B1 := B1.drew
          have u67 := Try.underlying102
          have u60 := Try.underlying69
          have i67 : (Try.prog.info? 102).map (·.size) = some (ic c).length := by rw [ic_length, HL]; kernel_rfl
          have i60 : (Try.prog.info? 69).map (·.size) = some [Value.int .i64 (x : Int), Value.int .i64 (y : Int)].length := by kernel_rfl
          replace HL : Hid (c.length = 16) := HL
          have HNL : Hid ((jn c ((x : Int), (y : Int))).length = 16) := hnl
          clear hnl
          refine wp_region_held_drew (S := fun _ => True) (by kernel_rfl) trivial (fun _ => ?_)
          generalize W2.drew = W3 at *
          refine wpAnyH_ready (rs := [0, 1, 2]) (by kernel_rfl) (by simp) ?_
          refine AllReadyH.cons rfl (fun K hK => ?_) ?_
          · rw [if_pos (by rfl)]
            refine wp_load_mid 102 _ rfl _ 0 rfl (ic c) _ (C1.range HL.out) u67 rfl i67 ?_
            refine hK.out _ _ trivial (fun _ => ?_)
            clear hK K
            simp only [Act.put, List.setIfInBounds_toArray, List.set_cons_zero, List.set_cons_succ]
            refine wpAnyH_ready (rs := [1, 2]) (by kernel_rfl) (by simp) ?_
            refine AllReadyH.cons rfl (fun K hK => ?_) ?_
            · rw [if_pos (by rfl)]
              refine wp_load_mid 102 _ rfl _ 0 rfl (ic c) _ (C1.range HL.out) u67 rfl i67 ?_
              refine hK.out _ _ trivial (fun _ => ?_)
              clear hK K
              simp only [Act.put, List.setIfInBounds_toArray, List.set_cons_zero, List.set_cons_succ]
              refine wpAnyH_ready (rs := [2]) (by kernel_rfl) (by simp) ?_
              refine AllReadyH.cons rfl (fun K hK => ?_) ?_
              · rw [if_pos (by rfl)]
                refine wp_load_mid 69 _ rfl _ 0 rfl [.int .i64 (x : Int), .int .i64 (y : Int)] _ B1.range u60 rfl i60 ?_
                refine hK.out _ _ trivial (fun _ => ?_)
                clear hK K
                simp only [Act.put, List.setIfInBounds_toArray, List.set_cons_zero, List.set_cons_succ]
                refine wpAnyH_ready (rs := [3]) (by kernel_rfl) (by simp) ?_
                refine AllReadyH.cons rfl (fun K hK => ?_) ?_
                · rw [if_pos (by rfl)]
                  go_simp
                  refine (of_any c x y _ HL.out hx hy).mono ?_
                  rintro e u0 ⟨rfl, h0⟩
                  have C2 := C1.below h0 C1.1; have R2 := R1.below h0 R1.1; have B2 := B1.below h0 B1.lt; have L2 := L1.trans (h0.mono L1.size); clear h0
                  refine hK.out _ _ trivial (fun _ => ?_)
                  clear hK K
                  refine wpAnyH_ready (rs := [4]) (by kernel_rfl) (by simp) ?_
                  refine AllReadyH.cons rfl (fun K hK => ?_) ?_
                  · rw [if_pos (by rfl)]
                    go_simp
                    refine (joined_any c _ _ HL.out hX.1 hX.2 hY.1 hY.2 _).mono ?_
                    rintro e u1 ⟨rfl, h1⟩
                    have C3 := C2.below h1 C2.1; have R3 := R2.below h1 R2.1; have L3 := L2.trans (h1.mono L2.size); clear h1
                    rw [← HJ.out]
                    unfold aV
                    refine hK.out _ _ trivial (fun _ => ?_)
                    clear hK K
                    refine wpAnyH_ready (rs := [5]) (by kernel_rfl) (by simp) ?_
                    refine AllReadyH.cons rfl (fun K hK => ?_) ?_
                    · rw [if_pos (by rfl)]
                      refine wp_store_mid 102 _ _ rfl _ 0 (ic (jn c ((x : Int), (y : Int)))).toArray rfl rfl (by rw [ic_size, HNL.out]; exact C3.there) (by rw [ic_size, HNL.out]; kernel_rfl) (ic_one _) ?_
                      refine hK.out _ _ trivial (fun _ => ?_)
                      clear hK K
                      simp only [Act.put, List.setIfInBounds_toArray, List.set_cons_zero, List.set_cons_succ]
                      refine wpAnyH_done (by kernel_rfl) ?_ _
                      have C4 := C3.setAll HNL.out
                      have R4 := R3.setCells (w.heap.size + 1 + 1) (by omega) (ic (jn c ((x : Int), (y : Int))))
                      have L4 := Below.setCells (w.heap.size + 1 + 1) (by omega) (ic (jn c ((x : Int), (y : Int)))) 0 _ L3
                      clear C3 R3 L3
                      generalize World.setCells _ (w.heap.size + 1 + 1) 0 (ic (jn c ((x : Int), (y : Int)))) = u2 at *
                      go_wp2
                      go_roundw
                      case rel => exact ⟨k + 1, by omega, by go_num, by rw [HNX.out]; exact C4, R4, L4⟩
                      case measure => simp [intOf]; omega
                    exact AllReadyH.nil
                  exact AllReadyH.nil
                exact AllReadyH.nil
              exact AllReadyH.nil
            refine AllReadyH.cons rfl (fun K hK => ?_) ?_
            · rw [if_pos (by rfl)]
              refine wp_load_mid 69 _ rfl _ 0 rfl [.int .i64 (x : Int), .int .i64 (y : Int)] _ B1.range u60 rfl i60 ?_
              refine hK.out _ _ trivial (fun _ => ?_)
              clear hK K
              simp only [Act.put, List.setIfInBounds_toArray, List.set_cons_zero, List.set_cons_succ]
              refine wpAnyH_ready (rs := [1]) (by kernel_rfl) (by simp) ?_
              refine AllReadyH.cons rfl (fun K hK => ?_) ?_
              · rw [if_pos (by rfl)]
                refine wp_load_mid 102 _ rfl _ 0 rfl (ic c) _ (C1.range HL.out) u67 rfl i67 ?_
                refine hK.out _ _ trivial (fun _ => ?_)
                clear hK K
                simp only [Act.put, List.setIfInBounds_toArray, List.set_cons_zero, List.set_cons_succ]
                refine wpAnyH_ready (rs := [3]) (by kernel_rfl) (by simp) ?_
                refine AllReadyH.cons rfl (fun K hK => ?_) ?_
                · rw [if_pos (by rfl)]
                  go_simp
                  refine (of_any c x y _ HL.out hx hy).mono ?_
                  rintro e u0 ⟨rfl, h0⟩
                  have C2 := C1.below h0 C1.1; have R2 := R1.below h0 R1.1; have B2 := B1.below h0 B1.lt; have L2 := L1.trans (h0.mono L1.size); clear h0
                  refine hK.out _ _ trivial (fun _ => ?_)
                  clear hK K
                  refine wpAnyH_ready (rs := [4]) (by kernel_rfl) (by simp) ?_
                  refine AllReadyH.cons rfl (fun K hK => ?_) ?_
                  · rw [if_pos (by rfl)]
                    go_simp
                    refine (joined_any c _ _ HL.out hX.1 hX.2 hY.1 hY.2 _).mono ?_
                    rintro e u1 ⟨rfl, h1⟩
                    have C3 := C2.below h1 C2.1; have R3 := R2.below h1 R2.1; have L3 := L2.trans (h1.mono L2.size); clear h1
                    rw [← HJ.out]
                    unfold aV
                    refine hK.out _ _ trivial (fun _ => ?_)
                    clear hK K
                    refine wpAnyH_ready (rs := [5]) (by kernel_rfl) (by simp) ?_
                    refine AllReadyH.cons rfl (fun K hK => ?_) ?_
                    · rw [if_pos (by rfl)]
                      refine wp_store_mid 102 _ _ rfl _ 0 (ic (jn c ((x : Int), (y : Int)))).toArray rfl rfl (by rw [ic_size, HNL.out]; exact C3.there) (by rw [ic_size, HNL.out]; kernel_rfl) (ic_one _) ?_
                      refine hK.out _ _ trivial (fun _ => ?_)
                      clear hK K
                      simp only [Act.put, List.setIfInBounds_toArray, List.set_cons_zero, List.set_cons_succ]
                      refine wpAnyH_done (by kernel_rfl) ?_ _
                      have C4 := C3.setAll HNL.out
                      have R4 := R3.setCells (w.heap.size + 1 + 1) (by omega) (ic (jn c ((x : Int), (y : Int))))
                      have L4 := Below.setCells (w.heap.size + 1 + 1) (by omega) (ic (jn c ((x : Int), (y : Int)))) 0 _ L3
                      clear C3 R3 L3
                      generalize World.setCells _ (w.heap.size + 1 + 1) 0 (ic (jn c ((x : Int), (y : Int)))) = u2 at *
                      go_wp2
                      go_roundw
                      case rel => exact ⟨k + 1, by omega, by go_num, by rw [HNX.out]; exact C4, R4, L4⟩
                      case measure => simp [intOf]; omega
                    exact AllReadyH.nil
                  exact AllReadyH.nil
                exact AllReadyH.nil
              exact AllReadyH.nil
            exact AllReadyH.nil
          refine AllReadyH.cons rfl (fun K hK => ?_) ?_
          · rw [if_pos (by rfl)]
            refine wp_load_mid 102 _ rfl _ 0 rfl (ic c) _ (C1.range HL.out) u67 rfl i67 ?_
            refine hK.out _ _ trivial (fun _ => ?_)
            clear hK K
            simp only [Act.put, List.setIfInBounds_toArray, List.set_cons_zero, List.set_cons_succ]
            refine wpAnyH_ready (rs := [0, 2]) (by kernel_rfl) (by simp) ?_
            refine AllReadyH.cons rfl (fun K hK => ?_) ?_
            · rw [if_pos (by rfl)]
              refine wp_load_mid 102 _ rfl _ 0 rfl (ic c) _ (C1.range HL.out) u67 rfl i67 ?_
              refine hK.out _ _ trivial (fun _ => ?_)
              clear hK K
              simp only [Act.put, List.setIfInBounds_toArray, List.set_cons_zero, List.set_cons_succ]
              refine wpAnyH_ready (rs := [2]) (by kernel_rfl) (by simp) ?_
              refine AllReadyH.cons rfl (fun K hK => ?_) ?_
              · rw [if_pos (by rfl)]
                refine wp_load_mid 69 _ rfl _ 0 rfl [.int .i64 (x : Int), .int .i64 (y : Int)] _ B1.range u60 rfl i60 ?_
                refine hK.out _ _ trivial (fun _ => ?_)
                clear hK K
                simp only [Act.put, List.setIfInBounds_toArray, List.set_cons_zero, List.set_cons_succ]
                refine wpAnyH_ready (rs := [3]) (by kernel_rfl) (by simp) ?_
                refine AllReadyH.cons rfl (fun K hK => ?_) ?_
                · rw [if_pos (by rfl)]
                  go_simp
                  refine (of_any c x y _ HL.out hx hy).mono ?_
                  rintro e u0 ⟨rfl, h0⟩
                  have C2 := C1.below h0 C1.1; have R2 := R1.below h0 R1.1; have B2 := B1.below h0 B1.lt; have L2 := L1.trans (h0.mono L1.size); clear h0
                  refine hK.out _ _ trivial (fun _ => ?_)
                  clear hK K
                  refine wpAnyH_ready (rs := [4]) (by kernel_rfl) (by simp) ?_
                  refine AllReadyH.cons rfl (fun K hK => ?_) ?_
                  · rw [if_pos (by rfl)]
                    go_simp
                    refine (joined_any c _ _ HL.out hX.1 hX.2 hY.1 hY.2 _).mono ?_
                    rintro e u1 ⟨rfl, h1⟩
                    have C3 := C2.below h1 C2.1; have R3 := R2.below h1 R2.1; have L3 := L2.trans (h1.mono L2.size); clear h1
                    rw [← HJ.out]
                    unfold aV
                    refine hK.out _ _ trivial (fun _ => ?_)
                    clear hK K
                    refine wpAnyH_ready (rs := [5]) (by kernel_rfl) (by simp) ?_
                    refine AllReadyH.cons rfl (fun K hK => ?_) ?_
                    · rw [if_pos (by rfl)]
                      refine wp_store_mid 102 _ _ rfl _ 0 (ic (jn c ((x : Int), (y : Int)))).toArray rfl rfl (by rw [ic_size, HNL.out]; exact C3.there) (by rw [ic_size, HNL.out]; kernel_rfl) (ic_one _) ?_
                      refine hK.out _ _ trivial (fun _ => ?_)
                      clear hK K
                      simp only [Act.put, List.setIfInBounds_toArray, List.set_cons_zero, List.set_cons_succ]
                      refine wpAnyH_done (by kernel_rfl) ?_ _
                      have C4 := C3.setAll HNL.out
                      have R4 := R3.setCells (w.heap.size + 1 + 1) (by omega) (ic (jn c ((x : Int), (y : Int))))
                      have L4 := Below.setCells (w.heap.size + 1 + 1) (by omega) (ic (jn c ((x : Int), (y : Int)))) 0 _ L3
                      clear C3 R3 L3
                      generalize World.setCells _ (w.heap.size + 1 + 1) 0 (ic (jn c ((x : Int), (y : Int)))) = u2 at *
                      go_wp2
                      go_roundw
                      case rel => exact ⟨k + 1, by omega, by go_num, by rw [HNX.out]; exact C4, R4, L4⟩
                      case measure => simp [intOf]; omega
                    exact AllReadyH.nil
                  exact AllReadyH.nil
                exact AllReadyH.nil
              exact AllReadyH.nil
            refine AllReadyH.cons rfl (fun K hK => ?_) ?_
            · rw [if_pos (by rfl)]
              refine wp_load_mid 69 _ rfl _ 0 rfl [.int .i64 (x : Int), .int .i64 (y : Int)] _ B1.range u60 rfl i60 ?_
              refine hK.out _ _ trivial (fun _ => ?_)
              clear hK K
              simp only [Act.put, List.setIfInBounds_toArray, List.set_cons_zero, List.set_cons_succ]
              refine wpAnyH_ready (rs := [0, 3]) (by kernel_rfl) (by simp) ?_
              refine AllReadyH.cons rfl (fun K hK => ?_) ?_
              · rw [if_pos (by rfl)]
                refine wp_load_mid 102 _ rfl _ 0 rfl (ic c) _ (C1.range HL.out) u67 rfl i67 ?_
                refine hK.out _ _ trivial (fun _ => ?_)
                clear hK K
                simp only [Act.put, List.setIfInBounds_toArray, List.set_cons_zero, List.set_cons_succ]
                refine wpAnyH_ready (rs := [3]) (by kernel_rfl) (by simp) ?_
                refine AllReadyH.cons rfl (fun K hK => ?_) ?_
                · rw [if_pos (by rfl)]
                  go_simp
                  refine (of_any c x y _ HL.out hx hy).mono ?_
                  rintro e u0 ⟨rfl, h0⟩
                  have C2 := C1.below h0 C1.1; have R2 := R1.below h0 R1.1; have B2 := B1.below h0 B1.lt; have L2 := L1.trans (h0.mono L1.size); clear h0
                  refine hK.out _ _ trivial (fun _ => ?_)
                  clear hK K
                  refine wpAnyH_ready (rs := [4]) (by kernel_rfl) (by simp) ?_
                  refine AllReadyH.cons rfl (fun K hK => ?_) ?_
                  · rw [if_pos (by rfl)]
                    go_simp
                    refine (joined_any c _ _ HL.out hX.1 hX.2 hY.1 hY.2 _).mono ?_
                    rintro e u1 ⟨rfl, h1⟩
                    have C3 := C2.below h1 C2.1; have R3 := R2.below h1 R2.1; have L3 := L2.trans (h1.mono L2.size); clear h1
                    rw [← HJ.out]
                    unfold aV
                    refine hK.out _ _ trivial (fun _ => ?_)
                    clear hK K
                    refine wpAnyH_ready (rs := [5]) (by kernel_rfl) (by simp) ?_
                    refine AllReadyH.cons rfl (fun K hK => ?_) ?_
                    · rw [if_pos (by rfl)]
                      refine wp_store_mid 102 _ _ rfl _ 0 (ic (jn c ((x : Int), (y : Int)))).toArray rfl rfl (by rw [ic_size, HNL.out]; exact C3.there) (by rw [ic_size, HNL.out]; kernel_rfl) (ic_one _) ?_
                      refine hK.out _ _ trivial (fun _ => ?_)
                      clear hK K
                      simp only [Act.put, List.setIfInBounds_toArray, List.set_cons_zero, List.set_cons_succ]
                      refine wpAnyH_done (by kernel_rfl) ?_ _
                      have C4 := C3.setAll HNL.out
                      have R4 := R3.setCells (w.heap.size + 1 + 1) (by omega) (ic (jn c ((x : Int), (y : Int))))
                      have L4 := Below.setCells (w.heap.size + 1 + 1) (by omega) (ic (jn c ((x : Int), (y : Int)))) 0 _ L3
                      clear C3 R3 L3
                      generalize World.setCells _ (w.heap.size + 1 + 1) 0 (ic (jn c ((x : Int), (y : Int)))) = u2 at *
                      go_wp2
                      go_roundw
                      case rel => exact ⟨k + 1, by omega, by go_num, by rw [HNX.out]; exact C4, R4, L4⟩
                      case measure => simp [intOf]; omega
                    exact AllReadyH.nil
                  exact AllReadyH.nil
                exact AllReadyH.nil
              refine AllReadyH.cons rfl (fun K hK => ?_) ?_
              · rw [if_pos (by rfl)]
                go_simp
                refine (of_any c x y _ HL.out hx hy).mono ?_
                rintro e u0 ⟨rfl, h0⟩
                have C2 := C1.below h0 C1.1; have R2 := R1.below h0 R1.1; have B2 := B1.below h0 B1.lt; have L2 := L1.trans (h0.mono L1.size); clear h0
                refine hK.out _ _ trivial (fun _ => ?_)
                clear hK K
                refine wpAnyH_ready (rs := [0]) (by kernel_rfl) (by simp) ?_
                refine AllReadyH.cons rfl (fun K hK => ?_) ?_
                · rw [if_pos (by rfl)]
                  refine wp_load_mid 102 _ rfl _ 0 rfl (ic c) _ (C2.range HL.out) u67 rfl i67 ?_
                  refine hK.out _ _ trivial (fun _ => ?_)
                  clear hK K
                  simp only [Act.put, List.setIfInBounds_toArray, List.set_cons_zero, List.set_cons_succ]
                  refine wpAnyH_ready (rs := [4]) (by kernel_rfl) (by simp) ?_
                  refine AllReadyH.cons rfl (fun K hK => ?_) ?_
                  · rw [if_pos (by rfl)]
                    go_simp
                    refine (joined_any c _ _ HL.out hX.1 hX.2 hY.1 hY.2 _).mono ?_
                    rintro e u1 ⟨rfl, h1⟩
                    have C3 := C2.below h1 C2.1; have R3 := R2.below h1 R2.1; have L3 := L2.trans (h1.mono L2.size); clear h1
                    rw [← HJ.out]
                    unfold aV
                    refine hK.out _ _ trivial (fun _ => ?_)
                    clear hK K
                    refine wpAnyH_ready (rs := [5]) (by kernel_rfl) (by simp) ?_
                    refine AllReadyH.cons rfl (fun K hK => ?_) ?_
                    · rw [if_pos (by rfl)]
                      refine wp_store_mid 102 _ _ rfl _ 0 (ic (jn c ((x : Int), (y : Int)))).toArray rfl rfl (by rw [ic_size, HNL.out]; exact C3.there) (by rw [ic_size, HNL.out]; kernel_rfl) (ic_one _) ?_
                      refine hK.out _ _ trivial (fun _ => ?_)
                      clear hK K
                      simp only [Act.put, List.setIfInBounds_toArray, List.set_cons_zero, List.set_cons_succ]
                      refine wpAnyH_done (by kernel_rfl) ?_ _
                      have C4 := C3.setAll HNL.out
                      have R4 := R3.setCells (w.heap.size + 1 + 1) (by omega) (ic (jn c ((x : Int), (y : Int))))
                      have L4 := Below.setCells (w.heap.size + 1 + 1) (by omega) (ic (jn c ((x : Int), (y : Int)))) 0 _ L3
                      clear C3 R3 L3
                      generalize World.setCells _ (w.heap.size + 1 + 1) 0 (ic (jn c ((x : Int), (y : Int)))) = u2 at *
                      go_wp2
                      go_roundw
                      case rel => exact ⟨k + 1, by omega, by go_num, by rw [HNX.out]; exact C4, R4, L4⟩
                      case measure => simp [intOf]; omega
                    exact AllReadyH.nil
                  exact AllReadyH.nil
                exact AllReadyH.nil
              exact AllReadyH.nil
            exact AllReadyH.nil
          refine AllReadyH.cons rfl (fun K hK => ?_) ?_
          · rw [if_pos (by rfl)]
            refine wp_load_mid 69 _ rfl _ 0 rfl [.int .i64 (x : Int), .int .i64 (y : Int)] _ B1.range u60 rfl i60 ?_
            refine hK.out _ _ trivial (fun _ => ?_)
            clear hK K
            simp only [Act.put, List.setIfInBounds_toArray, List.set_cons_zero, List.set_cons_succ]
            refine wpAnyH_ready (rs := [0, 1]) (by kernel_rfl) (by simp) ?_
            refine AllReadyH.cons rfl (fun K hK => ?_) ?_
            · rw [if_pos (by rfl)]
              refine wp_load_mid 102 _ rfl _ 0 rfl (ic c) _ (C1.range HL.out) u67 rfl i67 ?_
              refine hK.out _ _ trivial (fun _ => ?_)
              clear hK K
              simp only [Act.put, List.setIfInBounds_toArray, List.set_cons_zero, List.set_cons_succ]
              refine wpAnyH_ready (rs := [1]) (by kernel_rfl) (by simp) ?_
              refine AllReadyH.cons rfl (fun K hK => ?_) ?_
              · rw [if_pos (by rfl)]
                refine wp_load_mid 102 _ rfl _ 0 rfl (ic c) _ (C1.range HL.out) u67 rfl i67 ?_
                refine hK.out _ _ trivial (fun _ => ?_)
                clear hK K
                simp only [Act.put, List.setIfInBounds_toArray, List.set_cons_zero, List.set_cons_succ]
                refine wpAnyH_ready (rs := [3]) (by kernel_rfl) (by simp) ?_
                refine AllReadyH.cons rfl (fun K hK => ?_) ?_
                · rw [if_pos (by rfl)]
                  go_simp
                  refine (of_any c x y _ HL.out hx hy).mono ?_
                  rintro e u0 ⟨rfl, h0⟩
                  have C2 := C1.below h0 C1.1; have R2 := R1.below h0 R1.1; have B2 := B1.below h0 B1.lt; have L2 := L1.trans (h0.mono L1.size); clear h0
                  refine hK.out _ _ trivial (fun _ => ?_)
                  clear hK K
                  refine wpAnyH_ready (rs := [4]) (by kernel_rfl) (by simp) ?_
                  refine AllReadyH.cons rfl (fun K hK => ?_) ?_
                  · rw [if_pos (by rfl)]
                    go_simp
                    refine (joined_any c _ _ HL.out hX.1 hX.2 hY.1 hY.2 _).mono ?_
                    rintro e u1 ⟨rfl, h1⟩
                    have C3 := C2.below h1 C2.1; have R3 := R2.below h1 R2.1; have L3 := L2.trans (h1.mono L2.size); clear h1
                    rw [← HJ.out]
                    unfold aV
                    refine hK.out _ _ trivial (fun _ => ?_)
                    clear hK K
                    refine wpAnyH_ready (rs := [5]) (by kernel_rfl) (by simp) ?_
                    refine AllReadyH.cons rfl (fun K hK => ?_) ?_
                    · rw [if_pos (by rfl)]
                      refine wp_store_mid 102 _ _ rfl _ 0 (ic (jn c ((x : Int), (y : Int)))).toArray rfl rfl (by rw [ic_size, HNL.out]; exact C3.there) (by rw [ic_size, HNL.out]; kernel_rfl) (ic_one _) ?_
                      refine hK.out _ _ trivial (fun _ => ?_)
                      clear hK K
                      simp only [Act.put, List.setIfInBounds_toArray, List.set_cons_zero, List.set_cons_succ]
                      refine wpAnyH_done (by kernel_rfl) ?_ _
                      have C4 := C3.setAll HNL.out
                      have R4 := R3.setCells (w.heap.size + 1 + 1) (by omega) (ic (jn c ((x : Int), (y : Int))))
                      have L4 := Below.setCells (w.heap.size + 1 + 1) (by omega) (ic (jn c ((x : Int), (y : Int)))) 0 _ L3
                      clear C3 R3 L3
                      generalize World.setCells _ (w.heap.size + 1 + 1) 0 (ic (jn c ((x : Int), (y : Int)))) = u2 at *
                      go_wp2
                      go_roundw
                      case rel => exact ⟨k + 1, by omega, by go_num, by rw [HNX.out]; exact C4, R4, L4⟩
                      case measure => simp [intOf]; omega
                    exact AllReadyH.nil
                  exact AllReadyH.nil
                exact AllReadyH.nil
              exact AllReadyH.nil
            refine AllReadyH.cons rfl (fun K hK => ?_) ?_
            · rw [if_pos (by rfl)]
              refine wp_load_mid 102 _ rfl _ 0 rfl (ic c) _ (C1.range HL.out) u67 rfl i67 ?_
              refine hK.out _ _ trivial (fun _ => ?_)
              clear hK K
              simp only [Act.put, List.setIfInBounds_toArray, List.set_cons_zero, List.set_cons_succ]
              refine wpAnyH_ready (rs := [0, 3]) (by kernel_rfl) (by simp) ?_
              refine AllReadyH.cons rfl (fun K hK => ?_) ?_
              · rw [if_pos (by rfl)]
                refine wp_load_mid 102 _ rfl _ 0 rfl (ic c) _ (C1.range HL.out) u67 rfl i67 ?_
                refine hK.out _ _ trivial (fun _ => ?_)
                clear hK K
                simp only [Act.put, List.setIfInBounds_toArray, List.set_cons_zero, List.set_cons_succ]
                refine wpAnyH_ready (rs := [3]) (by kernel_rfl) (by simp) ?_
                refine AllReadyH.cons rfl (fun K hK => ?_) ?_
                · rw [if_pos (by rfl)]
                  go_simp
                  refine (of_any c x y _ HL.out hx hy).mono ?_
                  rintro e u0 ⟨rfl, h0⟩
                  have C2 := C1.below h0 C1.1; have R2 := R1.below h0 R1.1; have B2 := B1.below h0 B1.lt; have L2 := L1.trans (h0.mono L1.size); clear h0
                  refine hK.out _ _ trivial (fun _ => ?_)
                  clear hK K
                  refine wpAnyH_ready (rs := [4]) (by kernel_rfl) (by simp) ?_
                  refine AllReadyH.cons rfl (fun K hK => ?_) ?_
                  · rw [if_pos (by rfl)]
                    go_simp
                    refine (joined_any c _ _ HL.out hX.1 hX.2 hY.1 hY.2 _).mono ?_
                    rintro e u1 ⟨rfl, h1⟩
                    have C3 := C2.below h1 C2.1; have R3 := R2.below h1 R2.1; have L3 := L2.trans (h1.mono L2.size); clear h1
                    rw [← HJ.out]
                    unfold aV
                    refine hK.out _ _ trivial (fun _ => ?_)
                    clear hK K
                    refine wpAnyH_ready (rs := [5]) (by kernel_rfl) (by simp) ?_
                    refine AllReadyH.cons rfl (fun K hK => ?_) ?_
                    · rw [if_pos (by rfl)]
                      refine wp_store_mid 102 _ _ rfl _ 0 (ic (jn c ((x : Int), (y : Int)))).toArray rfl rfl (by rw [ic_size, HNL.out]; exact C3.there) (by rw [ic_size, HNL.out]; kernel_rfl) (ic_one _) ?_
                      refine hK.out _ _ trivial (fun _ => ?_)
                      clear hK K
                      simp only [Act.put, List.setIfInBounds_toArray, List.set_cons_zero, List.set_cons_succ]
                      refine wpAnyH_done (by kernel_rfl) ?_ _
                      have C4 := C3.setAll HNL.out
                      have R4 := R3.setCells (w.heap.size + 1 + 1) (by omega) (ic (jn c ((x : Int), (y : Int))))
                      have L4 := Below.setCells (w.heap.size + 1 + 1) (by omega) (ic (jn c ((x : Int), (y : Int)))) 0 _ L3
                      clear C3 R3 L3
                      generalize World.setCells _ (w.heap.size + 1 + 1) 0 (ic (jn c ((x : Int), (y : Int)))) = u2 at *
                      go_wp2
                      go_roundw
                      case rel => exact ⟨k + 1, by omega, by go_num, by rw [HNX.out]; exact C4, R4, L4⟩
                      case measure => simp [intOf]; omega
                    exact AllReadyH.nil
                  exact AllReadyH.nil
                exact AllReadyH.nil
              refine AllReadyH.cons rfl (fun K hK => ?_) ?_
              · rw [if_pos (by rfl)]
                go_simp
                refine (of_any c x y _ HL.out hx hy).mono ?_
                rintro e u0 ⟨rfl, h0⟩
                have C2 := C1.below h0 C1.1; have R2 := R1.below h0 R1.1; have B2 := B1.below h0 B1.lt; have L2 := L1.trans (h0.mono L1.size); clear h0
                refine hK.out _ _ trivial (fun _ => ?_)
                clear hK K
                refine wpAnyH_ready (rs := [0]) (by kernel_rfl) (by simp) ?_
                refine AllReadyH.cons rfl (fun K hK => ?_) ?_
                · rw [if_pos (by rfl)]
                  refine wp_load_mid 102 _ rfl _ 0 rfl (ic c) _ (C2.range HL.out) u67 rfl i67 ?_
                  refine hK.out _ _ trivial (fun _ => ?_)
                  clear hK K
                  simp only [Act.put, List.setIfInBounds_toArray, List.set_cons_zero, List.set_cons_succ]
                  refine wpAnyH_ready (rs := [4]) (by kernel_rfl) (by simp) ?_
                  refine AllReadyH.cons rfl (fun K hK => ?_) ?_
                  · rw [if_pos (by rfl)]
                    go_simp
                    refine (joined_any c _ _ HL.out hX.1 hX.2 hY.1 hY.2 _).mono ?_
                    rintro e u1 ⟨rfl, h1⟩
                    have C3 := C2.below h1 C2.1; have R3 := R2.below h1 R2.1; have L3 := L2.trans (h1.mono L2.size); clear h1
                    rw [← HJ.out]
                    unfold aV
                    refine hK.out _ _ trivial (fun _ => ?_)
                    clear hK K
                    refine wpAnyH_ready (rs := [5]) (by kernel_rfl) (by simp) ?_
                    refine AllReadyH.cons rfl (fun K hK => ?_) ?_
                    · rw [if_pos (by rfl)]
                      refine wp_store_mid 102 _ _ rfl _ 0 (ic (jn c ((x : Int), (y : Int)))).toArray rfl rfl (by rw [ic_size, HNL.out]; exact C3.there) (by rw [ic_size, HNL.out]; kernel_rfl) (ic_one _) ?_
                      refine hK.out _ _ trivial (fun _ => ?_)
                      clear hK K
                      simp only [Act.put, List.setIfInBounds_toArray, List.set_cons_zero, List.set_cons_succ]
                      refine wpAnyH_done (by kernel_rfl) ?_ _
                      have C4 := C3.setAll HNL.out
                      have R4 := R3.setCells (w.heap.size + 1 + 1) (by omega) (ic (jn c ((x : Int), (y : Int))))
                      have L4 := Below.setCells (w.heap.size + 1 + 1) (by omega) (ic (jn c ((x : Int), (y : Int)))) 0 _ L3
                      clear C3 R3 L3
                      generalize World.setCells _ (w.heap.size + 1 + 1) 0 (ic (jn c ((x : Int), (y : Int)))) = u2 at *
                      go_wp2
                      go_roundw
                      case rel => exact ⟨k + 1, by omega, by go_num, by rw [HNX.out]; exact C4, R4, L4⟩
                      case measure => simp [intOf]; omega
                    exact AllReadyH.nil
                  exact AllReadyH.nil
                exact AllReadyH.nil
              exact AllReadyH.nil
            exact AllReadyH.nil
          exact AllReadyH.nil
        · obtain rfl : k = l0.length := by omega
          rw [List.take_length] at C
          have HC := (Cls.all ht).1
          have hnl : ¬ ((l0.length : Int) < (l0.length : Int)) := by omega
          iterate 18 go_step
          refine wl67 rfl (.tmp 3) rfl _ rfl C HC ?_
          refine ws67 rfl (.tmp 2) (.tmp 27) rfl _ rfl (clsV l0) _ rfl R HC rfl ?_
          have F := R.setAll HC
          have L2 := Below.setCells (w.heap.size + 1) (Nat.le_succ _) (ic (clsV l0)) 0 _ L
          generalize wr.setCells (w.heap.size + 1) 0 (ic (clsV l0)) = wz at *
          iterate 5 go_step
          exact bodyPost_ret (ret67 rfl _ _ _ rfl F HC) rfl ⟨rfl, L2⟩
end Go.Proofs.Ytphchdjbhbmnbaa
namespace Go.Proofs.Ytphchdjbhbmnbaa
open Go.RowKit
def idxV (l : List Int) (v : Int) : Int := match l.findIdx? (fun z => decide (z = v)) with | some i => (i : Int) | none => -1
def hasV (l : List Int) (v : Int) : Bool := l.any fun z => decide (z = v)
theorem idx_hit {l : List Int} {v : Int} {k : Nat} (hk : k < l.length) (h : ∀ j, j < k → ¬ l.getD j 0 = v) (e : l.getD k 0 = v) : idxV l v = (k : Int) ∧ hasV l v = true := by
  have e2 : l[k] = v := by simpa [hk] using e
  have hf : l.findIdx? (fun z => decide (z = v)) = some k := by
    rw [List.findIdx?_eq_some_iff_getElem]
    refine ⟨hk, by simpa using e2, fun j hj => ?_⟩
    have := h j hj
    have hjl : j < l.length := by omega
    simpa [hjl] using this
  refine ⟨by unfold idxV; rw [hf], ?_⟩
  unfold hasV
  rw [List.any_eq_true]
  exact ⟨l[k], List.getElem_mem hk, by simpa using e2⟩
theorem idx_none {l : List Int} {v : Int} (h : ∀ j, j < l.length → ¬ l.getD j 0 = v) : idxV l v = -1 ∧ hasV l v = false := by
  have hn : ∀ z ∈ l, ¬ z = v := by
    intro z hz
    obtain ⟨j, hj, rfl⟩ := List.getElem_of_mem hz
    have := h j hj
    simpa [hj] using this
  have hf : l.findIdx? (fun z => decide (z = v)) = none := by
    rw [List.findIdx?_eq_none_iff]
    intro z hz
    simpa using hn z hz
  refine ⟨by unfold idxV; rw [hf], ?_⟩
  unfold hasV
  rw [List.any_eq_false]
  intro z hz
  simpa using hn z hz
theorem has_idx (l : List Int) (v : Int) : decide (idxV l v ≥ 0) = hasV l v := by
  by_cases h : ∃ z ∈ l, z = v
  · obtain ⟨z, hz, rfl⟩ := h
    obtain ⟨k, hk⟩ : ∃ k, l.findIdx? (fun y => decide (y = z)) = some k := by
      cases hf : l.findIdx? (fun y => decide (y = z)) with
      | some k => exact ⟨k, rfl⟩
      | none =>
        rw [List.findIdx?_eq_none_iff] at hf
        have := hf z hz
        simp at this
    have h2 : hasV l z = true := by unfold hasV; rw [List.any_eq_true]; exact ⟨z, hz, by simp⟩
    rw [h2]
    unfold idxV
    rw [hk]
    simp
  · have hn : ∀ j, j < l.length → ¬ l.getD j 0 = v := by
      intro j hj e
      exact h ⟨l[j], List.getElem_mem hj, by simpa [hj] using e⟩
    rw [(idx_none hn).1, (idx_none hn).2]
    rfl

set_option maxRecDepth 3000 in
set_option maxHeartbeats 1000000 in
theorem index_any (lo hi n cp : Nat) (a : Option Addr) (l : List Int) (v : Int) (w : World) (hn : n ≤ 1048576) (hr : IntIn w lo hi a n l) :
    Calls Try.prog 169 #[.slice a n cp, .int .i64 v] w fun e w' => e = .returned (.int .i64 (idxV l v)) ∧ w' = w := by
  obtain ⟨hl, hr⟩ := hr
  have HL : Hid (l.length = n) := hl
  clear hl
  go_enter Try.func169, Try.ntmps169
  go_wp2_with fail
  go_loop [8] (fun i => ∃ k : Nat, k ≤ n ∧ i = .int .i64 k ∧ Hid (∀ j, j < k → ¬ l.getD j 0 = v)) (fun i => n - (intOf i).toNat)
  case atStart => exact ⟨0, Nat.zero_le _, rfl, fun j hj => absurd hj (Nat.not_lt_zero _)⟩
  case round =>
    obtain ⟨k, hk, rfl, HM⟩ := hrel
    by_cases hlt : k < n
    · rcases hr with h0 | ⟨b, rfl, _, _, O⟩
      · omega
      have ev := O.2.2 k hlt
      have hkn : (k : Int) < (n : Int) := by omega
      have hk0 : (0 : Int) ≤ (k : Int) := by omega
      clear O
      by_cases hf : l.getD k 0 = v
      · have HV : Hid (idxV l v = (k : Int)) := by unfold Hid; exact (idx_hit (by have := HL.out; omega) HM.out hf).1
        rw [hf] at ev
        clear hf
        go_wp2
        go_ret
        exact ⟨by rw [HV.out]; rfl, rfl⟩
      · have HM2 : Hid (∀ j, j < k + 1 → ¬ l.getD j 0 = v) := by
          intro j hj
          by_cases e : j = k
          · subst e; exact hf
          · exact HM.out j (by omega)
        generalize l.getD k 0 = z at *
        have hf2 : ¬ v = z := fun e => hf e.symm
        go_wp2
        go_round
        case rel => exact ⟨k + 1, by omega, by go_num, HM2⟩
        case measure => simp [intOf]; omega
    · have HV : Hid (idxV l v = -1) := by unfold Hid; exact (idx_none (fun j hj => HM.out j (by have := HL.out; omega))).1
      have hge : ¬ ((k : Int) < (n : Int)) := by omega
      go_wp2
      go_ret
      exact ⟨by rw [HV.out]; rfl, rfl⟩

set_option maxRecDepth 3000 in
set_option maxHeartbeats 1000000 in
theorem l3has_any (lo hi n cp : Nat) (a : Option Addr) (l : List Int) (v : Int) (w : World) (hn : n ≤ 1048576) (hr : IntIn w lo hi a n l) :
    Calls Try.prog 216 #[.slice a n cp, .int .i64 v] w fun e w' => e = .returned (.bool (hasV l v)) ∧ w' = w := by
  obtain ⟨hl, hr⟩ := hr
  have HL : Hid (l.length = n) := hl
  clear hl
  go_enter Try.func216, Try.ntmps216
  go_wp2_with fail
  go_loop [5] (fun i => ∃ k : Nat, k ≤ n ∧ i = .int .i64 k ∧ Hid (∀ j, j < k → ¬ l.getD j 0 = v)) (fun i => n - (intOf i).toNat)
  case atStart => exact ⟨0, Nat.zero_le _, rfl, fun j hj => absurd hj (Nat.not_lt_zero _)⟩
  case round =>
    obtain ⟨k, hk, rfl, HM⟩ := hrel
    by_cases hlt : k < n
    · rcases hr with h0 | ⟨b, rfl, _, _, O⟩
      · omega
      have ev := O.2.2 k hlt
      have hkn : (k : Int) < (n : Int) := by omega
      have hk0 : (0 : Int) ≤ (k : Int) := by omega
      clear O
      by_cases hf : l.getD k 0 = v
      · have HV : Hid (hasV l v = true) := by unfold Hid; exact (idx_hit (by have := HL.out; omega) HM.out hf).2
        rw [hf] at ev
        clear hf
        go_wp2
        go_ret
        exact ⟨by rw [HV.out]; rfl, rfl⟩
      · have HM2 : Hid (∀ j, j < k + 1 → ¬ l.getD j 0 = v) := by
          intro j hj
          by_cases e : j = k
          · subst e; exact hf
          · exact HM.out j (by omega)
        generalize l.getD k 0 = z at *
        have hf2 : ¬ v = z := fun e => hf e.symm
        go_wp2
        go_round
        case rel => exact ⟨k + 1, by omega, by go_num, HM2⟩
        case measure => simp [intOf]; omega
    · have HV : Hid (hasV l v = false) := by unfold Hid; exact (idx_none (fun j hj => HM.out j (by have := HL.out; omega))).2
      have hge : ¬ ((k : Int) < (n : Int)) := by omega
      go_wp2
      go_ret
      exact ⟨by rw [HV.out]; rfl, rfl⟩

set_option maxHeartbeats 1000000 in
theorem contains_any (lo hi n cp : Nat) (a : Option Addr) (l : List Int) (v : Int) (w : World) (hn : n ≤ 1048576) (hr : IntIn w lo hi a n l) :
    Calls Try.prog 219 #[.slice a n cp, .int .i64 v] w fun e w' => e = .returned (.bool (hasV l v)) ∧ w' = w := by
  have HV : Hid (decide (idxV l v ≥ 0) = hasV l v) := has_idx l v
  go_enter Try.func219, Try.ntmps219
  go_wp2_with fail
  refine (index_any lo hi n cp a l v _ hn hr).mono ?_
  rintro e wz ⟨rfl, rfl⟩
  generalize idxV l v = q at *
  go_wp2
  go_ret
  exact ⟨by rw [← HV.out]; rfl, rfl⟩
end Go.Proofs.Ytphchdjbhbmnbaa
namespace Go.Proofs.Ytphchdjbhbmnbaa
open Go.RowKit
def headsOf (c : List Int) (l : List (Int × Int)) : List Int := l.map fun p => c.getD p.1.toNat 0
def headsV (c : List Int) (l2 l3 : List (Int × Int)) : List Int := headsOf c l2 ++ headsOf c l3
theorem headsOf_len (c : List Int) (l : List (Int × Int)) : (headsOf c l).length = l.length := by simp [headsOf]
theorem headsOf_step (c : List Int) {l : List (Int × Int)} {k : Nat} (hk : k < l.length) : headsOf c (l.take (k + 1)) = headsOf c (l.take k) ++ [c.getD (l.getD k (0, 0)).1.toNat 0] := by
  unfold headsOf
  rw [List.take_add_one, List.getElem?_eq_getElem hk]
  simp only [Option.toList_some, List.map_append, List.map_cons, List.map_nil]
  rw [List.getD_eq_getElem?_getD (l := l), List.getElem?_eq_getElem hk, Option.getD_some]

set_option maxRecDepth 3000 in
set_option maxHeartbeats 2000000 in
theorem l3heads_any (a0 a1 a2 a3 : Option Addr) (c0 c1 c2 c3 : Nat) (l0 l1 l2 l3 : List (Int × Int)) (b cp : Nat) (c : List Int) (hl : c.length = 16) (w : World) (n2 : l2.length ≤ 1048576) (n3 : l3.length ≤ 1048576) (t2 : toks l2 = true) (t3 : toks l3 = true) (r2 : PRow w a2 l2) (r3 : PRow w a3 l3) (CO : OwnI w b 16 c 16) :
    Calls Try.prog 163 #[.agg #[.slice a0 l0.length c0, .slice a1 l1.length c1, .slice a2 l2.length c2, .slice a3 l3.length c3], .slice (some ⟨b, 0, none⟩) 16 cp] w fun e w' => ∃ a cq, e = .returned (.slice a (headsV c l2 l3).length cq) ∧ IntIn w' w.heap.size w'.heap.size a (headsV c l2 l3).length (headsV c l2 l3) ∧ Below w.heap.size w w' := by
  have CW := CO.alloc (.cells #[.slice a0 l0.length c0, .slice a1 l1.length c1, .slice a2 l2.length c2, .slice a3 l3.length c3] 28)
  have BW := Box.new w (.slice a0 l0.length c0) (.slice a1 l1.length c1) (.slice a2 l2.length c2) (.slice a3 l3.length c3) 28
  have LW : Below w.heap.size w (w.alloc (.cells #[.slice a0 l0.length c0, .slice a1 l1.length c1, .slice a2 l2.length c2, .slice a3 l3.length c3] 28)) := (Below.refl _ _).alloc (Nat.le_refl _) _
  have y2 := BW.c2; have y3 := BW.c3
  have sW : w.heap.size ≤ (w.alloc (.cells #[.slice a0 l0.length c0, .slice a1 l1.length c1, .slice a2 l2.length c2, .slice a3 l3.length c3] 28)).heap.size := by simp
  obtain ⟨i0, hi, hz0, hz1, hz2⟩ := Try.i3
  have HV : Hid (headsV c l2 l3 = headsOf c l2 ++ headsOf c l3) := rfl
  have HHL : Hid (c.length = 16) := hl
  clear hl
  go_enter Try.func163, Try.ntmps163
  go_wp2_with fail
  generalize (w.alloc (.cells #[.slice a0 l0.length c0, .slice a1 l1.length c1, .slice a2 l2.length c2, .slice a3 l3.length c3] 28)) = W at *
  clear y2 y3
  go_loopw [5, 6] (fun v i wr => ∃ k : Nat, k ≤ l2.length ∧ i = .int .i64 k ∧ wr.ownsRow W.heap.size 3 1 v (headsOf c (l2.take k)).length (ic (headsOf c (l2.take k))) ∧ Below W.heap.size W wr) (fun _ i _ => l2.length - (intOf i).toNat)
  case atStart => exact ⟨0, Nat.zero_le _, rfl, World.ownsRow_nil _ _ _ _, Below.refl _ _⟩
  case round =>
    skip
    obtain ⟨k, hk, rfl, hown, hbw⟩ := hrel
    by_cases hlt : k < l2.length
    · rcases r2 with hnil | ⟨b2, off, rfl, hb, hc⟩
      · rw [hnil] at hlt; simp at hlt
      have hq0 : wr.cell? ⟨b2, off + k * 2, none⟩ = some (.int .i64 (l2.getD k (0, 0)).1) := by rw [hbw.cell (p := ⟨b2, _, none⟩) (Nat.lt_of_lt_of_le hb sW)]; rw [LW.cell (p := ⟨b2, _, none⟩) hb]; exact (hc k hlt).1
      have hq1 : wr.cell? ⟨b2, off + k * 2 + 1, none⟩ = some (.int .i64 (l2.getD k (0, 0)).2) := by rw [hbw.cell (p := ⟨b2, _, none⟩) (Nat.lt_of_lt_of_le hb sW)]; rw [LW.cell (p := ⟨b2, _, none⟩) hb]; exact (hc k hlt).2
      have hkn : (k : Int) < (l2.length : Int) := by omega
      have hk0' : (0 : Int) ≤ (k : Int) := by omega
      have htk := (toks_get t2 hlt).1
      have HF : Hid ((headsOf c (l2.take (k + 1))) = (headsOf c (l2.take k)) ++ [c.getD (l2.getD k (0, 0)).1.toNat 0]) := by unfold Hid; rw [headsOf_step c hlt]
      have hle : (headsOf c (l2.take k)).length ≤ 2097152 := by have := headsOf_len c (l2.take k); simp only [List.length_take] at *; omega
      generalize (headsOf c (l2.take k)) = ls at *
      generalize l2.getD k (0, 0) = p at *
      clear hc
      obtain ⟨q1, q2⟩ := htk
      obtain ⟨x, y, rfl, hx⟩ : ∃ (x : Nat) (y : Int), p = ((x : Int), y) ∧ x < 16 := ⟨p.1.toNat, p.2, by rw [Int.toNat_of_nonneg q1], by omega⟩
      clear q1 q2
      dsimp only at hq0 hq1
      rw [Int.toNat_natCast] at HF
      have hxi : (x : Int) < 16 := by omega
      have hx0 : (0 : Int) ≤ (x : Int) := by omega
      have eb := (BW.below hbw BW.lt).c2
      have eu := (CW.below hbw CW.1).2.2 x hx
      have hbw0 := hbw
      have hown0 := hown
      skip
      generalize c.getD x 0 = u at *
      go_wp2_with (at_builtin; refine wpList_append_own _ rfl _ _ 44 rfl W.heap.size 3 i0 (.int .i64 0) 1 8 Try.underlying44 hi hz0 hz1 hz2 rfl (by decide) _ _ _ rfl (hown.alloc _) ⟨wr.heap.size, 0, none⟩ 1 1 [.int .i64 u] rfl rfl ?c1 ?c2 ?c3 ?c4 ?c5 ?_)
      case c1 =>
        intro j u hj
        match j, hj with
        | 0, hj => simp at hj; subst hj; simp [Addr.add]
      case c2 => intro u hu; simp at hu; subst hu; rfl
      case c3 => unfold maxLen; omega
      case c4 => omega
      case c5 => have := hbw0.size; simp; omega
      · intro v' w4 hown' hg hiff
        have hb2 := (hbw.alloc hbw.size _).grown hg (Nat.le_trans hbw.size (by simp)) (by intro q hq; exact (hown.lt q hq).1)
        clear hiff hg hown hbw hown0 hbw0 eu eb
        go_wp2
        first
          | (go_roundw
             case rel => exact ⟨k + 1, by omega, by go_num, by rw [HF.out]; simpa [ic] using hown', hb2⟩
             case measure => simp [intOf]; omega)
          | ((repeat apply Exists.intro); exact ⟨⟨k + 1, by omega, by go_num, by rw [HF.out]; simpa [ic] using hown', hb2⟩, rfl⟩)
    · have hown2 := hown
      rw [show k = l2.length by omega, List.take_length] at hown2
      clear hown
      have hge : ¬ ((k : Int) < (l2.length : Int)) := by omega
      have eb := (BW.below hbw BW.lt).c2
      have eb3 := (BW.below hbw BW.lt).c3
      rw [show headsOf c l2 = headsOf c l2 ++ headsOf c (l3.take 0) by simp [headsOf]] at hown2
      go_wp2_with fail
      have hbwA := hbw
      clear hbw eb eb3
      go_loopw [5, 7] (fun v i wr => ∃ k : Nat, k ≤ l3.length ∧ i = .int .i64 k ∧ wr.ownsRow W.heap.size 3 1 v (headsOf c l2 ++ headsOf c (l3.take k)).length (ic (headsOf c l2 ++ headsOf c (l3.take k))) ∧ Below W.heap.size W wr) (fun _ i _ => l3.length - (intOf i).toNat)
      case atStart => exact ⟨0, Nat.zero_le _, rfl, hown2, hbwA⟩
      case round =>
        clear hown2 hbwA
        obtain ⟨k, hk, rfl, hown, hbw⟩ := hrel
        by_cases hlt : k < l3.length
        · rcases r3 with hnil | ⟨b3, off, rfl, hb, hc⟩
          · rw [hnil] at hlt; simp at hlt
          have hq0 : wr.cell? ⟨b3, off + k * 2, none⟩ = some (.int .i64 (l3.getD k (0, 0)).1) := by rw [hbw.cell (p := ⟨b3, _, none⟩) (Nat.lt_of_lt_of_le hb sW)]; rw [LW.cell (p := ⟨b3, _, none⟩) hb]; exact (hc k hlt).1
          have hq1 : wr.cell? ⟨b3, off + k * 2 + 1, none⟩ = some (.int .i64 (l3.getD k (0, 0)).2) := by rw [hbw.cell (p := ⟨b3, _, none⟩) (Nat.lt_of_lt_of_le hb sW)]; rw [LW.cell (p := ⟨b3, _, none⟩) hb]; exact (hc k hlt).2
          have hkn : (k : Int) < (l3.length : Int) := by omega
          have hk0' : (0 : Int) ≤ (k : Int) := by omega
          have htk := (toks_get t3 hlt).1
          have HF : Hid ((headsOf c l2 ++ headsOf c (l3.take (k + 1))) = (headsOf c l2 ++ headsOf c (l3.take k)) ++ [c.getD (l3.getD k (0, 0)).1.toNat 0]) := by unfold Hid; rw [headsOf_step c hlt]; simp
          have hle : (headsOf c l2 ++ headsOf c (l3.take k)).length ≤ 2097152 := by have := headsOf_len c (l3.take k); have := headsOf_len c l2; simp only [List.length_append, List.length_take] at *; omega
          generalize (headsOf c l2 ++ headsOf c (l3.take k)) = ls at *
          generalize l3.getD k (0, 0) = p at *
          clear hc
          obtain ⟨q1, q2⟩ := htk
          obtain ⟨x, y, rfl, hx⟩ : ∃ (x : Nat) (y : Int), p = ((x : Int), y) ∧ x < 16 := ⟨p.1.toNat, p.2, by rw [Int.toNat_of_nonneg q1], by omega⟩
          clear q1 q2
          dsimp only at hq0 hq1
          rw [Int.toNat_natCast] at HF
          have hxi : (x : Int) < 16 := by omega
          have hx0 : (0 : Int) ≤ (x : Int) := by omega
          have eb := (BW.below hbw BW.lt).c3
          have eu := (CW.below hbw CW.1).2.2 x hx
          have hbw0 := hbw
          have hown0 := hown
          skip
          generalize c.getD x 0 = u at *
          go_wp2_with (at_builtin; refine wpList_append_own _ rfl _ _ 44 rfl W.heap.size 3 i0 (.int .i64 0) 1 8 Try.underlying44 hi hz0 hz1 hz2 rfl (by decide) _ _ _ rfl (hown.alloc _) ⟨wr.heap.size, 0, none⟩ 1 1 [.int .i64 u] rfl rfl ?c1 ?c2 ?c3 ?c4 ?c5 ?_)
          case c1 =>
            intro j u hj
            match j, hj with
            | 0, hj => simp at hj; subst hj; simp [Addr.add]
          case c2 => intro u hu; simp at hu; subst hu; rfl
          case c3 => unfold maxLen; omega
          case c4 => omega
          case c5 => have := hbw0.size; simp; omega
          · intro v' w4 hown' hg hiff
            have hb2 := (hbw.alloc hbw.size _).grown hg (Nat.le_trans hbw.size (by simp)) (by intro q hq; exact (hown.lt q hq).1)
            clear hiff hg hown hbw hown0 hbw0 eu eb
            go_wp2
            first
              | (go_roundw
                 case rel => exact ⟨k + 1, by omega, by go_num, by rw [HF.out]; simpa [ic] using hown', hb2⟩
                 case measure => simp [intOf]; omega)
              | ((repeat apply Exists.intro); exact ⟨⟨k + 1, by omega, by go_num, by rw [HF.out]; simpa [ic] using hown', hb2⟩, rfl⟩)
        · have hown2 := hown
          rw [show k = l3.length by omega, List.take_length] at hown2
          clear hown
          have hge : ¬ ((k : Int) < (l3.length : Int)) := by omega
          have eb := (BW.below hbw BW.lt).c3
          have eb3 := (BW.below hbw BW.lt).c3
          obtain ⟨a, cq, rfl, hr⟩ := IntIn.ofOwns hown2
          have L3 := LW.trans (hbw.mono sW)
          go_wp2
          go_ret
          exact ⟨a, ⟨cq, by rw [HV.out, List.length_append]; rfl⟩, by rw [HV.out]; exact hr.mono sW (Nat.le_refl _), L3⟩

set_option maxRecDepth 3000 in
set_option maxHeartbeats 2000000 in
theorem heads_any (a0 a1 a2 a3 : Option Addr) (c0 c1 c2 c3 : Nat) (l0 l1 l2 l3 : List (Int × Int)) (c : List Int) (hl : c.length = 16) (w : World) (n2 : l2.length ≤ 1048576) (n3 : l3.length ≤ 1048576) (t2 : toks l2 = true) (t3 : toks l3 = true) (r2 : PRow w a2 l2) (r3 : PRow w a3 l3) :
    Calls Try.prog 159 #[aV c, .agg #[.slice a0 l0.length c0, .slice a1 l1.length c1, .slice a2 l2.length c2, .slice a3 l3.length c3]] w fun e w' => ∃ a cq, e = .returned (.slice a (headsV c l2 l3).length cq) ∧ IntIn w' w.heap.size w'.heap.size a (headsV c l2 l3).length (headsV c l2 l3) ∧ Below w.heap.size w w' := by
  have CW := (OwnI.new w c 16 hl 102).alloc (.cells #[.slice a0 l0.length c0, .slice a1 l1.length c1, .slice a2 l2.length c2, .slice a3 l3.length c3] 28)
  have BW := Box.new (w.alloc (.cells (ic c).toArray 102)) (.slice a0 l0.length c0) (.slice a1 l1.length c1) (.slice a2 l2.length c2) (.slice a3 l3.length c3) 28
  have LW : Below w.heap.size w ((w.alloc (.cells (ic c).toArray 102)).alloc (.cells #[.slice a0 l0.length c0, .slice a1 l1.length c1, .slice a2 l2.length c2, .slice a3 l3.length c3] 28)) := ((Below.refl _ _).alloc (Nat.le_refl _) _).alloc (by simp) _
  rw [World.size_alloc] at BW
  have y2 := BW.c2; have y3 := BW.c3
  unfold aV
  have sW : w.heap.size ≤ ((w.alloc (.cells (ic c).toArray 102)).alloc (.cells #[.slice a0 l0.length c0, .slice a1 l1.length c1, .slice a2 l2.length c2, .slice a3 l3.length c3] 28)).heap.size := by simp; omega
  obtain ⟨i0, hi, hz0, hz1, hz2⟩ := Try.i3
  have HV : Hid (headsV c l2 l3 = headsOf c l2 ++ headsOf c l3) := rfl
  have HHL : Hid (c.length = 16) := hl
  clear hl
  go_enter Try.func159, Try.ntmps159
  go_wp2_with fail
  generalize ((w.alloc (.cells (ic c).toArray 102)).alloc (.cells #[.slice a0 l0.length c0, .slice a1 l1.length c1, .slice a2 l2.length c2, .slice a3 l3.length c3] 28)) = W at *
  clear y2 y3
  go_loopw [5, 13] (fun v i wr => ∃ k : Nat, k ≤ l2.length ∧ i = .int .i64 k ∧ wr.ownsRow W.heap.size 3 1 v (headsOf c (l2.take k)).length (ic (headsOf c (l2.take k))) ∧ Below W.heap.size W wr) (fun _ i _ => l2.length - (intOf i).toNat)
  case atStart => exact ⟨0, Nat.zero_le _, rfl, World.ownsRow_nil _ _ _ _, Below.refl _ _⟩
  case round =>
    skip
    obtain ⟨k, hk, rfl, hown, hbw⟩ := hrel
    by_cases hlt : k < l2.length
    · rcases r2 with hnil | ⟨b2, off, rfl, hb, hc⟩
      · rw [hnil] at hlt; simp at hlt
      have hq0 : wr.cell? ⟨b2, off + k * 2, none⟩ = some (.int .i64 (l2.getD k (0, 0)).1) := by rw [hbw.cell (p := ⟨b2, _, none⟩) (Nat.lt_of_lt_of_le hb sW)]; rw [LW.cell (p := ⟨b2, _, none⟩) hb]; exact (hc k hlt).1
      have hq1 : wr.cell? ⟨b2, off + k * 2 + 1, none⟩ = some (.int .i64 (l2.getD k (0, 0)).2) := by rw [hbw.cell (p := ⟨b2, _, none⟩) (Nat.lt_of_lt_of_le hb sW)]; rw [LW.cell (p := ⟨b2, _, none⟩) hb]; exact (hc k hlt).2
      have hkn : (k : Int) < (l2.length : Int) := by omega
      have hk0' : (0 : Int) ≤ (k : Int) := by omega
      have htk := (toks_get t2 hlt).1
      have HF : Hid ((headsOf c (l2.take (k + 1))) = (headsOf c (l2.take k)) ++ [c.getD (l2.getD k (0, 0)).1.toNat 0]) := by unfold Hid; rw [headsOf_step c hlt]
      have hle : (headsOf c (l2.take k)).length ≤ 2097152 := by have := headsOf_len c (l2.take k); simp only [List.length_take] at *; omega
      generalize (headsOf c (l2.take k)) = ls at *
      generalize l2.getD k (0, 0) = p at *
      clear hc
      obtain ⟨q1, q2⟩ := htk
      obtain ⟨x, y, rfl, hx⟩ : ∃ (x : Nat) (y : Int), p = ((x : Int), y) ∧ x < 16 := ⟨p.1.toNat, p.2, by rw [Int.toNat_of_nonneg q1], by omega⟩
      clear q1 q2
      dsimp only at hq0 hq1
      rw [Int.toNat_natCast] at HF
      have hxi : (x : Int) < 16 := by omega
      have hx0 : (0 : Int) ≤ (x : Int) := by omega
      have eb := (BW.below hbw BW.lt).c2
      have eu := (CW.below hbw CW.1).2.2 x hx
      have hbw0 := hbw
      have hown0 := hown
      replace hown := hown.alloc (.cells #[.int .i64 (x : Int), .int .i64 y] 69)
      replace hbw := hbw.alloc hbw.size (.cells #[.int .i64 (x : Int), .int .i64 y] 69)
      have PB := PBox.new wr x y 69
      have p0 := PB.c0
      replace eu := ((CW.below hbw0 CW.1).alloc (.cells #[.int .i64 (x : Int), .int .i64 y] 69)).2.2 x hx
      generalize c.getD x 0 = u at *
      go_wp2_with (at_builtin; refine wpList_append_own _ rfl _ _ 44 rfl W.heap.size 3 i0 (.int .i64 0) 1 8 Try.underlying44 hi hz0 hz1 hz2 rfl (by decide) _ _ _ rfl (hown.alloc _) ⟨wr.heap.size + 1, 0, none⟩ 1 1 [.int .i64 u] rfl rfl ?c1 ?c2 ?c3 ?c4 ?c5 ?_)
      case c1 =>
        intro j u hj
        match j, hj with
        | 0, hj => simp at hj; subst hj; simp [Addr.add]
      case c2 => intro u hu; simp at hu; subst hu; rfl
      case c3 => unfold maxLen; omega
      case c4 => omega
      case c5 => have := hbw0.size; simp; omega
      · intro v' w4 hown' hg hiff
        have hb2 := (hbw.alloc hbw.size _).grown hg (Nat.le_trans hbw.size (by simp)) (by intro q hq; exact (hown.lt q hq).1)
        clear hiff hg hown hbw hown0 hbw0 eu eb
        go_wp2
        first
          | (go_roundw
             case rel => exact ⟨k + 1, by omega, by go_num, by rw [HF.out]; simpa [ic] using hown', hb2⟩
             case measure => simp [intOf]; omega)
          | ((repeat apply Exists.intro); exact ⟨⟨k + 1, by omega, by go_num, by rw [HF.out]; simpa [ic] using hown', hb2⟩, rfl⟩)
    · have hown2 := hown
      rw [show k = l2.length by omega, List.take_length] at hown2
      clear hown
      have hge : ¬ ((k : Int) < (l2.length : Int)) := by omega
      have eb := (BW.below hbw BW.lt).c2
      have eb3 := (BW.below hbw BW.lt).c3
      rw [show headsOf c l2 = headsOf c l2 ++ headsOf c (l3.take 0) by simp [headsOf]] at hown2
      go_wp2_with fail
      have hbwA := hbw
      clear hbw eb eb3
      go_loopw [5, 28] (fun v i wr => ∃ k : Nat, k ≤ l3.length ∧ i = .int .i64 k ∧ wr.ownsRow W.heap.size 3 1 v (headsOf c l2 ++ headsOf c (l3.take k)).length (ic (headsOf c l2 ++ headsOf c (l3.take k))) ∧ Below W.heap.size W wr) (fun _ i _ => l3.length - (intOf i).toNat)
      case atStart => exact ⟨0, Nat.zero_le _, rfl, hown2, hbwA⟩
      case round =>
        clear hown2 hbwA
        obtain ⟨k, hk, rfl, hown, hbw⟩ := hrel
        by_cases hlt : k < l3.length
        · rcases r3 with hnil | ⟨b3, off, rfl, hb, hc⟩
          · rw [hnil] at hlt; simp at hlt
          have hq0 : wr.cell? ⟨b3, off + k * 2, none⟩ = some (.int .i64 (l3.getD k (0, 0)).1) := by rw [hbw.cell (p := ⟨b3, _, none⟩) (Nat.lt_of_lt_of_le hb sW)]; rw [LW.cell (p := ⟨b3, _, none⟩) hb]; exact (hc k hlt).1
          have hq1 : wr.cell? ⟨b3, off + k * 2 + 1, none⟩ = some (.int .i64 (l3.getD k (0, 0)).2) := by rw [hbw.cell (p := ⟨b3, _, none⟩) (Nat.lt_of_lt_of_le hb sW)]; rw [LW.cell (p := ⟨b3, _, none⟩) hb]; exact (hc k hlt).2
          have hkn : (k : Int) < (l3.length : Int) := by omega
          have hk0' : (0 : Int) ≤ (k : Int) := by omega
          have htk := (toks_get t3 hlt).1
          have HF : Hid ((headsOf c l2 ++ headsOf c (l3.take (k + 1))) = (headsOf c l2 ++ headsOf c (l3.take k)) ++ [c.getD (l3.getD k (0, 0)).1.toNat 0]) := by unfold Hid; rw [headsOf_step c hlt]; simp
          have hle : (headsOf c l2 ++ headsOf c (l3.take k)).length ≤ 2097152 := by have := headsOf_len c (l3.take k); have := headsOf_len c l2; simp only [List.length_append, List.length_take] at *; omega
          generalize (headsOf c l2 ++ headsOf c (l3.take k)) = ls at *
          generalize l3.getD k (0, 0) = p at *
          clear hc
          obtain ⟨q1, q2⟩ := htk
          obtain ⟨x, y, rfl, hx⟩ : ∃ (x : Nat) (y : Int), p = ((x : Int), y) ∧ x < 16 := ⟨p.1.toNat, p.2, by rw [Int.toNat_of_nonneg q1], by omega⟩
          clear q1 q2
          dsimp only at hq0 hq1
          rw [Int.toNat_natCast] at HF
          have hxi : (x : Int) < 16 := by omega
          have hx0 : (0 : Int) ≤ (x : Int) := by omega
          have eb := (BW.below hbw BW.lt).c3
          have eu := (CW.below hbw CW.1).2.2 x hx
          have hbw0 := hbw
          have hown0 := hown
          replace hown := hown.alloc (.cells #[.int .i64 (x : Int), .int .i64 y] 69)
          replace hbw := hbw.alloc hbw.size (.cells #[.int .i64 (x : Int), .int .i64 y] 69)
          have PB := PBox.new wr x y 69
          have p0 := PB.c0
          replace eu := ((CW.below hbw0 CW.1).alloc (.cells #[.int .i64 (x : Int), .int .i64 y] 69)).2.2 x hx
          generalize c.getD x 0 = u at *
          go_wp2_with (at_builtin; refine wpList_append_own _ rfl _ _ 44 rfl W.heap.size 3 i0 (.int .i64 0) 1 8 Try.underlying44 hi hz0 hz1 hz2 rfl (by decide) _ _ _ rfl (hown.alloc _) ⟨wr.heap.size + 1, 0, none⟩ 1 1 [.int .i64 u] rfl rfl ?c1 ?c2 ?c3 ?c4 ?c5 ?_)
          case c1 =>
            intro j u hj
            match j, hj with
            | 0, hj => simp at hj; subst hj; simp [Addr.add]
          case c2 => intro u hu; simp at hu; subst hu; rfl
          case c3 => unfold maxLen; omega
          case c4 => omega
          case c5 => have := hbw0.size; simp; omega
          · intro v' w4 hown' hg hiff
            have hb2 := (hbw.alloc hbw.size _).grown hg (Nat.le_trans hbw.size (by simp)) (by intro q hq; exact (hown.lt q hq).1)
            clear hiff hg hown hbw hown0 hbw0 eu eb
            go_wp2
            first
              | (go_roundw
                 case rel => exact ⟨k + 1, by omega, by go_num, by rw [HF.out]; simpa [ic] using hown', hb2⟩
                 case measure => simp [intOf]; omega)
              | ((repeat apply Exists.intro); exact ⟨⟨k + 1, by omega, by go_num, by rw [HF.out]; simpa [ic] using hown', hb2⟩, rfl⟩)
        · have hown2 := hown
          rw [show k = l3.length by omega, List.take_length] at hown2
          clear hown
          have hge : ¬ ((k : Int) < (l3.length : Int)) := by omega
          have eb := (BW.below hbw BW.lt).c3
          have eb3 := (BW.below hbw BW.lt).c3
          obtain ⟨a, cq, rfl, hr⟩ := IntIn.ofOwns hown2
          have L3 := LW.trans (hbw.mono sW)
          go_wp2
          go_ret
          exact ⟨a, ⟨cq, by rw [HV.out, List.length_append]; rfl⟩, by rw [HV.out]; exact hr.mono sW (Nat.le_refl _), L3⟩

end Go.Proofs.Ytphchdjbhbmnbaa
namespace Go.Proofs.Ytphchdjbhbmnbaa
open Go.RowKit
set_option linter.unusedVariables false

theorem getD_l {x y : List Int} {j : Nat} (h : j < x.length) : (x ++ y).getD j 0 = x.getD j 0 := by
  rw [List.getD_eq_getElem?_getD, List.getD_eq_getElem?_getD, List.getElem?_append_left h]
theorem getD_r {x y : List Int} {j : Nat} (h : x.length ≤ j) : (x ++ y).getD j 0 = y.getD (j - x.length) 0 := by
  rw [List.getD_eq_getElem?_getD, List.getD_eq_getElem?_getD, List.getElem?_append_right h]
theorem headsOf_at (c : List Int) {l : List (Int × Int)} {k : Nat} (hk : k < l.length) : (headsOf c l).getD k 0 = c.getD (l.getD k (0, 0)).1.toNat 0 := by
  simp [headsOf, hk]
theorem headsOf_length (c : List Int) (l : List (Int × Int)) : (headsOf c l).length = l.length := by simp [headsOf]
theorem idx_lt {l : List Int} {v : Int} (h : 0 ≤ idxV l v) : ∃ k : Nat, idxV l v = (k : Int) ∧ k < l.length ∧ l.getD k 0 = v ∧ ∀ j, j < k → ¬ l.getD j 0 = v := by
  unfold idxV at h ⊢
  cases hf : l.findIdx? (fun z => decide (z = v)) with
  | none => rw [hf] at h; simp at h
  | some k =>
    rw [List.findIdx?_eq_some_iff_getElem] at hf
    obtain ⟨h1, h2, h3⟩ := hf
    refine ⟨k, rfl, h1, by simpa [h1] using h2, fun j hj => ?_⟩
    have := h3 j hj
    have hjl : j < l.length := by omega
    simpa [hjl] using this
theorem idx_ge (l : List Int) (v : Int) : -1 ≤ idxV l v := by
  unfold idxV
  split <;> omega
theorem idx_neg {l : List Int} {v : Int} (h : idxV l v < 0) : ∀ j, j < l.length → ¬ l.getD j 0 = v := by
  intro j hj e
  have hh : hasV l v = true := by unfold hasV; rw [List.any_eq_true]; exact ⟨l[j], List.getElem_mem hj, by simpa [hj] using e⟩
  have := has_idx l v
  rw [hh] at this
  simp only [decide_eq_true_eq] at this
  omega
theorem idx_app1 {x y : List Int} {v : Int} (h : 0 ≤ idxV x v) : idxV (x ++ y) v = idxV x v := by
  obtain ⟨k, e, hk, hv, hn⟩ := idx_lt h
  rw [e]
  refine (idx_hit (by simp; omega) (fun j hj => ?_) ?_).1
  · have := hn j hj
    rwa [getD_l (by omega)]
  · rwa [getD_l hk]
theorem idx_app2 {x y : List Int} {v : Int} (h : idxV x v < 0) {k : Nat} (hy : idxV y v = (k : Int)) : idxV (x ++ y) v = ((x.length + k : Nat) : Int) := by
  obtain ⟨k', e, hk, hv, hn⟩ := idx_lt (l := y) (v := v) (by omega)
  obtain rfl : k' = k := by omega
  refine (idx_hit (by simp; omega) (fun j hj => ?_) ?_).1
  · by_cases hjx : j < x.length
    · rw [getD_l hjx]; exact idx_neg h j hjx
    · rw [getD_r (by omega)]; exact hn _ (by omega)
  · rw [getD_r (by omega)]
    rwa [show x.length + k' - x.length = k' by omega]
theorem idx_app3 {x y : List Int} {v : Int} (h : idxV x v < 0) (hy : idxV y v < 0) : idxV (x ++ y) v = -1 := by
  refine (idx_none (fun j hj => ?_)).1
  by_cases hjx : j < x.length
  · rw [getD_l hjx]; exact idx_neg h j hjx
  · rw [getD_r (by omega)]; exact idx_neg hy _ (by rw [List.length_append] at hj; omega)

set_option maxRecDepth 20000 in
set_option maxHeartbeats 2000000 in
theorem l7cell_any (a0 a1 a2 a3 : Option Addr) (c0 c1 c2 c3 : Nat) (l0 l1 l2 l3 : List (Int × Int)) (t : Nat) (ht : t < 16) (w : World) (n0 : l0.length ≤ 1048576) (n2 : l2.length ≤ 1048576) (t0 : toks l0 = true) (t2 : toks l2 = true) (r0 : PRow w a0 l0) (r2 : PRow w a2 l2) :
    Calls Try.prog 240 #[.agg #[.slice a0 l0.length c0, .slice a1 l1.length c1, .slice a2 l2.length c2, .slice a3 l3.length c3], .int .i64 t] w fun e w' => e = .returned (.int .i64 (idxV (headsOf (clsV l0) l2) ((clsV l0).getD t 0))) ∧ Below w.heap.size w w' := by
  have A0 := Box.new w (.slice a0 l0.length c0) (.slice a1 l1.length c1) (.slice a2 l2.length c2) (.slice a3 l3.length c3) 28
  have L0 : Below w.heap.size w (w.alloc (.cells #[.slice a0 l0.length c0, .slice a1 l1.length c1, .slice a2 l2.length c2, .slice a3 l3.length c3] 28)) := (Below.refl _ _).alloc (Nat.le_refl _) _
  go_enter Try.func240, Try.ntmps240
  have y0 := A0.c0; have y1 := A0.c1; have y2 := A0.c2; have y3 := A0.c3
  go_wp2_with fail
  clear y0 y1 y2 y3
  refine (l3classes_any _ _ _ _ _ _ _ _ l0 l1 l2 l3 _ n0 t0 (r0.below L0 (Nat.le_refl _))).mono ?_
  rintro e w1 ⟨b, cR, rfl, hzR, CO, hb⟩
  replace A0 := A0.below hb A0.lt; replace L0 := L0.trans (hb.mono L0.size)
  clear hb r0
  have HC := Cls.all t0
  obtain ⟨c, HCE⟩ : ∃ c, Hid (clsV l0 = c) := ⟨_, rfl⟩
  rw [HCE.out] at HC CO
  have HLEN : Hid ((headsOf c l2).length = l2.length) := headsOf_length c l2
  obtain ⟨v, hv⟩ : ∃ v, Hid (c.getD t 0 = v) := ⟨_, rfl⟩
  go_wp2
  go_loopw [6] (fun i wr => ∃ k : Nat, k ≤ l2.length ∧ i = .int .i64 k ∧ Hid (∀ j, j < k → ¬ (headsOf c l2).getD j 0 = v) ∧ OwnI wr b 16 c 16 ∧ Box wr w.heap.size (.slice a0 l0.length c0) (.slice a1 l1.length c1) (.slice a2 l2.length c2) (.slice a3 l3.length c3) ∧ Below w.heap.size w wr) (fun i _ => l2.length - (intOf i).toNat)
  case atStart => exact ⟨0, Nat.zero_le _, rfl, fun j hj => absurd hj (Nat.not_lt_zero _), CO, A0, L0⟩
  case round =>
    clear CO A0 L0
    obtain ⟨k, hk, rfl, HM, C, B, L⟩ := hrel
    have e2 := B.c2
    by_cases hltx : k < l2.length
    · rcases r2 with hnil | ⟨b2, off2, rfl, hb2, hcl2⟩
      · rw [hnil] at hltx; simp at hltx
      have hxq0 : wr.cell? ⟨b2, off2 + k * 2, none⟩ = some (.int .i64 (l2.getD k (0, 0)).1) := by rw [L.cell (p := ⟨b2, _, none⟩) hb2]; exact (hcl2 k hltx).1
      have hkn : (k : Int) < (l2.length : Int) := by omega
      have hk0' : (0 : Int) ≤ (k : Int) := by omega
      have htk := (toks_get t2 hltx).1
      have HAT : Hid ((headsOf c l2).getD k 0 = c.getD (l2.getD k (0, 0)).1.toNat 0) := headsOf_at c hltx
      generalize l2.getD k (0, 0) = p at *
      clear hcl2
      obtain ⟨q1, q2⟩ := htk
      obtain ⟨x, hx0, hx⟩ : ∃ x : Nat, p.1 = (x : Int) ∧ x < 16 := ⟨p.1.toNat, by omega, by omega⟩
      rw [hx0] at hxq0 HAT
      rw [Int.toNat_natCast] at HAT
      clear q1 q2 hx0
      have hxi : (x : Int) < 16 := by omega
      have hxz : (0 : Int) ≤ (x : Int) := by omega
      have hti : (t : Int) < 16 := by omega
      have htz : (0 : Int) ≤ (t : Int) := by omega
      have ex := C.2.2 x hx
      have et := C.2.2 t ht
      rw [hv.out] at et
      generalize c.getD x 0 = u at *
      go_upto_region 5 with fail
      have C2 := C.drew; have B2 := B.drew; have L2 := L.drew
      have hS0 : Below w.heap.size w wr.drew ∧ wr.drew.cell? ⟨w.heap.size, 2, none⟩ = some (.slice (some ⟨b2, off2, none⟩) l2.length c2) ∧ wr.drew.cell? ⟨b2, off2 + k * 2, none⟩ = some (.int .i64 x) ∧ wr.drew.cell? ⟨b, x, none⟩ = some (.int .i64 u) ∧ wr.drew.cell? ⟨b, t, none⟩ = some (.int .i64 v) := ⟨L2, e2, hxq0, ex, et⟩
      go_region_held3 (fun w' => Below w.heap.size w w' ∧ w'.cell? ⟨w.heap.size, 2, none⟩ = some (.slice (some ⟨b2, off2, none⟩) l2.length c2) ∧ w'.cell? ⟨b2, off2 + k * 2, none⟩ = some (.int .i64 x) ∧ w'.cell? ⟨b, x, none⟩ = some (.int .i64 u) ∧ w'.cell? ⟨b, t, none⟩ = some (.int .i64 v))
        (first | exact hS0 | assumption | (refine ⟨?_, ?_, ?_, ?_, ?_⟩ <;> assumption))
        (fail)
      clear hS0 C B L e2 hxq0 ex et
      generalize wr.drew = wd at *
      by_cases huv : u = v
      · have HR : Hid (idxV (headsOf c l2) (c.getD t 0) = (k : Int)) := by
          show idxV _ _ = _
          rw [hv.out]
          exact (idx_hit (by rw [HLEN.out]; exact hltx) HM.out (HAT.out.trans huv)).1
        subst huv
        go_wp2
        go_ret
        exact ⟨by rw [HCE.out, HR.out]; rfl, L2⟩
      · have HM2 : Hid (∀ j, j < k + 1 → ¬ (headsOf c l2).getD j 0 = v) := by
          intro j hj
          by_cases e : j = k
          · subst e; rw [HAT.out]; exact huv
          · exact HM.out j (by omega)
        go_wp2
        go_roundw
        case rel => exact ⟨k + 1, by omega, by go_num, HM2, C2, B2, L2⟩
        case measure => simp [intOf]; omega
    · have HR : Hid (idxV (headsOf c l2) (c.getD t 0) = -1) := by
        show idxV _ _ = _
        rw [hv.out]
        exact (idx_none (fun j hj => HM.out j (by rw [HLEN.out] at hj; omega))).1
      have hge : ¬ ((k : Int) < (l2.length : Int)) := by omega
      go_wp2
      go_ret
      exact ⟨by rw [HCE.out, ← List.getD_eq_getElem?_getD, HR.out]; rfl, L⟩

end Go.Proofs.Ytphchdjbhbmnbaa
namespace Go.Proofs.Ytphchdjbhbmnbaa
open Go.RowKit

def sw (t b x : Int) : Int := if x = t then b else x
def swapL (t b : Int) (l : List (Int × Int)) : List (Int × Int) := l.map fun p => (sw t b p.1, sw t b p.2)
theorem swapL_length (t b : Int) (l : List (Int × Int)) : (swapL t b l).length = l.length := by simp [swapL]
theorem swapL_step (t b : Int) {l : List (Int × Int)} {k : Nat} (hk : k < l.length) : swapL t b (l.take (k + 1)) = swapL t b (l.take k) ++ [(sw t b (l[k]?.getD (0, 0)).1, sw t b (l[k]?.getD (0, 0)).2)] := by
  unfold swapL
  rw [List.take_succ_eq_append_getElem hk, List.map_append]
  simp [hk]

set_option maxHeartbeats 1000000 in
theorem l1swap_any (b cap : Nat) (l : List (Int × Int)) (t by' : Int) (w : World) (hn : l.length ≤ 1048576) (ho : Own w b l.length l l.length) :
    Calls Try.prog 209 #[.slice (some ⟨b, 0, none⟩) l.length cap, .int .i64 t, .int .i64 by'] w fun e w' => ∃ a c, e = .returned (.slice a l.length c) ∧ RowIn w' w.heap.size w'.heap.size a l.length (swapL t by' l) ∧ Below w.heap.size w w' := by
  obtain ⟨i0, hi, hz0, hz1, hz2⟩ := Try.i57
  have HL : Hid (∀ k, k < l.length → swapL t by' (l.take (k + 1)) = swapL t by' (l.take k) ++ [(sw t by' (l[k]?.getD (0, 0)).1, sw t by' (l[k]?.getD (0, 0)).2)]) := fun k hk => swapL_step t by' hk
  have HE : Hid (swapL t by' (l.take l.length) = swapL t by' l) := by show swapL t by' (l.take l.length) = _; rw [List.take_of_length_le (Nat.le_refl _)]
  generalize hN : l.length = n at *
  clear hN
  go_enter Try.func209, Try.ntmps209
  go_wp2
  go_loopw [7, 8] (fun v i wr => ∃ k : Nat, k ≤ n ∧ i = .int .i64 k ∧ wr.ownsRow w.heap.size 69 2 v k (pc (swapL t by' (l.take k))) ∧ Below w.heap.size w wr) (fun _ i _ => n - (intOf i).toNat)
  case atStart => exact ⟨0, Nat.zero_le _, rfl, World.ownsRow_nil _ _ _ _, Below.refl _ _⟩
  case round =>
    obtain ⟨k, hk, rfl, hown, hbw⟩ := hrel
    by_cases hlt : k < n
    · have hc := (ho.below hbw ho.1).2.2 k hlt
      have hx := hc.1
      have hy := hc.2
      have hst := HL.out k hlt
      rw [List.getD_eq_getElem?_getD] at hx hy
      generalize (l[k]?.getD (0, 0)).1 = x at hx hst
      generalize (l[k]?.getD (0, 0)).2 = y at hy hst
      have HS : Hid (swapL t by' (l.take (k + 1)) = swapL t by' (l.take k) ++ [(sw t by' x, sw t by' y)]) := hst
      clear hst hc
      generalize swapL t by' (l.take k) = ls at *
      have e1 : (x == t) = true → sw t by' x = by' := by intro h; simp at h; simp [sw, h]
      have e2 : (x == t) = false → sw t by' x = x := by intro h; simp at h; simp [sw, h]
      have e3 : (y == t) = true → sw t by' y = by' := by intro h; simp at h; simp [sw, h]
      have e4 : (y == t) = false → sw t by' y = y := by intro h; simp at h; simp [sw, h]
      cases hxt : (x == t)
      all_goals cases hyt : (y == t)
      · have EX := e2 hxt
        have EY := e4 hyt
        replace HS : Hid (swapL t by' (l.take (k + 1)) = ls ++ [(x, y)]) := by have h := HS.out; rw [EX, EY] at h; exact h
        clear e1 e2 e3 e4 EX EY
        go_wp2_with (at_builtin; refine wpList_append_own _ rfl _ _ 26 rfl w.heap.size 69 i0 (.agg #[.int .i64 0, .int .i64 0]) 2 16 Try.underlying26 hi hz0 hz1 hz2 rfl (by decide) _ _ _ rfl ((hown.alloc _).alloc _) ⟨wr.heap.size + 1, 0, none⟩ 1 1 (pc [(x, y)]) rfl rfl ?c1 pc_one ?c3 ?c4 ?c5 ?_)
        case c1 =>
          intro j u hj
          match j, hj with
          | 0, hj => simp [pc] at hj; subst hj; simp [Addr.add]
          | 1, hj => simp [pc] at hj; subst hj; simp [Addr.add]
        case c3 => unfold maxLen; omega
        case c4 => omega
        case c5 => have := hbw.size; simp; omega
        · intro v' w4 hown' hg hiff
          have hb2 := ((hbw.alloc hbw.size _).alloc (Nat.le_trans hbw.size (by simp)) _).grown hg (Nat.le_trans hbw.size (by simp; omega)) (by intro q hq; exact (hown.lt q hq).1)
          rw [← pc_append] at hown'
          clear hiff hg hown hbw
          go_wp2
          first
            | (go_roundw
               case rel => exact ⟨k + 1, by omega, by go_num, by rw [HS.out]; exact hown', hb2⟩
               case measure => simp [intOf]; omega)
            | ((repeat apply Exists.intro); exact ⟨⟨k + 1, by omega, by go_num, by rw [HS.out]; exact hown', hb2⟩, rfl⟩)
      · have EX := e2 hxt
        have EY := e3 hyt
        replace HS : Hid (swapL t by' (l.take (k + 1)) = ls ++ [(x, by')]) := by have h := HS.out; rw [EX, EY] at h; exact h
        clear e1 e2 e3 e4 EX EY
        go_wp2_with (at_builtin; refine wpList_append_own _ rfl _ _ 26 rfl w.heap.size 69 i0 (.agg #[.int .i64 0, .int .i64 0]) 2 16 Try.underlying26 hi hz0 hz1 hz2 rfl (by decide) _ _ _ rfl ((hown.alloc _).alloc _) ⟨wr.heap.size + 1, 0, none⟩ 1 1 (pc [(x, by')]) rfl rfl ?c1 pc_one ?c3 ?c4 ?c5 ?_)
        case c1 =>
          intro j u hj
          match j, hj with
          | 0, hj => simp [pc] at hj; subst hj; simp [Addr.add]
          | 1, hj => simp [pc] at hj; subst hj; simp [Addr.add]
        case c3 => unfold maxLen; omega
        case c4 => omega
        case c5 => have := hbw.size; simp; omega
        · intro v' w4 hown' hg hiff
          have hb2 := ((hbw.alloc hbw.size _).alloc (Nat.le_trans hbw.size (by simp)) _).grown hg (Nat.le_trans hbw.size (by simp; omega)) (by intro q hq; exact (hown.lt q hq).1)
          rw [← pc_append] at hown'
          clear hiff hg hown hbw
          go_wp2
          first
            | (go_roundw
               case rel => exact ⟨k + 1, by omega, by go_num, by rw [HS.out]; exact hown', hb2⟩
               case measure => simp [intOf]; omega)
            | ((repeat apply Exists.intro); exact ⟨⟨k + 1, by omega, by go_num, by rw [HS.out]; exact hown', hb2⟩, rfl⟩)
      · have EX := e1 hxt
        have EY := e4 hyt
        replace HS : Hid (swapL t by' (l.take (k + 1)) = ls ++ [(by', y)]) := by have h := HS.out; rw [EX, EY] at h; exact h
        clear e1 e2 e3 e4 EX EY
        go_wp2_with (at_builtin; refine wpList_append_own _ rfl _ _ 26 rfl w.heap.size 69 i0 (.agg #[.int .i64 0, .int .i64 0]) 2 16 Try.underlying26 hi hz0 hz1 hz2 rfl (by decide) _ _ _ rfl ((hown.alloc _).alloc _) ⟨wr.heap.size + 1, 0, none⟩ 1 1 (pc [(by', y)]) rfl rfl ?c1 pc_one ?c3 ?c4 ?c5 ?_)
        case c1 =>
          intro j u hj
          match j, hj with
          | 0, hj => simp [pc] at hj; subst hj; simp [Addr.add]
          | 1, hj => simp [pc] at hj; subst hj; simp [Addr.add]
        case c3 => unfold maxLen; omega
        case c4 => omega
        case c5 => have := hbw.size; simp; omega
        · intro v' w4 hown' hg hiff
          have hb2 := ((hbw.alloc hbw.size _).alloc (Nat.le_trans hbw.size (by simp)) _).grown hg (Nat.le_trans hbw.size (by simp; omega)) (by intro q hq; exact (hown.lt q hq).1)
          rw [← pc_append] at hown'
          clear hiff hg hown hbw
          go_wp2
          first
            | (go_roundw
               case rel => exact ⟨k + 1, by omega, by go_num, by rw [HS.out]; exact hown', hb2⟩
               case measure => simp [intOf]; omega)
            | ((repeat apply Exists.intro); exact ⟨⟨k + 1, by omega, by go_num, by rw [HS.out]; exact hown', hb2⟩, rfl⟩)
      · have EX := e1 hxt
        have EY := e3 hyt
        replace HS : Hid (swapL t by' (l.take (k + 1)) = ls ++ [(by', by')]) := by have h := HS.out; rw [EX, EY] at h; exact h
        clear e1 e2 e3 e4 EX EY
        go_wp2_with (at_builtin; refine wpList_append_own _ rfl _ _ 26 rfl w.heap.size 69 i0 (.agg #[.int .i64 0, .int .i64 0]) 2 16 Try.underlying26 hi hz0 hz1 hz2 rfl (by decide) _ _ _ rfl ((hown.alloc _).alloc _) ⟨wr.heap.size + 1, 0, none⟩ 1 1 (pc [(by', by')]) rfl rfl ?c1 pc_one ?c3 ?c4 ?c5 ?_)
        case c1 =>
          intro j u hj
          match j, hj with
          | 0, hj => simp [pc] at hj; subst hj; simp [Addr.add]
          | 1, hj => simp [pc] at hj; subst hj; simp [Addr.add]
        case c3 => unfold maxLen; omega
        case c4 => omega
        case c5 => have := hbw.size; simp; omega
        · intro v' w4 hown' hg hiff
          have hb2 := ((hbw.alloc hbw.size _).alloc (Nat.le_trans hbw.size (by simp)) _).grown hg (Nat.le_trans hbw.size (by simp; omega)) (by intro q hq; exact (hown.lt q hq).1)
          rw [← pc_append] at hown'
          clear hiff hg hown hbw
          go_wp2
          first
            | (go_roundw
               case rel => exact ⟨k + 1, by omega, by go_num, by rw [HS.out]; exact hown', hb2⟩
               case measure => simp [intOf]; omega)
            | ((repeat apply Exists.intro); exact ⟨⟨k + 1, by omega, by go_num, by rw [HS.out]; exact hown', hb2⟩, rfl⟩)
    · obtain rfl : k = n := by omega
      rw [HE.out] at hown
      obtain ⟨a, c, rfl, hr⟩ := RowIn.ofOwns hown
      go_wp2
      go_ret
      exact ⟨a, c, rfl, hr, hbw⟩

end Go.Proofs.Ytphchdjbhbmnbaa
namespace Go.Proofs.Ytphchdjbhbmnbaa
open Go.RowKit

set_option maxHeartbeats 2000000 in
theorem l1subst_any (b0 b1 b2 b3 : Nat) (c0 c1 c2 c3 : Nat) (l0 l1 l2 l3 : List (Int × Int)) (t by' : Int) (w : World)
    (n0 : l0.length ≤ 1048576) (n1 : l1.length ≤ 1048576) (n2 : l2.length ≤ 1048576) (n3 : l3.length ≤ 1048576)
    (o0 : Own w b0 l0.length l0 l0.length) (o1 : Own w b1 l1.length l1 l1.length) (o2 : Own w b2 l2.length l2 l2.length) (o3 : Own w b3 l3.length l3 l3.length) :
    Calls Try.prog 131 #[.agg #[.slice (some ⟨b0, 0, none⟩) l0.length c0, .slice (some ⟨b1, 0, none⟩) l1.length c1, .slice (some ⟨b2, 0, none⟩) l2.length c2, .slice (some ⟨b3, 0, none⟩) l3.length c3], .int .i64 t, .int .i64 by'] w fun e w' => ∃ p0 p1 p2 p3 q0 q1 q2 q3,
      e = .returned (.agg #[.slice p0 l0.length q0, .slice p1 l1.length q1, .slice p2 l2.length q2, .slice p3 l3.length q3]) ∧
      RowIn w' w.heap.size w'.heap.size p0 l0.length (swapL t by' l0) ∧ RowIn w' w.heap.size w'.heap.size p1 l1.length (swapL t by' l1) ∧ RowIn w' w.heap.size w'.heap.size p2 l2.length (swapL t by' l2) ∧ RowIn w' w.heap.size w'.heap.size p3 l3.length (swapL t by' l3) ∧ Below w.heap.size w w' := by
  have B0 := (Box.new w (.slice (some ⟨b0, 0, none⟩) l0.length c0) (.slice (some ⟨b1, 0, none⟩) l1.length c1) (.slice (some ⟨b2, 0, none⟩) l2.length c2) (.slice (some ⟨b3, 0, none⟩) l3.length c3) 28).alloc (.cells #[.slice none 0 0, .slice none 0 0, .slice none 0 0, .slice none 0 0] 28)
  have R0 := Box.new (w.alloc (.cells #[.slice (some ⟨b0, 0, none⟩) l0.length c0, .slice (some ⟨b1, 0, none⟩) l1.length c1, .slice (some ⟨b2, 0, none⟩) l2.length c2, .slice (some ⟨b3, 0, none⟩) l3.length c3] 28)) (.slice none 0 0) (.slice none 0 0) (.slice none 0 0) (.slice none 0 0) 28
  have L0 : Below w.heap.size w ((w.alloc (.cells #[.slice (some ⟨b0, 0, none⟩) l0.length c0, .slice (some ⟨b1, 0, none⟩) l1.length c1, .slice (some ⟨b2, 0, none⟩) l2.length c2, .slice (some ⟨b3, 0, none⟩) l3.length c3] 28)).alloc (.cells #[.slice none 0 0, .slice none 0 0, .slice none 0 0, .slice none 0 0] 28)) := ((Below.refl _ _).alloc (Nat.le_refl _) _).alloc (by simp) _
  rw [World.size_alloc] at R0
  go_enter Try.func131, Try.ntmps131
  go_wp2
  have S0 : w.heap.size + 1 < ((w.alloc (.cells #[.slice (some ⟨b0, 0, none⟩) l0.length c0, .slice (some ⟨b1, 0, none⟩) l1.length c1, .slice (some ⟨b2, 0, none⟩) l2.length c2, .slice (some ⟨b3, 0, none⟩) l3.length c3] 28)).alloc (.cells #[.slice none 0 0, .slice none 0 0, .slice none 0 0, .slice none 0 0] 28)).heap.size := by simp
  generalize (w.alloc (.cells #[.slice (some ⟨b0, 0, none⟩) l0.length c0, .slice (some ⟨b1, 0, none⟩) l1.length c1, .slice (some ⟨b2, 0, none⟩) l2.length c2, .slice (some ⟨b3, 0, none⟩) l3.length c3] 28)).alloc (.cells #[.slice none 0 0, .slice none 0 0, .slice none 0 0, .slice none 0 0] 28) = W0 at *
  have x0 := B0.c0; have x1 := B0.c1; have x2 := B0.c2; have x3 := B0.c3
  go_region_held3 (fun w' => w'.cell? ⟨w.heap.size, 0, none⟩ = some (.slice (some ⟨b0, 0, none⟩) l0.length c0) ∧ w'.cell? ⟨w.heap.size, 1, none⟩ = some (.slice (some ⟨b1, 0, none⟩) l1.length c1) ∧ w'.cell? ⟨w.heap.size, 2, none⟩ = some (.slice (some ⟨b2, 0, none⟩) l2.length c2) ∧ w'.cell? ⟨w.heap.size, 3, none⟩ = some (.slice (some ⟨b3, 0, none⟩) l3.length c3)) (go_keep)
    (first
      | (go_at_call_of 209 (Value.slice (some ⟨b0, 0, none⟩) l0.length c0); refine (l1swap_any _ _ _ _ _ _ n0 ?_).mono ?_; exact o0.below L0.drew o0.1; rintro e u1 ⟨p0, q0, rfl, t0, h1⟩; have B1 := B0.drew.below h1 B0.lt; have y0 := B1.c0; have y1 := B1.c1; have y2 := B1.c2; have y3 := B1.c3)
      | (go_at_call_of 209 (Value.slice (some ⟨b1, 0, none⟩) l1.length c1); refine (l1swap_any _ _ _ _ _ _ n1 ?_).mono ?_; exact (o1.below L0.drew o1.1).below h1 (o1.below L0.drew o1.1).1; rintro e u2 ⟨p1, q1, rfl, t1, h2⟩; have B2 := B1.below h2 B1.lt; have z0 := B2.c0; have z1 := B2.c1; have z2 := B2.c2; have z3 := B2.c3)
      | (go_at_call_of 209 (Value.slice (some ⟨b2, 0, none⟩) l2.length c2); refine (l1swap_any _ _ _ _ _ _ n2 ?_).mono ?_; exact ((o2.below L0.drew o2.1).below h1 (o2.below L0.drew o2.1).1).below h2 ((o2.below L0.drew o2.1).below h1 (o2.below L0.drew o2.1).1).1; rintro e u3 ⟨p2, q2, rfl, t2, h3⟩; have B3 := B2.below h3 B2.lt; have m0 := B3.c0; have m1 := B3.c1; have m2 := B3.c2; have m3 := B3.c3)
      | (go_at_call_of 209 (Value.slice (some ⟨b3, 0, none⟩) l3.length c3); refine (l1swap_any _ _ _ _ _ _ n3 ?_).mono ?_; exact (((o3.below L0.drew o3.1).below h1 (o3.below L0.drew o3.1).1).below h2 ((o3.below L0.drew o3.1).below h1 (o3.below L0.drew o3.1).1).1).below h3 (((o3.below L0.drew o3.1).below h1 (o3.below L0.drew o3.1).1).below h2 ((o3.below L0.drew o3.1).below h1 (o3.below L0.drew o3.1).1).1).1; rintro e u4 ⟨p3, q3, rfl, t3, h4⟩; have B4 := B3.below h4 B3.lt; have v0 := B4.c0; have v1 := B4.c1; have v2 := B4.c2; have v3 := B4.c3; have R4 := (((R0.drew.below h1 R0.lt).below h2 (R0.drew.below h1 R0.lt).lt).below h3 ((R0.drew.below h1 R0.lt).below h2 (R0.drew.below h1 R0.lt).lt).lt).below h4 (((R0.drew.below h1 R0.lt).below h2 (R0.drew.below h1 R0.lt).lt).below h3 ((R0.drew.below h1 R0.lt).below h2 (R0.drew.below h1 R0.lt).lt).lt).lt; have j0 := R4.c0; have j1 := R4.c1; have j2 := R4.c2; have j3 := R4.c3; have g0 := R4.f0; have g1 := R4.f1; have g2 := R4.f2; have g3 := R4.f3))
  have M0 := L0.drew
  have M1 := M0.trans (h1.mono M0.size); have M2 := M1.trans (h2.mono M1.size); have M3 := M2.trans (h3.mono M2.size); have M4 := M3.trans (h4.mono M3.size)
  have z1' := h1.size; have z2' := h2.size; have z3' := h3.size; have z4' := h4.size
  rw [World.size_drew] at z1' t0
  replace t0 := ((t0.below h2 (Nat.le_refl _)).below h3 z2').below h4 (by omega)
  replace t1 := (t1.below h3 (Nat.le_refl _)).below h4 z3'
  replace t2 := t2.below h4 (Nat.le_refl _)
  obtain ⟨F, FO⟩ := R4.fill (.slice p0 l0.length q0) (.slice p1 l1.length q1) (.slice p2 l2.length q2) (.slice p3 l3.length q3)
  clear B0 B1 B2 B3 B4 R0 L0 M0 M1 M2 M3 h1 h2 h3 h4
  clear x0 x1 x2 x3 y0 y1 y2 y3 z0 z1 z2 z3 m0 m1 m2 m3 v0 v1 v2 v3
  go_wp2
  have i0 := F.c0; have i1 := F.c1; have i2 := F.c2; have i3 := F.c3
  refine bodyPost_ret (v := .agg #[.slice p0 l0.length q0, .slice p1 l1.length q1, .slice p2 l2.length q2, .slice p3 l3.length q3]) ?_ rfl ⟨p0, p1, p2, p3, q0, q1, q2, q3, rfl, ?_, ?_, ?_, ?_, ?_⟩
  · simp [results, Try.results131, go_sem, i0, i1, i2, i3]
  · exact (t0.out FO (by omega)).mono (by omega) (by have := FO.size; omega)
  · exact (t1.out FO (by omega)).mono (by omega) (by have := FO.size; omega)
  · exact (t2.out FO (by omega)).mono (by omega) (by have := FO.size; omega)
  · exact (t3.out FO (by omega)).mono (by omega) (by have := FO.size; omega)
  · exact M4.trans (FO.below (by omega) M4.size)

end Go.Proofs.Ytphchdjbhbmnbaa
