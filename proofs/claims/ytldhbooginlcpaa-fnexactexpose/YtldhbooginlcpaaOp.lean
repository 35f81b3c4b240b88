/-
  The method opens of classes: is each segment told to have something?
-/
import Derived.Test.YtldhbooginlcpaaAm
namespace Go.Proofs.Ytldhbooginlcpaa
open Go.RowKit
def openV (c : List Int) (l1 l3 : List (Int × Int)) : Bool := l3.all fun p => amongV c l1 (c.getD p.1.toNat 0) (c.getD p.2.toNat 0)
theorem open_all {c : List Int} {l1 l3 : List (Int × Int)} (h : ∀ k, k < l3.length → amongV c l1 (c.getD (l3.getD k (0, 0)).1.toNat 0) (c.getD (l3.getD k (0, 0)).2.toNat 0) = true) : openV c l1 l3 = true := by
  unfold openV
  rw [List.all_eq_true]
  intro p hp
  obtain ⟨k, hk, rfl⟩ := List.getElem_of_mem hp
  have := h k hk
  simpa [hk] using this
theorem open_not {c : List Int} {l1 l3 : List (Int × Int)} {k : Nat} (hk : k < l3.length) (h : amongV c l1 (c.getD (l3.getD k (0, 0)).1.toNat 0) (c.getD (l3.getD k (0, 0)).2.toNat 0) = false) : openV c l1 l3 = false := by
  unfold openV
  rw [List.all_eq_false]
  exact ⟨l3[k], List.getElem_mem hk, by simpa [hk] using h⟩

set_option linter.unusedSimpArgs false in
set_option maxRecDepth 3000 in
set_option maxHeartbeats 1000000 in
theorem opens_any (a0 a1 a2 a3 : Option Addr) (c0 c1 c2 c3 : Nat) (l0 l1 l2 l3 : List (Int × Int)) (c : List Int) (hc : Cls c) (w : World) (n1 : l1.length ≤ 1048576) (n3 : l3.length ≤ 1048576) (t1 : toks l1 = true) (t3 : toks l3 = true) (r1 : PRow w a1 l1) (r3 : PRow w a3 l3) :
    Calls Try.prog 149 #[aV c, .agg #[.slice a0 l0.length c0, .slice a1 l1.length c1, .slice a2 l2.length c2, .slice a3 l3.length c3]] w fun e w' => e = .returned (.bool (openV c l1 l3)) ∧ Below w.heap.size w w' := by
  have CW := (OwnI.new w c 16 hc.1 95).alloc (.cells #[.slice a0 l0.length c0, .slice a1 l1.length c1, .slice a2 l2.length c2, .slice a3 l3.length c3] 28)
  have BW := Box.new (w.alloc (.cells (ic c).toArray 95)) (.slice a0 l0.length c0) (.slice a1 l1.length c1) (.slice a2 l2.length c2) (.slice a3 l3.length c3) 28
  have LW : Below w.heap.size w ((w.alloc (.cells (ic c).toArray 95)).alloc (.cells #[.slice a0 l0.length c0, .slice a1 l1.length c1, .slice a2 l2.length c2, .slice a3 l3.length c3] 28)) := ((Below.refl _ _).alloc (Nat.le_refl _) _).alloc (by simp) _
  rw [World.size_alloc] at BW
  have y3 := BW.c3
  have HC : Hid (Cls c) := hc
  clear hc
  unfold aV
  go_enter Try.func149, Try.ntmps149
  go_wp2_with fail
  generalize ((w.alloc (.cells (ic c).toArray 95)).alloc (.cells #[.slice a0 l0.length c0, .slice a1 l1.length c1, .slice a2 l2.length c2, .slice a3 l3.length c3] 28)) = W at *
  clear y3
  go_loopw [10] (fun i wr => ∃ k : Nat, k ≤ l3.length ∧ i = .int .i64 k ∧ Hid (∀ j, j < k → amongV c l1 (c.getD (l3.getD j (0, 0)).1.toNat 0) (c.getD (l3.getD j (0, 0)).2.toNat 0) = true) ∧ OwnI wr w.heap.size 16 c 16 ∧ Box wr (w.heap.size + 1) (.slice a0 l0.length c0) (.slice a1 l1.length c1) (.slice a2 l2.length c2) (.slice a3 l3.length c3) ∧ Below w.heap.size w wr) (fun i _ => l3.length - (intOf i).toNat)
  case atStart => exact ⟨0, Nat.zero_le _, rfl, fun j hj => absurd hj (Nat.not_lt_zero _), CW, BW, LW⟩
  case round =>
    clear CW LW BW
    obtain ⟨k, hk, rfl, HM, C, B, L⟩ := hrel
    by_cases hlt : k < l3.length
    · rcases r3 with hnil | ⟨b, off, rfl, hb, hcl⟩
      · rw [hnil] at hlt; simp at hlt
      have hq0 : wr.cell? ⟨b, off + k * 2, none⟩ = some (.int .i64 (l3.getD k (0, 0)).1) := by rw [L.cell (p := ⟨b, _, none⟩) hb]; exact (hcl k hlt).1
      have hq1 : wr.cell? ⟨b, off + k * 2 + 1, none⟩ = some (.int .i64 (l3.getD k (0, 0)).2) := by rw [L.cell (p := ⟨b, _, none⟩) hb]; exact (hcl k hlt).2
      have hkn : (k : Int) < (l3.length : Int) := by omega
      have hk0' : (0 : Int) ≤ (k : Int) := by omega
      have htk := toks_get t3 hlt
      have HNO : Hid (amongV c l1 (c.getD (l3.getD k (0, 0)).1.toNat 0) (c.getD (l3.getD k (0, 0)).2.toNat 0) = false → openV c l1 l3 = false) := fun h => open_not hlt h
      have HM2 : Hid (amongV c l1 (c.getD (l3.getD k (0, 0)).1.toNat 0) (c.getD (l3.getD k (0, 0)).2.toNat 0) = true → ∀ j, j < k + 1 → amongV c l1 (c.getD (l3.getD j (0, 0)).1.toNat 0) (c.getD (l3.getD j (0, 0)).2.toNat 0) = true) := by
        intro hf j hj
        by_cases e : j = k
        · subst e; exact hf
        · exact HM.out j (by omega)
      generalize l3.getD k (0, 0) = p at *
      clear hcl
      obtain ⟨⟨q1, q2⟩, q3, q4⟩ := htk
      obtain ⟨s, t, rfl, hs, hts⟩ : ∃ s t : Nat, p = ((s : Int), (t : Int)) ∧ s < 16 ∧ t < 16 := ⟨p.1.toNat, p.2.toNat, by rw [Int.toNat_of_nonneg q1, Int.toNat_of_nonneg q3], by omega, by omega⟩
      clear q1 q2 q3 q4
      dsimp only at hq0 hq1
      simp only [Int.toNat_natCast] at HNO HM2
      go_wp2_with fail
      have P1 := PBox.new wr s t 67
      have L1 := L.alloc L.size (.cells #[.int .i64 (s : Int), .int .i64 (t : Int)] 67)
      have C1 := C.alloc (.cells #[.int .i64 (s : Int), .int .i64 (t : Int)] 67)
      have B1 := B.alloc (.cells #[.int .i64 (s : Int), .int .i64 (t : Int)] 67)
      clear hq0 hq1 C L B hb
      generalize wr.alloc (.cells #[.int .i64 (s : Int), .int .i64 (t : Int)] 67) = W2 at *
      generalize wr.heap.size = q at *
      replace P1 := P1.drew; replace L1 := L1.drew; replace C1 := C1.drew; replace B1 := B1.drew
      have hS0 : Below w.heap.size w W2.drew ∧ W2.drew.rangeAt w.heap.size 0 (ic c) ∧ W2.drew.cell? ⟨w.heap.size + 1, 1, none⟩ = some (.slice a1 l1.length c1) ∧ W2.drew.rangeAt q 0 [.int .i64 (s : Int), .int .i64 (t : Int)] := ⟨L1, C1.range HC.out.1, B1.c1, P1.range⟩
      have u67 := Try.underlying95
      have u60 := Try.underlying67
      have i67 : (Try.prog.info? 95).map (·.size) = some (ic c).length := by rw [ic_length, HC.out.1]; kernel_rfl
      have i60 : (Try.prog.info? 67).map (·.size) = some [Value.int .i64 (s : Int), Value.int .i64 (t : Int)].length := by kernel_rfl
      refine wp_region_held_drew (S := fun w' => Below w.heap.size w w' ∧ w'.rangeAt w.heap.size 0 (ic c) ∧ w'.cell? ⟨w.heap.size + 1, 1, none⟩ = some (.slice a1 l1.length c1) ∧ w'.rangeAt q 0 [.int .i64 (s : Int), .int .i64 (t : Int)]) (by kernel_rfl) hS0 (fun _ => ?_)
      generalize W2.drew = W3 at *
      refine wpAnyH_take (i := 0) rfl (by kernel_rfl) (by kernel_rfl) (by kernel_rfl) (fun _ _ _ h => h) (yieldsIf_load_mid (by rfl) _ _ rfl _ _ rfl _ _ (fun w' h => h.2.1) u67 rfl i67) hS0 ?_
      simp only [Act.put, List.setIfInBounds_toArray, List.set_cons_zero, List.set_cons_succ]
      refine wpAnyH_take (i := 1) (v := .pointer (some ⟨w.heap.size + 1, 1, none⟩)) rfl (by kernel_rfl) (by kernel_rfl) (by kernel_rfl) (fun _ _ _ h => h) (Or.inl ⟨by rfl, ?_⟩) hS0 ?_
      · intro w2 hSw; go_simp
      simp only [Act.put, List.setIfInBounds_toArray, List.set_cons_zero, List.set_cons_succ]
      refine wpAnyH_take (i := 2) (v := .slice a1 l1.length c1) rfl (by kernel_rfl) (by kernel_rfl) (by kernel_rfl) (fun _ _ _ h => h) (Or.inl ⟨by rfl, ?_⟩) hS0 ?_
      · intro w2 hSw; go_simp
      simp only [Act.put, List.setIfInBounds_toArray, List.set_cons_zero, List.set_cons_succ]
      refine wpAnyH_take (i := 3) rfl (by kernel_rfl) (by kernel_rfl) (by kernel_rfl) (fun _ _ _ h => h) (yieldsIf_load_mid (by rfl) _ _ rfl _ _ rfl _ _ (fun w' h => h.2.1) u67 rfl i67) hS0 ?_
      simp only [Act.put, List.setIfInBounds_toArray, List.set_cons_zero, List.set_cons_succ]
      refine wpAnyH_take (i := 4) rfl (by kernel_rfl) (by kernel_rfl) (by kernel_rfl) (fun _ _ _ h => h) (yieldsIf_load_mid (by rfl) _ _ rfl _ _ rfl _ _ (fun w' h => h.2.2.2) u60 rfl i60) hS0 ?_
      simp only [Act.put, List.setIfInBounds_toArray, List.set_cons_zero, List.set_cons_succ]
      refine wpAnyH_ready (rs := [5]) (by kernel_rfl) (by simp) ?_
      refine AllReadyH.cons rfl (fun K hK => ?_) AllReadyH.nil
      rw [if_pos (by rfl)]
      go_simp
      refine (of_any c s t _ HC.out.1 hs hts).mono ?_
      rintro e v0 ⟨rfl, h0⟩
      have C2 := C1.below h0 C1.1; have L2 := L1.trans (h0.mono L1.size); have B2 := B1.below h0 B1.lt; have P2 := P1.below h0 P1.lt
      clear h0 C1 L1 B1 P1 hS0
      have hS1 : Below w.heap.size w v0 ∧ v0.rangeAt w.heap.size 0 (ic c) ∧ v0.cell? ⟨w.heap.size + 1, 1, none⟩ = some (.slice a1 l1.length c1) ∧ v0.rangeAt q 0 [.int .i64 (s : Int), .int .i64 (t : Int)] := ⟨L2, C2.range HC.out.1, B2.c1, P2.range⟩
      refine hK.out _ _ hS1 (fun _ => ?_)
      clear hK K
      refine wpAnyH_ready (rs := [6]) (by kernel_rfl) (by simp) ?_
      refine AllReadyH.cons rfl (fun K hK => ?_) AllReadyH.nil
      rw [if_pos (by rfl)]
      go_simp
      refine (among_any c _ _ l1 _ _ HC.out _ n1 t1 (r1.below hS1.1 (Nat.le_refl _)) (HC.out.2 s hs) (HC.out.2 t hts)).mono ?_
      rintro e v1 ⟨rfl, h0⟩
      have C3 := C2.below h0 C2.1; have L3 := L2.trans (h0.mono L2.size); have B3 := B2.below h0 B2.lt; have P3 := P2.below h0 P2.lt
      clear h0 C2 L2 B2 P2 hS1
      have hS2 : Below w.heap.size w v1 ∧ v1.rangeAt w.heap.size 0 (ic c) ∧ v1.cell? ⟨w.heap.size + 1, 1, none⟩ = some (.slice a1 l1.length c1) ∧ v1.rangeAt q 0 [.int .i64 (s : Int), .int .i64 (t : Int)] := ⟨L3, C3.range HC.out.1, B3.c1, P3.range⟩
      refine hK.out _ _ hS2 (fun _ => ?_)
      clear hK K
      refine wpAnyH_ready (rs := [7]) (by kernel_rfl) (by simp) ?_
      refine AllReadyH.cons rfl (fun K hK => ?_) AllReadyH.nil
      rw [if_pos (by rfl)]
      generalize amongV c l1 (c.getD s 0) (c.getD t 0) = am at *
      go_simp
      refine hK.out _ _ hS2 (fun _ => ?_)
      clear hK K
      refine wpAnyH_done (by kernel_rfl) ?_ _
      clear hS2 P3
      cases am
      · have HV : Hid (openV c l1 l3 = false) := HNO.out rfl
        go_wp2
        go_ret
        exact ⟨by rw [HV.out]; rfl, L3⟩
      · have HM3 : Hid (∀ j, j < k + 1 → amongV c l1 (c.getD (l3.getD j (0, 0)).1.toNat 0) (c.getD (l3.getD j (0, 0)).2.toNat 0) = true) := HM2.out rfl
        go_wp2
        go_roundw
        case rel => exact ⟨k + 1, by omega, by go_num, HM3, C3, B3, L3⟩
        case measure => simp [intOf]; omega
    · have HV : Hid (openV c l1 l3 = true) := open_all (fun j hj => HM.out j (by omega))
      have hge : ¬ ((k : Int) < (l3.length : Int)) := by omega
      go_wp2
      go_ret
      exact ⟨by rw [HV.out]; rfl, L⟩
end Go.Proofs.Ytldhbooginlcpaa
