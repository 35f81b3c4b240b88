/-
  Plain lemmas and contracts of functions for the other texts of this seat: Am, Op, So, Us2, C4, Ui.
-/
import Derived.Test.YtphchdjbhbmnbaaGag
import Derived.Test.YtphchdjbhbmnbaaGai
import Derived.Test.YtphchdjbhbmnbaaGab
import Derived.Test.YtphchdjbhbmnbaaGah
namespace Go.Proofs.Ytphchdjbhbmnbaa
open Go.RowKit
/-- Two and two are the same, either way about. -/
def pairIs (u v x y : Int) : Bool := decide (u = x ∧ v = y ∨ u = y ∧ v = x)
theorem pairIs_cpl {u v x y : Int} (hu : 0 ≤ u ∧ u < 16) (hv : 0 ≤ v ∧ v < 16) (hx : 0 ≤ x ∧ x < 16) (hy : 0 ≤ y ∧ y < 16) :
    (FloatKind.f64.format.order (fl (min u v)) (fl (min x y)) == some .eq && FloatKind.f64.format.order (fl (max u v)) (fl (max x y)) == some .eq) = pairIs u v x y := by
  rw [fl_order (by omega) (by omega) (by omega) (by omega), fl_order (by omega) (by omega) (by omega) (by omega)]
  unfold pairIs
  rw [← Bool.decide_and]
  exact decide_eq_decide.2 (by omega)
def amongV (c : List Int) (l : List (Int × Int)) (x y : Int) : Bool := l.any fun p => pairIs (c.getD p.1.toNat 0) (c.getD p.2.toNat 0) x y
theorem among_hit {c : List Int} {l : List (Int × Int)} {x y : Int} {k : Nat} (hk : k < l.length) (h : pairIs (c.getD (l.getD k (0, 0)).1.toNat 0) (c.getD (l.getD k (0, 0)).2.toNat 0) x y = true) : amongV c l x y = true := by
  unfold amongV
  rw [List.any_eq_true]
  refine ⟨l[k], List.getElem_mem hk, ?_⟩
  simpa [hk] using h
theorem among_none {c : List Int} {l : List (Int × Int)} {x y : Int} (h : ∀ k, k < l.length → pairIs (c.getD (l.getD k (0, 0)).1.toNat 0) (c.getD (l.getD k (0, 0)).2.toNat 0) x y = false) : amongV c l x y = false := by
  unfold amongV
  rw [List.any_eq_false]
  intro p hp
  obtain ⟨k, hk, rfl⟩ := List.getElem_of_mem hp
  have := h k hk
  simpa [hk] using this
theorem eql73 (a b c d : Nat) (w : World) : (binOp .eql 108 (.complex .f64 a b) (.complex .f64 c d)).run Try.prog w = .ok (.bool (FloatKind.f64.format.order a c == some .eq && FloatKind.f64.format.order b d == some .eq)) w := run_eql_complex (P := Try.prog) w 108 .f64 a b c d

set_option maxRecDepth 3000 in
set_option maxHeartbeats 1000000 in
theorem among_any (c : List Int) (a : Option Addr) (cp : Nat) (l : List (Int × Int)) (x y : Int) (hc : Cls c) (w : World) (hn : l.length ≤ 1048576) (ht : toks l = true) (hr : PRow w a l) (hx : 0 ≤ x ∧ x < 16) (hy : 0 ≤ y ∧ y < 16) :
    Calls Try.prog 157 #[aV c, .slice a l.length cp, cplV x y] w fun e w' => e = .returned (.bool (amongV c l x y)) ∧ Below w.heap.size w w' := by
  have CW := OwnI.new w c 16 hc.1 102
  have LW : Below w.heap.size w (w.alloc (.cells (ic c).toArray 102)) := (Below.refl _ _).alloc (Nat.le_refl _) _
  have HC : Hid (Cls c) := hc
  have HXY : Hid ((0 ≤ x ∧ x < 16) ∧ (0 ≤ y ∧ y < 16)) := ⟨hx, hy⟩
  clear hc hx hy
  unfold cplV
  obtain ⟨f1, hf1⟩ : ∃ f, f = fl (min x y) := ⟨_, rfl⟩
  obtain ⟨f2, hf2⟩ : ∃ f, f = fl (max x y) := ⟨_, rfl⟩
  rw [← hf1, ← hf2]
  replace hf1 : Hid (f1 = fl (min x y)) := hf1
  replace hf2 : Hid (f2 = fl (max x y)) := hf2
  unfold aV
  go_enter Try.func157, Try.ntmps157
  go_wp2_with fail
  generalize w.alloc (.cells (ic c).toArray 102) = W at *
  go_loopw [11] (fun i wr => ∃ k : Nat, k ≤ l.length ∧ i = .int .i64 k ∧ Hid (∀ j, j < k → pairIs (c.getD (l.getD j (0, 0)).1.toNat 0) (c.getD (l.getD j (0, 0)).2.toNat 0) x y = false) ∧ OwnI wr w.heap.size 16 c 16 ∧ Below w.heap.size w wr) (fun i _ => l.length - (intOf i).toNat)
  case atStart => exact ⟨0, Nat.zero_le _, rfl, fun j hj => absurd hj (Nat.not_lt_zero _), CW, LW⟩
  case round =>
    clear CW LW
    obtain ⟨k, hk, rfl, HM, C, L⟩ := hrel
    by_cases hlt : k < l.length
    · rcases hr with hnil | ⟨b, off, rfl, hb, hcl⟩
      · rw [hnil] at hlt; simp at hlt
      have hq0 : wr.cell? ⟨b, off + k * 2, none⟩ = some (.int .i64 (l.getD k (0, 0)).1) := by rw [L.cell (p := ⟨b, _, none⟩) hb]; exact (hcl k hlt).1
      have hq1 : wr.cell? ⟨b, off + k * 2 + 1, none⟩ = some (.int .i64 (l.getD k (0, 0)).2) := by rw [L.cell (p := ⟨b, _, none⟩) hb]; exact (hcl k hlt).2
      have hkn : (k : Int) < (l.length : Int) := by omega
      have hk0' : (0 : Int) ≤ (k : Int) := by omega
      have htk := toks_get ht hlt
      have HHIT : Hid (pairIs (c.getD (l.getD k (0, 0)).1.toNat 0) (c.getD (l.getD k (0, 0)).2.toNat 0) x y = true → amongV c l x y = true) := fun h => among_hit hlt h
      have HM2 : Hid (pairIs (c.getD (l.getD k (0, 0)).1.toNat 0) (c.getD (l.getD k (0, 0)).2.toNat 0) x y = false → ∀ j, j < k + 1 → pairIs (c.getD (l.getD j (0, 0)).1.toNat 0) (c.getD (l.getD j (0, 0)).2.toNat 0) x y = false) := by
        intro hf j hj
        by_cases e : j = k
        · subst e; exact hf
        · exact HM.out j (by omega)
      generalize l.getD k (0, 0) = p at *
      clear hcl
      obtain ⟨⟨q1, q2⟩, q3, q4⟩ := htk
      obtain ⟨s, t, rfl, hs, hts⟩ : ∃ s t : Nat, p = ((s : Int), (t : Int)) ∧ s < 16 ∧ t < 16 := ⟨p.1.toNat, p.2.toNat, by rw [Int.toNat_of_nonneg q1, Int.toNat_of_nonneg q3], by omega, by omega⟩
      clear q1 q2 q3 q4
      dsimp only at hq0 hq1
      simp only [Int.toNat_natCast] at HHIT HM2
      have HB := pairIs_cpl (HC.out.2 s hs) (HC.out.2 t hts) HXY.out.1 HXY.out.2
      have B1 := PBox.new wr s t 69
      have L1 := L.alloc L.size (.cells #[.int .i64 (s : Int), .int .i64 (t : Int)] 69)
      have C1 := C.alloc (.cells #[.int .i64 (s : Int), .int .i64 (t : Int)] 69)
      iterate 35 go_step
      refine wl67 rfl (.tmp 3) rfl _ rfl C1 HC.out.1 ?_
      clear hq0 hq1 C L
      generalize wr.alloc (.cells #[.int .i64 (s : Int), .int .i64 (t : Int)] 69) = W2 at *
      have e0 := B1.c0
      have e1 := B1.c1
      go_wp2_with fail
      refine (of_any c s t _ HC.out.1 hs hts).mono ?_
      rintro e u0 ⟨rfl, h0⟩
      have C2 := C1.below h0 C1.1
      have L2 := L1.trans (h0.mono L1.size)
      clear h0 e0 e1 B1 C1 L1
      generalize c.getD s 0 = u at *
      generalize c.getD t 0 = v at *
      rw [← hf1.out, ← hf2.out] at HB
      unfold cplV
      generalize fl (min u v) = g1 at *
      generalize fl (max u v) = g2 at *
      have hE := eql73 g1 g2 f1 f2
      rw [HB] at hE
      cases hp : pairIs u v x y
      · rw [hp] at hE HB
        have HM3 : Hid (∀ j, j < k + 1 → pairIs (c.getD (l.getD j (0, 0)).1.toNat 0) (c.getD (l.getD j (0, 0)).2.toNat 0) x y = false) := HM2.out hp
        go_wp2
        go_roundw
        case rel => exact ⟨k + 1, by omega, by go_num, HM3, C2, L2⟩
        case measure => simp [intOf]; omega
      · rw [hp] at hE HB
        have HV : Hid (amongV c l x y = true) := HHIT.out hp
        go_wp2
        go_ret
        exact ⟨by rw [HV.out]; rfl, L2⟩
    · have HV : Hid (amongV c l x y = false) := among_none (fun j hj => HM.out j (by omega))
      have hge : ¬ ((k : Int) < (l.length : Int)) := by omega
      go_wp2
      go_ret
      exact ⟨by rw [HV.out]; rfl, L⟩
end Go.Proofs.Ytphchdjbhbmnbaa
namespace Go.Proofs.Ytphchdjbhbmnbaa
open Go.RowKit
def openV (c : List Int) (l1 l3 : List (Int × Int)) : Bool := l3.all fun p => amongV c l1 (c.getD p.1.toNat 0) (c.getD p.2.toNat 0)
theorem open_all {c : List Int} {l1 l3 : List (Int × Int)} (h : ∀ k, k < l3.length → amongV c l1 (c.getD (l3.getD k (0, 0)).1.toNat 0) (c.getD (l3.getD k (0, 0)).2.toNat 0) = true) : openV c l1 l3 = true := by
  unfold openV
  rw [List.all_eq_true]
  intro p hp
  obtain ⟨k, hk, rfl⟩ := List.getElem_of_mem hp
  have := h k hk
  simpa [hk] using this
theorem open_not {c : List Int} {l1 l3 : List (Int × Int)} {k : Nat} (hk : k < l3.length) (h : amongV c l1 (c.getD (l3.getD k (0, 0)).1.toNat 0) (c.getD (l3.getD k (0, 0)).2.toNat 0) = false) : openV c l1 l3 = false := by
  unfold openV
  rw [List.all_eq_false]
  exact ⟨l3[k], List.getElem_mem hk, by simpa [hk] using h⟩

set_option linter.unusedSimpArgs false in
set_option maxRecDepth 3000 in
set_option maxHeartbeats 1000000 in
theorem opens_any (a0 a1 a2 a3 : Option Addr) (c0 c1 c2 c3 : Nat) (l0 l1 l2 l3 : List (Int × Int)) (c : List Int) (hc : Cls c) (w : World) (n1 : l1.length ≤ 1048576) (n3 : l3.length ≤ 1048576) (t1 : toks l1 = true) (t3 : toks l3 = true) (r1 : PRow w a1 l1) (r3 : PRow w a3 l3) :
    Calls Try.prog 167 #[aV c, .agg #[.slice a0 l0.length c0, .slice a1 l1.length c1, .slice a2 l2.length c2, .slice a3 l3.length c3]] w fun e w' => e = .returned (.bool (openV c l1 l3)) ∧ Below w.heap.size w w' := by
  have CW := (OwnI.new w c 16 hc.1 102).alloc (.cells #[.slice a0 l0.length c0, .slice a1 l1.length c1, .slice a2 l2.length c2, .slice a3 l3.length c3] 28)
  have BW := Box.new (w.alloc (.cells (ic c).toArray 102)) (.slice a0 l0.length c0) (.slice a1 l1.length c1) (.slice a2 l2.length c2) (.slice a3 l3.length c3) 28
  have LW : Below w.heap.size w ((w.alloc (.cells (ic c).toArray 102)).alloc (.cells #[.slice a0 l0.length c0, .slice a1 l1.length c1, .slice a2 l2.length c2, .slice a3 l3.length c3] 28)) := ((Below.refl _ _).alloc (Nat.le_refl _) _).alloc (by simp) _
  rw [World.size_alloc] at BW
  have y3 := BW.c3
  have HC : Hid (Cls c) := hc
  clear hc
  unfold aV
  go_enter Try.func167, Try.ntmps167
  go_wp2_with fail
  generalize ((w.alloc (.cells (ic c).toArray 102)).alloc (.cells #[.slice a0 l0.length c0, .slice a1 l1.length c1, .slice a2 l2.length c2, .slice a3 l3.length c3] 28)) = W at *
  clear y3
  go_loopw [10] (fun i wr => ∃ k : Nat, k ≤ l3.length ∧ i = .int .i64 k ∧ Hid (∀ j, j < k → amongV c l1 (c.getD (l3.getD j (0, 0)).1.toNat 0) (c.getD (l3.getD j (0, 0)).2.toNat 0) = true) ∧ OwnI wr w.heap.size 16 c 16 ∧ Box wr (w.heap.size + 1) (.slice a0 l0.length c0) (.slice a1 l1.length c1) (.slice a2 l2.length c2) (.slice a3 l3.length c3) ∧ Below w.heap.size w wr) (fun i _ => l3.length - (intOf i).toNat)
  case atStart => exact ⟨0, Nat.zero_le _, rfl, fun j hj => absurd hj (Nat.not_lt_zero _), CW, BW, LW⟩
  case round =>
    clear CW LW BW
    obtain ⟨k, hk, rfl, HM, C, B, L⟩ := hrel
    by_cases hlt : k < l3.length
    · rcases r3 with hnil | ⟨b, off, rfl, hb, hcl⟩
      · rw [hnil] at hlt; simp at hlt
      have hq0 : wr.cell? ⟨b, off + k * 2, none⟩ = some (.int .i64 (l3.getD k (0, 0)).1) := by rw [L.cell (p := ⟨b, _, none⟩) hb]; exact (hcl k hlt).1
      have hq1 : wr.cell? ⟨b, off + k * 2 + 1, none⟩ = some (.int .i64 (l3.getD k (0, 0)).2) := by rw [L.cell (p := ⟨b, _, none⟩) hb]; exact (hcl k hlt).2
      have hkn : (k : Int) < (l3.length : Int) := by omega
      have hk0' : (0 : Int) ≤ (k : Int) := by omega
      have htk := toks_get t3 hlt
      have HNO : Hid (amongV c l1 (c.getD (l3.getD k (0, 0)).1.toNat 0) (c.getD (l3.getD k (0, 0)).2.toNat 0) = false → openV c l1 l3 = false) := fun h => open_not hlt h
      have HM2 : Hid (amongV c l1 (c.getD (l3.getD k (0, 0)).1.toNat 0) (c.getD (l3.getD k (0, 0)).2.toNat 0) = true → ∀ j, j < k + 1 → amongV c l1 (c.getD (l3.getD j (0, 0)).1.toNat 0) (c.getD (l3.getD j (0, 0)).2.toNat 0) = true) := by
        intro hf j hj
        by_cases e : j = k
        · subst e; exact hf
        · exact HM.out j (by omega)
      generalize l3.getD k (0, 0) = p at *
      clear hcl
      obtain ⟨⟨q1, q2⟩, q3, q4⟩ := htk
      obtain ⟨s, t, rfl, hs, hts⟩ : ∃ s t : Nat, p = ((s : Int), (t : Int)) ∧ s < 16 ∧ t < 16 := ⟨p.1.toNat, p.2.toNat, by rw [Int.toNat_of_nonneg q1, Int.toNat_of_nonneg q3], by omega, by omega⟩
      clear q1 q2 q3 q4
      dsimp only at hq0 hq1
      simp only [Int.toNat_natCast] at HNO HM2
      go_wp2_with fail
      have P1 := PBox.new wr s t 69
      have L1 := L.alloc L.size (.cells #[.int .i64 (s : Int), .int .i64 (t : Int)] 69)
      have C1 := C.alloc (.cells #[.int .i64 (s : Int), .int .i64 (t : Int)] 69)
      have B1 := B.alloc (.cells #[.int .i64 (s : Int), .int .i64 (t : Int)] 69)
      clear hq0 hq1 C L B hb
      generalize wr.alloc (.cells #[.int .i64 (s : Int), .int .i64 (t : Int)] 69) = W2 at *
      generalize wr.heap.size = q at *
      replace P1 := P1.drew; replace L1 := L1.drew; replace C1 := C1.drew; replace B1 := B1.drew
      have hS0 : Below w.heap.size w W2.drew ∧ W2.drew.rangeAt w.heap.size 0 (ic c) ∧ W2.drew.cell? ⟨w.heap.size + 1, 1, none⟩ = some (.slice a1 l1.length c1) ∧ W2.drew.rangeAt q 0 [.int .i64 (s : Int), .int .i64 (t : Int)] := ⟨L1, C1.range HC.out.1, B1.c1, P1.range⟩
      have u67 := Try.underlying102
      have u60 := Try.underlying69
      have i67 : (Try.prog.info? 102).map (·.size) = some (ic c).length := by rw [ic_length, HC.out.1]; kernel_rfl
      have i60 : (Try.prog.info? 69).map (·.size) = some [Value.int .i64 (s : Int), Value.int .i64 (t : Int)].length := by kernel_rfl
      refine wp_region_held_drew (S := fun w' => Below w.heap.size w w' ∧ w'.rangeAt w.heap.size 0 (ic c) ∧ w'.cell? ⟨w.heap.size + 1, 1, none⟩ = some (.slice a1 l1.length c1) ∧ w'.rangeAt q 0 [.int .i64 (s : Int), .int .i64 (t : Int)]) (by kernel_rfl) hS0 (fun _ => ?_)
      generalize W2.drew = W3 at *
      refine wpAnyH_take (i := 0) rfl (by kernel_rfl) (by kernel_rfl) (by kernel_rfl) (fun _ _ _ h => h) (yieldsIf_load_mid (by rfl) _ _ rfl _ _ rfl _ _ (fun w' h => h.2.1) u67 rfl i67) hS0 ?_
      simp only [Act.put, List.setIfInBounds_toArray, List.set_cons_zero, List.set_cons_succ]
      refine wpAnyH_take (i := 1) (v := .pointer (some ⟨w.heap.size + 1, 1, none⟩)) rfl (by kernel_rfl) (by kernel_rfl) (by kernel_rfl) (fun _ _ _ h => h) (Or.inl ⟨by rfl, ?_⟩) hS0 ?_
      · intro w2 hSw; go_simp
      simp only [Act.put, List.setIfInBounds_toArray, List.set_cons_zero, List.set_cons_succ]
      refine wpAnyH_take (i := 2) (v := .slice a1 l1.length c1) rfl (by kernel_rfl) (by kernel_rfl) (by kernel_rfl) (fun _ _ _ h => h) (Or.inl ⟨by rfl, ?_⟩) hS0 ?_
      · intro w2 hSw; go_simp
      simp only [Act.put, List.setIfInBounds_toArray, List.set_cons_zero, List.set_cons_succ]
      refine wpAnyH_take (i := 3) rfl (by kernel_rfl) (by kernel_rfl) (by kernel_rfl) (fun _ _ _ h => h) (yieldsIf_load_mid (by rfl) _ _ rfl _ _ rfl _ _ (fun w' h => h.2.1) u67 rfl i67) hS0 ?_
      simp only [Act.put, List.setIfInBounds_toArray, List.set_cons_zero, List.set_cons_succ]
      refine wpAnyH_take (i := 4) rfl (by kernel_rfl) (by kernel_rfl) (by kernel_rfl) (fun _ _ _ h => h) (yieldsIf_load_mid (by rfl) _ _ rfl _ _ rfl _ _ (fun w' h => h.2.2.2) u60 rfl i60) hS0 ?_
      simp only [Act.put, List.setIfInBounds_toArray, List.set_cons_zero, List.set_cons_succ]
      refine wpAnyH_ready (rs := [5]) (by kernel_rfl) (by simp) ?_
      refine AllReadyH.cons rfl (fun K hK => ?_) AllReadyH.nil
      rw [if_pos (by rfl)]
      go_simp
      refine (of_any c s t _ HC.out.1 hs hts).mono ?_
      rintro e v0 ⟨rfl, h0⟩
      have C2 := C1.below h0 C1.1; have L2 := L1.trans (h0.mono L1.size); have B2 := B1.below h0 B1.lt; have P2 := P1.below h0 P1.lt
      clear h0 C1 L1 B1 P1 hS0
      have hS1 : Below w.heap.size w v0 ∧ v0.rangeAt w.heap.size 0 (ic c) ∧ v0.cell? ⟨w.heap.size + 1, 1, none⟩ = some (.slice a1 l1.length c1) ∧ v0.rangeAt q 0 [.int .i64 (s : Int), .int .i64 (t : Int)] := ⟨L2, C2.range HC.out.1, B2.c1, P2.range⟩
      refine hK.out _ _ hS1 (fun _ => ?_)
      clear hK K
      refine wpAnyH_ready (rs := [6]) (by kernel_rfl) (by simp) ?_
      refine AllReadyH.cons rfl (fun K hK => ?_) AllReadyH.nil
      rw [if_pos (by rfl)]
      go_simp
      refine (among_any c _ _ l1 _ _ HC.out _ n1 t1 (r1.below hS1.1 (Nat.le_refl _)) (HC.out.2 s hs) (HC.out.2 t hts)).mono ?_
      rintro e v1 ⟨rfl, h0⟩
      have C3 := C2.below h0 C2.1; have L3 := L2.trans (h0.mono L2.size); have B3 := B2.below h0 B2.lt; have P3 := P2.below h0 P2.lt
      clear h0 C2 L2 B2 P2 hS1
      have hS2 : Below w.heap.size w v1 ∧ v1.rangeAt w.heap.size 0 (ic c) ∧ v1.cell? ⟨w.heap.size + 1, 1, none⟩ = some (.slice a1 l1.length c1) ∧ v1.rangeAt q 0 [.int .i64 (s : Int), .int .i64 (t : Int)] := ⟨L3, C3.range HC.out.1, B3.c1, P3.range⟩
      refine hK.out _ _ hS2 (fun _ => ?_)
      clear hK K
      refine wpAnyH_ready (rs := [7]) (by kernel_rfl) (by simp) ?_
      refine AllReadyH.cons rfl (fun K hK => ?_) AllReadyH.nil
      rw [if_pos (by rfl)]
      generalize amongV c l1 (c.getD s 0) (c.getD t 0) = am at *
      go_simp
      refine hK.out _ _ hS2 (fun _ => ?_)
      clear hK K
      refine wpAnyH_done (by kernel_rfl) ?_ _
      clear hS2 P3
      cases am
      · have HV : Hid (openV c l1 l3 = false) := HNO.out rfl
        go_wp2
        go_ret
        exact ⟨by rw [HV.out]; rfl, L3⟩
      · have HM3 : Hid (∀ j, j < k + 1 → amongV c l1 (c.getD (l3.getD j (0, 0)).1.toNat 0) (c.getD (l3.getD j (0, 0)).2.toNat 0) = true) := HM2.out rfl
        go_wp2
        go_roundw
        case rel => exact ⟨k + 1, by omega, by go_num, HM3, C3, B3, L3⟩
        case measure => simp [intOf]; omega
    · have HV : Hid (openV c l1 l3 = true) := open_all (fun j hj => HM.out j (by omega))
      have hge : ¬ ((k : Int) < (l3.length : Int)) := by omega
      go_wp2
      go_ret
      exact ⟨by rw [HV.out]; rfl, L⟩
end Go.Proofs.Ytphchdjbhbmnbaa
namespace Go.Proofs.Ytphchdjbhbmnbaa
open Go.RowKit
theorem among_step (c : List Int) (x y : Int) {l : List (Int × Int)} {k : Nat} (hk : k < l.length) : amongV c (l.take (k + 1)) x y = (amongV c (l.take k) x y || pairIs (c.getD (l.getD k (0, 0)).1.toNat 0) (c.getD (l.getD k (0, 0)).2.toNat 0) x y) := by
  unfold amongV
  rw [List.take_add_one, List.getElem?_eq_getElem hk]
  simp only [Option.toList_some, List.any_append, List.any_cons, List.any_nil, Bool.or_false]
  rw [List.getD_eq_getElem?_getD (l := l), List.getElem?_eq_getElem hk, Option.getD_some]

set_option maxRecDepth 3000 in
set_option maxHeartbeats 2000000 in
theorem l3opened_any (a0 a1 a2 a3 : Option Addr) (c0 c1 c2 c3 : Nat) (l0 l1 l2 l3 : List (Int × Int)) (b cp : Nat) (c : List Int) (hc : Cls c) (w : World) (n1 : l1.length ≤ 1048576) (n3 : l3.length ≤ 1048576) (t1 : toks l1 = true) (t3 : toks l3 = true) (r1 : PRow w a1 l1) (r3 : PRow w a3 l3) (CO : OwnI w b 16 c 16) :
    Calls Try.prog 154 #[.agg #[.slice a0 l0.length c0, .slice a1 l1.length c1, .slice a2 l2.length c2, .slice a3 l3.length c3], .slice (some ⟨b, 0, none⟩) 16 cp] w fun e w' => e = .returned (.bool (openV c l1 l3)) ∧ Below w.heap.size w w' := by
  have CW := CO.alloc (.cells #[.slice a0 l0.length c0, .slice a1 l1.length c1, .slice a2 l2.length c2, .slice a3 l3.length c3] 28)
  have BW := Box.new w (.slice a0 l0.length c0) (.slice a1 l1.length c1) (.slice a2 l2.length c2) (.slice a3 l3.length c3) 28
  have LW : Below w.heap.size w (w.alloc (.cells #[.slice a0 l0.length c0, .slice a1 l1.length c1, .slice a2 l2.length c2, .slice a3 l3.length c3] 28)) := (Below.refl _ _).alloc (Nat.le_refl _) _
  have HC : Hid (Cls c) := hc
  clear hc CO
  go_enter Try.func154, Try.ntmps154
  go_wp2_with fail
  generalize (w.alloc (.cells #[.slice a0 l0.length c0, .slice a1 l1.length c1, .slice a2 l2.length c2, .slice a3 l3.length c3] 28)) = W at *
  go_loopw [5] (fun i wr => ∃ k : Nat, k ≤ l3.length ∧ i = .int .i64 k ∧ Hid (∀ j, j < k → amongV c l1 (c.getD (l3.getD j (0, 0)).1.toNat 0) (c.getD (l3.getD j (0, 0)).2.toNat 0) = true) ∧ OwnI wr b 16 c 16 ∧ Box wr w.heap.size (.slice a0 l0.length c0) (.slice a1 l1.length c1) (.slice a2 l2.length c2) (.slice a3 l3.length c3) ∧ Below w.heap.size w wr) (fun i _ => l3.length - (intOf i).toNat)
  case atStart => exact ⟨0, Nat.zero_le _, rfl, fun j hj => absurd hj (Nat.not_lt_zero _), CW, BW, LW⟩
  case round =>
    clear CW LW BW
    obtain ⟨k, hk, rfl, HM, C, B, L⟩ := hrel
    have e3 := B.c3
    by_cases hltx : k < l3.length
    · rcases r3 with hnil | ⟨b3, off3, rfl, hb3, hcl3⟩
      · rw [hnil] at hltx; simp at hltx
      have hxq0 : w.cell? ⟨b3, off3 + k * 2, none⟩ = some (.int .i64 (l3.getD k (0, 0)).1) := (hcl3 k hltx).1
      have hxq1 : w.cell? ⟨b3, off3 + k * 2 + 1, none⟩ = some (.int .i64 (l3.getD k (0, 0)).2) := (hcl3 k hltx).2
      have hkn : (k : Int) < (l3.length : Int) := by omega
      have hk0' : (0 : Int) ≤ (k : Int) := by omega
      have htk := toks_get t3 hltx
      have HNO : Hid (amongV c l1 (c.getD (l3.getD k (0, 0)).1.toNat 0) (c.getD (l3.getD k (0, 0)).2.toNat 0) = false → openV c l1 l3 = false) := fun h => open_not hltx h
      have HM2 : Hid (amongV c l1 (c.getD (l3.getD k (0, 0)).1.toNat 0) (c.getD (l3.getD k (0, 0)).2.toNat 0) = true → ∀ j, j < k + 1 → amongV c l1 (c.getD (l3.getD j (0, 0)).1.toNat 0) (c.getD (l3.getD j (0, 0)).2.toNat 0) = true) := by
        intro hf j hj
        by_cases e : j = k
        · subst e; exact hf
        · exact HM.out j (by omega)
      generalize l3.getD k (0, 0) = p at *
      clear hcl3
      obtain ⟨⟨q1, q2⟩, q3, q4⟩ := htk
      obtain ⟨s2, t2, rfl, hs2, ht2⟩ : ∃ s t : Nat, p = ((s : Int), (t : Int)) ∧ s < 16 ∧ t < 16 := ⟨p.1.toNat, p.2.toNat, by rw [Int.toNat_of_nonneg q1, Int.toNat_of_nonneg q3], by omega, by omega⟩
      clear q1 q2 q3 q4
      dsimp only at hxq0 hxq1
      simp only [Int.toNat_natCast] at HNO HM2
      have HX : Hid (∃ x, x = c.getD s2 0) := ⟨_, rfl⟩
      obtain ⟨x, hx⟩ := HX.out
      obtain ⟨y, hy⟩ : ∃ y, y = c.getD t2 0 := ⟨_, rfl⟩
      rw [← hx, ← hy] at HNO HM2
      replace hx : Hid (x = c.getD s2 0) := hx
      replace hy : Hid (y = c.getD t2 0) := hy
      clear HX
      have hs2a : (s2 : Int) < 16 := by omega
      have ht2a : (t2 : Int) < 16 := by omega
      have hs2b : (0 : Int) ≤ (s2 : Int) := by omega
      have ht2b : (0 : Int) ≤ (t2 : Int) := by omega
      go_wp2_with fail
      clear e3
      go_loopw [6, 7] (fun f i wr => ∃ m : Nat, m ≤ l1.length ∧ i = .int .i64 m ∧ f = .bool (amongV c (l1.take m) x y) ∧ OwnI wr b 16 c 16 ∧ Box wr w.heap.size (.slice a0 l0.length c0) (.slice a1 l1.length c1) (.slice a2 l2.length c2) (.slice (some ⟨b3, off3, none⟩) l3.length c3) ∧ Below w.heap.size w wr) (fun _ i _ => l1.length - (intOf i).toNat)
      case atStart => exact ⟨0, Nat.zero_le _, rfl, rfl, C, B, L⟩
      case round =>
        clear C B L
        obtain ⟨m, hm, rfl, rfl, C, B, L⟩ := hrel
        have e1 := B.c1
        by_cases hlty : m < l1.length
        · rcases r1 with hnil | ⟨b1, off1, rfl, hb1, hcl1⟩
          · rw [hnil] at hlty; simp at hlty
          have hyq0 : wr.cell? ⟨b1, off1 + m * 2, none⟩ = some (.int .i64 (l1.getD m (0, 0)).1) := by rw [L.cell (p := ⟨b1, _, none⟩) hb1]; exact (hcl1 m hlty).1
          have hyq1 : wr.cell? ⟨b1, off1 + m * 2 + 1, none⟩ = some (.int .i64 (l1.getD m (0, 0)).2) := by rw [L.cell (p := ⟨b1, _, none⟩) hb1]; exact (hcl1 m hlty).2
          have hmn : (m : Int) < (l1.length : Int) := by omega
          have hm0 : (0 : Int) ≤ (m : Int) := by omega
          have htm := toks_get t1 hlty
          have HA := among_step c x y hlty
          generalize l1.getD m (0, 0) = pp at *
          clear hcl1
          obtain ⟨⟨q1, q2⟩, q3, q4⟩ := htm
          obtain ⟨s, t, rfl, hs, hts⟩ : ∃ s t : Nat, pp = ((s : Int), (t : Int)) ∧ s < 16 ∧ t < 16 := ⟨pp.1.toNat, pp.2.toNat, by rw [Int.toNat_of_nonneg q1, Int.toNat_of_nonneg q3], by omega, by omega⟩
          clear q1 q2 q3 q4
          dsimp only at hyq0 hyq1
          simp only [Int.toNat_natCast] at HA
          have hsa : (s : Int) < 16 := by omega
          have hta : (t : Int) < 16 := by omega
          have hsb : (0 : Int) ≤ (s : Int) := by omega
          have htb : (0 : Int) ≤ (t : Int) := by omega
          have ep := C.2.2 s hs
          have eq := C.2.2 t hts
          generalize c.getD s 0 = p at *
          generalize c.getD t 0 = q at *
          generalize amongV c (l1.take m) x y = f at *
          replace HA : Hid (amongV c (l1.take (m + 1)) x y = (f || pairIs p q x y)) := HA
          go_wp2_with fail
          have hS0 : Below w.heap.size w wr.drew ∧ wr.drew.cell? ⟨w.heap.size, 1, none⟩ = some (.slice (some ⟨b1, off1, none⟩) l1.length c1) ∧ wr.drew.cell? ⟨b1, off1 + m * 2, none⟩ = some (.int .i64 s) ∧ wr.drew.cell? ⟨b1, off1 + m * 2 + 1, none⟩ = some (.int .i64 t) ∧ wr.drew.cell? ⟨b, s, none⟩ = some (.int .i64 p) ∧ wr.drew.cell? ⟨b, t, none⟩ = some (.int .i64 q) := ⟨L.drew, e1, hyq0, hyq1, ep, eq⟩
          have C2 := C.drew; have B2 := B.drew
          go_region_held3 (fun w' => Below w.heap.size w w' ∧ w'.cell? ⟨w.heap.size, 1, none⟩ = some (.slice (some ⟨b1, off1, none⟩) l1.length c1) ∧ w'.cell? ⟨b1, off1 + m * 2, none⟩ = some (.int .i64 s) ∧ w'.cell? ⟨b1, off1 + m * 2 + 1, none⟩ = some (.int .i64 t) ∧ w'.cell? ⟨b, s, none⟩ = some (.int .i64 p) ∧ w'.cell? ⟨b, t, none⟩ = some (.int .i64 q))
            (first | exact hS0 | assumption | (refine ⟨?_, ?_, ?_, ?_, ?_, ?_⟩ <;> assumption))
            (fail)
          replace L := hS0.1
          clear hS0 C B e1 ep eq hyq0 hyq1
          generalize wr.drew = wd at *
          have e3 := B2.c3
          have hyq0 : wd.cell? ⟨b3, off3 + k * 2, none⟩ = some (.int .i64 s2) := by rw [L.cell (p := ⟨b3, _, none⟩) hb3]; exact hxq0
          have hyq1 : wd.cell? ⟨b3, off3 + k * 2 + 1, none⟩ = some (.int .i64 t2) := by rw [L.cell (p := ⟨b3, _, none⟩) hb3]; exact hxq1
          have ep := C2.2.2 s2 hs2
          have eq := C2.2.2 t2 ht2
          rw [← hx.out] at ep
          rw [← hy.out] at eq
          go_wp2_with fail
          have hS0 : Below w.heap.size w wd.drew ∧ wd.drew.cell? ⟨w.heap.size, 3, none⟩ = some (.slice (some ⟨b3, off3, none⟩) l3.length c3) ∧ wd.drew.cell? ⟨b3, off3 + k * 2, none⟩ = some (.int .i64 s2) ∧ wd.drew.cell? ⟨b3, off3 + k * 2 + 1, none⟩ = some (.int .i64 t2) ∧ wd.drew.cell? ⟨b, s2, none⟩ = some (.int .i64 x) ∧ wd.drew.cell? ⟨b, t2, none⟩ = some (.int .i64 y) := ⟨L.drew, e3, hyq0, hyq1, ep, eq⟩
          have C3 := C2.drew; have B3 := B2.drew
          go_region_held3 (fun w' => Below w.heap.size w w' ∧ w'.cell? ⟨w.heap.size, 3, none⟩ = some (.slice (some ⟨b3, off3, none⟩) l3.length c3) ∧ w'.cell? ⟨b3, off3 + k * 2, none⟩ = some (.int .i64 s2) ∧ w'.cell? ⟨b3, off3 + k * 2 + 1, none⟩ = some (.int .i64 t2) ∧ w'.cell? ⟨b, s2, none⟩ = some (.int .i64 x) ∧ w'.cell? ⟨b, t2, none⟩ = some (.int .i64 y))
            (first | exact hS0 | assumption | (refine ⟨?_, ?_, ?_, ?_, ?_, ?_⟩ <;> assumption))
            (fail)
          replace L := hS0.1
          clear hS0 C2 B2 e3 ep eq hyq0 hyq1
          generalize wd.drew = we at *
          have HF : Hid (amongV c (l1.take (m + 1)) x y = (f || decide (p = x) && decide (q = y) || decide (p = y) && decide (q = x))) := by
            unfold Hid; rw [HA.out]; unfold pairIs; rw [Bool.or_assoc]; congr 1; rw [← Bool.decide_and, ← Bool.decide_and, ← Bool.decide_or]
          clear HA
          cases f
          · have HG : Hid (amongV c (l1.take (m + 1)) x y = decide (p = x ∧ q = y ∨ p = y ∧ q = x)) := by unfold Hid; rw [HF.out, Bool.false_or, Bool.decide_or, Bool.decide_and, Bool.decide_and]
            clear HF
            by_cases h1 : p = x <;> by_cases h2 : q = y <;> by_cases h3 : p = y <;> by_cases h4 : q = x
            all_goals
              first
                | (exfalso; omega)
                | (go_wp2
                   go_roundw
                   case rel => exact ⟨m + 1, by omega, by go_num, by rw [HG.out]; exact congrArg Value.bool (by first | exact (decide_eq_true (by omega)).symm | exact (decide_eq_false (by omega)).symm | (rw [Bool.eq_iff_iff, beq_iff_eq, decide_eq_true_iff]; omega)), C3, B3, L⟩
                   case measure => simp [intOf]; omega)
          · go_wp2
            go_roundw
            case rel => exact ⟨m + 1, by omega, by go_num, by rw [HF.out]; rfl, C3, B3, L⟩
            case measure => simp [intOf]; omega
        · have HT : amongV c (l1.take m) x y = amongV c l1 x y := by rw [show m = l1.length by omega, List.take_length]
          rw [HT]
          clear HT
          have hge : ¬ ((m : Int) < (l1.length : Int)) := by omega
          cases hf : amongV c l1 x y
          · have HV : Hid (openV c l1 l3 = false) := HNO.out hf
            go_wp2
            go_ret
            exact ⟨by rw [HV.out]; rfl, L⟩
          · have HM3 : Hid (∀ j, j < k + 1 → amongV c l1 (c.getD (l3.getD j (0, 0)).1.toNat 0) (c.getD (l3.getD j (0, 0)).2.toNat 0) = true) := HM2.out hf
            go_wp2
            go_roundw
            case rel => exact ⟨k + 1, by omega, by go_num, HM3, C, B, L⟩
            case measure => simp [intOf]; omega
    · have HV : Hid (openV c l1 l3 = true) := open_all (fun j hj => HM.out j (by omega))
      have hge : ¬ ((k : Int) < (l3.length : Int)) := by omega
      go_wp2
      go_ret
      exact ⟨by rw [HV.out]; rfl, L⟩

end Go.Proofs.Ytphchdjbhbmnbaa
namespace Go.Proofs.Ytphchdjbhbmnbaa
open Go.RowKit
set_option linter.unusedVariables false

def unfB (l0 l1 l2 l3 : List (Int × Int)) (i : Int) : Bool := asnB l0 l1 l2 l3 && decide (0 ≤ i ∧ i < (l3.length : Int)) && openV (clsV l0) l1 [l3.getD i.toNat (0, 0)] && decide (0 ≤ freshF (usedV l0 l1 l2 l3)) && decide (l2.length + l3.length < 6)
/-- l[i:i+1] -/
theorem cut_one (b n c i : Nat) (hi : i < n) (hn : n ≤ c) (w : World) : (Instr.slice 26 (.slice (some ⟨b, 0, none⟩) n c) (some (.int .i64 i)) (some (.int .i64 ((i : Int) + 1))) none).run Try.prog w = .ok (.slice (some ⟨b, i * 2, none⟩) 1 (c - i)) w := by
  have h0 : (0 : Int) ≤ i := by omega
  have h1 : (i : Int) ≤ (i : Int) + 1 := by omega
  have h2 : ((i : Int) + 1) ≤ c := by omega
  rw [run_slice_lh (P := Try.prog) (w := w) 26 (some ⟨b, 0, none⟩) n c (by kernel_rfl) .i64 .i64 i ((i : Int) + 1) h0 h1 h2]
  have e : ¬ c = i := by omega
  simp [sliced, go_sem, addr_add, e]
theorem one_row {w : World} {b i n : Nat} {l : List (Int × Int)} (h : Own w b n l n) (hn : n = l.length) (hi : i < l.length) : PRow w (some ⟨b, i * 2, none⟩) [l.getD i (0, 0)] := by
  subst hn
  refine .inr ⟨b, i * 2, rfl, h.1, fun j hj => ?_⟩
  obtain rfl : j = 0 := by simpa using hj
  simpa using h.2.2 i hi
theorem toks_one {l : List (Int × Int)} (h : toks l = true) {i : Nat} (hi : i < l.length) : toks [l.getD i (0, 0)] = true := by
  unfold toks at h ⊢
  rw [List.all_eq_true] at h
  simp only [List.all_cons, List.all_nil, Bool.and_true]
  exact h _ (by rw [List.getD_eq_getElem?_getD, List.getElem?_eq_getElem hi]; exact List.getElem_mem hi)

abbrev US (w2 : World) (A : Nat) (v0 v1 v3 : Value) (W : World) : Prop := Below w2.heap.size w2 W ∧ W.cell? ⟨A, 0, none⟩ = some v0 ∧ W.cell? ⟨A, 1, none⟩ = some v1 ∧ W.cell? ⟨A, 3, none⟩ = some v3
theorem us_keep {w2 W u : World} {A : Nat} {v0 v1 v3 : Value} (hz : A < w2.heap.size) (h : US w2 A v0 v1 v3 W) (hb : Below W.heap.size W u) : US w2 A v0 v1 v3 u := by
  obtain ⟨h1, c0, c1, c3⟩ := h
  have e : ∀ o, u.cell? ⟨A, o, none⟩ = W.cell? ⟨A, o, none⟩ := fun o => hb.cell (p := ⟨A, o, none⟩) (by show A < W.heap.size; have := h1.size; omega)
  exact ⟨h1.trans (hb.mono h1.size), (e _).trans c0, (e _).trans c1, (e _).trans c3⟩
theorem us_al {w2 W : World} {A : Nat} {v0 v1 v3 : Value} (hz : A < w2.heap.size) (o : Obj) (h : US w2 A v0 v1 v3 W) : US w2 A v0 v1 v3 (W.alloc o) := us_keep hz h ((Below.refl _ _).alloc (Nat.le_refl _) o)
theorem us_ad {w2 W : World} {A : Nat} {v0 v1 v3 : Value} (hz : A < w2.heap.size) (h : US w2 A v0 v1 v3 W) : US w2 A v0 v1 v3 W.drew := us_keep hz h (Below.refl _ _).drew

set_option maxRecDepth 20000 in
set_option maxHeartbeats 4000000 in
theorem sUnfold_any (b0 b1 b2 b3 c0 c1 c2 c3 : Nat) (l0 l1 l2 l3 : List (Int × Int)) (i : Int) (w : World) (n0 : l0.length ≤ 1048576) (n1 : l1.length ≤ 1048576) (n2 : l2.length ≤ 1048576) (n3 : l3.length ≤ 1048576) (o0 : Own w b0 l0.length l0 l0.length) (o1 : Own w b1 l1.length l1 l1.length) (o2 : Own w b2 l2.length l2 l2.length) (o3 : Own w b3 l3.length l3 l3.length) (z3 : l3.length ≤ c3) :
    Calls Try.prog 89 #[.agg #[.slice (some ⟨b0, 0, none⟩) l0.length c0, .slice (some ⟨b1, 0, none⟩) l1.length c1, .slice (some ⟨b2, 0, none⟩) l2.length c2, .slice (some ⟨b3, 0, none⟩) l3.length c3], .int .i64 i] w fun e w' => ∃ p0 p1 p2 p3 q0 q1 q2 q3, e = .returned (.tuple #[.agg #[.slice p0 (okL (unfB l0 l1 l2 l3 i) l0).length q0, .slice p1 (okL (unfB l0 l1 l2 l3 i) l1).length q1, .slice p2 (okL (unfB l0 l1 l2 l3 i) (unfC l2 (l3.getD i.toNat (0, 0)) (freshF (usedV l0 l1 l2 l3)))).length q2, .slice p3 (okL (unfB l0 l1 l2 l3 i) (unfS l3 i.toNat (l3.getD i.toNat (0, 0)) (freshF (usedV l0 l1 l2 l3)))).length q3], .bool (unfB l0 l1 l2 l3 i)]) ∧ Seen w' w.heap.size w'.heap.size p0 p1 p2 p3 (okL (unfB l0 l1 l2 l3 i) l0).length (okL (unfB l0 l1 l2 l3 i) l1).length (okL (unfB l0 l1 l2 l3 i) (unfC l2 (l3.getD i.toNat (0, 0)) (freshF (usedV l0 l1 l2 l3)))).length (okL (unfB l0 l1 l2 l3 i) (unfS l3 i.toNat (l3.getD i.toNat (0, 0)) (freshF (usedV l0 l1 l2 l3)))).length (okL (unfB l0 l1 l2 l3 i) l0) (okL (unfB l0 l1 l2 l3 i) l1) (okL (unfB l0 l1 l2 l3 i) (unfC l2 (l3.getD i.toNat (0, 0)) (freshF (usedV l0 l1 l2 l3)))) (okL (unfB l0 l1 l2 l3 i) (unfS l3 i.toNat (l3.getD i.toNat (0, 0)) (freshF (usedV l0 l1 l2 l3)))) ∧ Below w.heap.size w w' := by
  have A0 := (Box.new w (.slice (some ⟨b0, 0, none⟩) l0.length c0) (.slice (some ⟨b1, 0, none⟩) l1.length c1) (.slice (some ⟨b2, 0, none⟩) l2.length c2) (.slice (some ⟨b3, 0, none⟩) l3.length c3) 28).alloc (.cells #[.slice none 0 0, .slice none 0 0, .slice none 0 0, .slice none 0 0] 28)
  have R0 := Box.new (w.alloc (.cells #[.slice (some ⟨b0, 0, none⟩) l0.length c0, .slice (some ⟨b1, 0, none⟩) l1.length c1, .slice (some ⟨b2, 0, none⟩) l2.length c2, .slice (some ⟨b3, 0, none⟩) l3.length c3] 28)) (.slice none 0 0) (.slice none 0 0) (.slice none 0 0) (.slice none 0 0) 28
  have L0 : Below w.heap.size w ((w.alloc (.cells #[.slice (some ⟨b0, 0, none⟩) l0.length c0, .slice (some ⟨b1, 0, none⟩) l1.length c1, .slice (some ⟨b2, 0, none⟩) l2.length c2, .slice (some ⟨b3, 0, none⟩) l3.length c3] 28)).alloc (.cells #[.slice none 0 0, .slice none 0 0, .slice none 0 0, .slice none 0 0] 28)) := ((Below.refl _ _).alloc (Nat.le_refl _) _).alloc (by simp) _
  rw [World.size_alloc] at R0
  go_enter Try.func89, Try.ntmps89
  go_wp2_with fail
  refine (sAsnOk_any _ _ _ _ _ _ _ _ l0 l1 l2 l3 _ n0 n1 n2 n3 (o0.row.below L0 (Nat.le_refl _)) (o1.row.below L0 (Nat.le_refl _)) (o2.row.below L0 (Nat.le_refl _)) (o3.row.below L0 (Nat.le_refl _))).mono ?_
  rintro e w1 ⟨rfl, hb⟩
  replace A0 := A0.below hb A0.lt; replace R0 := R0.below hb R0.lt; replace L0 := L0.trans (hb.mono L0.size)
  replace o0 := o0.below (L0) o0.1; replace o1 := o1.below (L0) o1.1; replace o2 := o2.below (L0) o2.1; replace o3 := o3.below (L0) o3.1
  clear hb
  have A0c0 := A0.c0; have A0c1 := A0.c1; have A0c2 := A0.c2; have A0c3 := A0.c3
  by_cases hok : asnB l0 l1 l2 l3 = true
  rotate_left
  · replace hok : asnB l0 l1 l2 l3 = false := by simpa using hok
    rw [hok]
    have HE : Hid ((unfB l0 l1 l2 l3 i) = false) := by show (unfB l0 l1 l2 l3 i) = false; unfold unfB; rw [hok]; rfl
    obtain ⟨F, FO⟩ := R0.fill (.slice none 0 0) (.slice none 0 0) (.slice none 0 0) (.slice none 0 0)
    have j0' := R0.c0; have j1' := R0.c1; have j2' := R0.c2; have j3' := R0.c3
    have g0 := R0.f0; have g1 := R0.f1; have g2 := R0.f2; have g3 := R0.f3
    go_wp2
    have i0 := F.c0; have i1 := F.c1; have i2 := F.c2; have i3 := F.c3
    refine bodyPost_ret (v := .tuple #[.agg #[.slice none 0 0, .slice none 0 0, .slice none 0 0, .slice none 0 0], .bool false]) ?_ rfl ⟨none, none, none, none, 0, 0, 0, 0, by rw [HE.out]; rfl, ?_, ?_⟩
    · simp [results, Try.results89, go_sem, i0, i1, i2, i3]
    · rw [HE.out]; exact Seen.none _ _ _
    · exact L0.trans (FO.below (by omega) L0.size)

  have HT : Hid (asnB l0 l1 l2 l3 = true) := hok
  rw [hok]
  by_cases hi0 : i < 0
  · clear hok
    have HE : Hid ((unfB l0 l1 l2 l3 i) = false) := by show (unfB l0 l1 l2 l3 i) = false; unfold unfB; rw [decide_eq_false (p := 0 ≤ i ∧ _) (by omega)]; simp
    obtain ⟨F, FO⟩ := R0.fill (.slice none 0 0) (.slice none 0 0) (.slice none 0 0) (.slice none 0 0)
    have j0' := R0.c0; have j1' := R0.c1; have j2' := R0.c2; have j3' := R0.c3
    have g0 := R0.f0; have g1 := R0.f1; have g2 := R0.f2; have g3 := R0.f3
    go_wp2
    have i0 := F.c0; have i1 := F.c1; have i2 := F.c2; have i3 := F.c3
    refine bodyPost_ret (v := .tuple #[.agg #[.slice none 0 0, .slice none 0 0, .slice none 0 0, .slice none 0 0], .bool false]) ?_ rfl ⟨none, none, none, none, 0, 0, 0, 0, by rw [HE.out]; rfl, ?_, ?_⟩
    · simp [results, Try.results89, go_sem, i0, i1, i2, i3]
    · rw [HE.out]; exact Seen.none _ _ _
    · exact L0.trans (FO.below (by omega) L0.size)

  by_cases hi1 : (l3.length : Int) ≤ i
  · clear hok
    have HE : Hid ((unfB l0 l1 l2 l3 i) = false) := by show (unfB l0 l1 l2 l3 i) = false; unfold unfB; rw [decide_eq_false (p := 0 ≤ i ∧ _) (by omega)]; simp
    obtain ⟨F, FO⟩ := R0.fill (.slice none 0 0) (.slice none 0 0) (.slice none 0 0) (.slice none 0 0)
    have j0' := R0.c0; have j1' := R0.c1; have j2' := R0.c2; have j3' := R0.c3
    have g0 := R0.f0; have g1 := R0.f1; have g2 := R0.f2; have g3 := R0.f3
    go_wp2
    have i0 := F.c0; have i1 := F.c1; have i2 := F.c2; have i3 := F.c3
    refine bodyPost_ret (v := .tuple #[.agg #[.slice none 0 0, .slice none 0 0, .slice none 0 0, .slice none 0 0], .bool false]) ?_ rfl ⟨none, none, none, none, 0, 0, 0, 0, by rw [HE.out]; rfl, ?_, ?_⟩
    · simp [results, Try.results89, go_sem, i0, i1, i2, i3]
    · rw [HE.out]; exact Seen.none _ _ _
    · exact L0.trans (FO.below (by omega) L0.size)

  obtain ⟨k, rfl⟩ := Int.eq_ofNat_of_zero_le (show 0 ≤ i by omega)
  have hk : k < l3.length := by omega
  obtain ⟨t0, t1, t2, t3⟩ := asnB_toks hok
  clear hok
  go_wp2_with fail
  clear A0c0 A0c1 A0c2 A0c3
  refine (l3classes_any _ _ _ _ _ _ _ _ l0 l1 l2 l3 _ n0 t0 o0.row).mono ?_
  rintro e w2 ⟨bR, cR, rfl, hzR, CO, hb⟩
  replace A0 := A0.below hb A0.lt; replace R0 := R0.below hb R0.lt; replace L0 := L0.trans (hb.mono L0.size)
  replace o0 := o0.below (hb) o0.1; replace o1 := o1.below (hb) o1.1; replace o2 := o2.below (hb) o2.1; replace o3 := o3.below (hb) o3.1
  clear hb
  have A0c0 := A0.c0; have A0c1 := A0.c1; have A0c3 := A0.c3
  have zA := A0.lt
  have hx : ∀ w : World, (Instr.slice 26 (.slice (some ⟨b3, 0, none⟩) l3.length c3) (some (.int .i64 k)) (some (.int .i64 ((k : Int) + 1))) none).run Try.prog w = .ok (.slice (some ⟨b3, k * 2, none⟩) 1 (c3 - k)) w := fun w => cut_one _ _ _ _ hk z3 w
  have hwr : IntKind.i64.wrap ((k : Int) + 1) = (k : Int) + 1 := by rw [IntKind.wrap_i64]; omega
  have HC := Cls.all t0
  go_upto_region 4 with fail
  go_cut [7] (fun v7 wz => v7 = .pointer (some ⟨w2.heap.size, 0, none⟩) ∧ Box wz w2.heap.size (.slice (some ⟨b0, 0, none⟩) l0.length c0) (.slice (some ⟨b1, 0, none⟩) l1.length c1) (.slice none 0 0) (.slice (some ⟨b3, k * 2, none⟩) 1 (c3 - k)) ∧ Below w2.heap.size w2 wz)
  case first =>
    have hS1 : US w2 w.heap.size (.slice (some ⟨b0, 0, none⟩) l0.length c0) (.slice (some ⟨b1, 0, none⟩) l1.length c1) (.slice (some ⟨b3, 0, none⟩) l3.length c3) w2 := ⟨Below.refl _ _, A0c0, A0c1, A0c3⟩
    have hS0 := us_ad zA hS1
    clear A0c0 A0c1 A0c3
    go_region_held3 (fun W => Below w2.heap.size w2 W ∧ W.cell? ⟨w.heap.size, 0, none⟩ = some (.slice (some ⟨b0, 0, none⟩) l0.length c0) ∧ W.cell? ⟨w.heap.size, 1, none⟩ = some (.slice (some ⟨b1, 0, none⟩) l1.length c1) ∧ W.cell? ⟨w.heap.size, 3, none⟩ = some (.slice (some ⟨b3, 0, none⟩) l3.length c3))
      (first | exact hS0 | exact hS1 | assumption | exact us_al zA _ hS0 | exact us_al zA _ hS1 | exact us_ad zA (us_al zA _ hS1) | (refine ⟨?_, ?_, ?_, ?_⟩ <;> assumption))
      (fail)
    all_goals
      go_wp2_with fail
      go_meet
      first
        | exact ⟨rfl, Box.new _ _ _ _ _ _, ((Below.refl _ _).drew).alloc (by simp) _⟩
        | exact ⟨rfl, (Box.new _ _ _ _ _ _).drew, ((Below.refl _ _).alloc (Nat.le_refl _) _).drew⟩
        | exact ⟨rfl, Box.new _ _ _ _ _ _, ((Below.refl _ _).alloc (Nat.le_refl _) _)⟩
  case rest =>
    obtain ⟨rfl, BX, hb⟩ := hcut
    rename World => w4
    clear A0c0 A0c1 A0c3
    replace CO := CO.below hb CO.1
    replace A0 := A0.below hb A0.lt; replace R0 := R0.below hb R0.lt; replace L0 := L0.trans (hb.mono L0.size)
    replace o0 := o0.below (hb) o0.1; replace o1 := o1.below (hb) o1.1; replace o2 := o2.below (hb) o2.1; replace o3 := o3.below (hb) o3.1
    have zB := hb.size
    have BXl := BX.lt
    clear hb
    generalize w2.heap.size = ZB at *
    have bx0 := BX.c0; have bx1 := BX.c1; have bx2 := BX.c2; have bx3 := BX.c3
    go_wp2_with fail
    clear bx0 bx1 bx2 bx3 BX
    refine (l3opened_any (some ⟨b0, 0, none⟩) (some ⟨b1, 0, none⟩) none (some ⟨b3, k * 2, none⟩) c0 c1 0 (c3 - k) l0 l1 [] [l3.getD k (0, 0)] bR cR (clsV l0) HC _ n1 (by simp) t1 (toks_one t3 hk) o1.row (one_row o3 rfl hk) CO).mono ?_
    rintro e w5 ⟨rfl, hb⟩
    replace A0 := A0.below hb A0.lt; replace R0 := R0.below hb R0.lt; replace L0 := L0.trans (hb.mono L0.size)
    replace o0 := o0.below (hb) o0.1; replace o1 := o1.below (hb) o1.1; replace o2 := o2.below (hb) o2.1; replace o3 := o3.below (hb) o3.1
    clear hb CO
    by_cases hop : openV (clsV l0) l1 [l3.getD k (0, 0)] = true
    rotate_left
    · replace hop : openV (clsV l0) l1 [l3.getD k (0, 0)] = false := by simpa using hop
      rw [hop]
      have HE : Hid ((unfB l0 l1 l2 l3 (k : Int)) = false) := by show (unfB l0 l1 l2 l3 (k : Int)) = false; unfold unfB; rw [Int.toNat_natCast, hop]; simp
      obtain ⟨F, FO⟩ := R0.fill (.slice none 0 0) (.slice none 0 0) (.slice none 0 0) (.slice none 0 0)
      have j0' := R0.c0; have j1' := R0.c1; have j2' := R0.c2; have j3' := R0.c3
      have g0 := R0.f0; have g1 := R0.f1; have g2 := R0.f2; have g3 := R0.f3
      go_wp2
      have i0 := F.c0; have i1 := F.c1; have i2 := F.c2; have i3 := F.c3
      refine bodyPost_ret (v := .tuple #[.agg #[.slice none 0 0, .slice none 0 0, .slice none 0 0, .slice none 0 0], .bool false]) ?_ rfl ⟨none, none, none, none, 0, 0, 0, 0, by rw [HE.out]; rfl, ?_, ?_⟩
      · simp [results, Try.results89, go_sem, i0, i1, i2, i3]
      · rw [HE.out]; exact Seen.none _ _ _
      · exact L0.trans (FO.below (by omega) L0.size)

    rw [hop]
    have HOP : Hid (openV (clsV l0) l1 [l3.getD k (0, 0)] = true) := hop
    clear hop
    have A0c0 := A0.c0; have A0c1 := A0.c1; have A0c2 := A0.c2; have A0c3 := A0.c3
    by_cases hy : 0 ≤ freshF (usedV l0 l1 l2 l3) ∧ l2.length + l3.length < 6
    · obtain ⟨hf, hr⟩ := hy
      have HE : Hid (unfB l0 l1 l2 l3 (k : Int) = true) := by show unfB l0 l1 l2 l3 (k : Int) = true; unfold unfB; rw [Int.toNat_natCast, HT.out, HOP.out, decide_eq_true hf, decide_eq_true hr, decide_eq_true (by omega)]; rfl
      go_wp2_with fail
      clear A0c0 A0c1 A0c2 A0c3
      refine (l4unfold_yes b0 b1 b2 b3 c0 c1 c2 c3 l0 l1 l2 l3 k _ n0 n1 n2 n3 o0 o1 o2 o3 z3 HT.out hk hf hr).mono ?_
      rintro e w6 ⟨p0, p1, p2, p3, q0, q1, q2, q3, rfl, T, hb⟩
      have al : Below w6.heap.size w6 (w6.alloc (.cells #[.slice p0 l0.length q0, .slice p1 l1.length q1, .slice p2 (l2.length + 1) q2, .slice p3 (k + (l3.length - (k + 1)) + 1) q3] 28)) := (Below.refl _ _).alloc (Nat.le_refl _) _
      have BX := Box.new w6 (.slice p0 l0.length q0) (.slice p1 l1.length q1) (.slice p2 (l2.length + 1) q2) (.slice p3 (k + (l3.length - (k + 1)) + 1) q3) 28
      have zr := R0.lt
      replace R0 := (R0.below hb R0.lt).below al (Nat.lt_of_lt_of_le R0.lt hb.size); replace L0 := (L0.trans (hb.mono L0.size)).trans (al.mono (Nat.le_trans L0.size hb.size))
      replace T := (T.below al (Nat.le_refl _))
      have s6 := hb.size
      have s7 := al.size
      have T2 := T.mono (show w.heap.size + 2 ≤ w5.heap.size by omega) (Nat.le_refl _)
      clear hb al A0 T
      go_upto_region 8 with fail
      generalize w6.alloc (.cells #[.slice p0 l0.length q0, .slice p1 l1.length q1, .slice p2 (l2.length + 1) q2, .slice p3 (k + (l3.length - (k + 1)) + 1) q3] 28) = w7 at *
      have bx0 := BX.c0; have bx1 := BX.c1; have bx2 := BX.c2; have bx3 := BX.c3
      obtain ⟨F, FO⟩ := R0.fill (.slice p0 l0.length q0) (.slice p1 l1.length q1) (.slice p2 (l2.length + 1) q2) (.slice p3 (k + (l3.length - (k + 1)) + 1) q3)
      have j0' := R0.c0; have j1' := R0.c1; have j2' := R0.c2; have j3' := R0.c3
      have g0 := R0.f0; have g1 := R0.f1; have g2 := R0.f2; have g3 := R0.f3
      have zz : w.heap.size + 1 < w6.heap.size := by omega
      go_wp2
      have i0 := F.c0; have i1 := F.c1; have i2 := F.c2; have i3 := F.c3
      have EL2 : (unfC l2 (l3.getD k (0, 0)) (freshF (usedV l0 l1 l2 l3))).length = l2.length + 1 := by simp [unfC]
      have EL3 : (unfS l3 k (l3.getD k (0, 0)) (freshF (usedV l0 l1 l2 l3))).length = k + (l3.length - (k + 1)) + 1 := by simp [unfS]; omega
      refine bodyPost_ret (v := .tuple #[.agg #[.slice p0 l0.length q0, .slice p1 l1.length q1, .slice p2 (l2.length + 1) q2, .slice p3 (k + (l3.length - (k + 1)) + 1) q3], .bool true]) ?_ rfl ⟨p0, p1, p2, p3, q0, q1, q2, q3, by rw [HE.out, Int.toNat_natCast]; simp only [okL, if_true, EL2, EL3], ?_, ?_⟩
      · simp [results, Try.results89, go_sem, i0, i1, i2, i3]
      · rw [HE.out, Int.toNat_natCast]
        simp only [okL, if_true, EL2, EL3]
        exact (T2.out FO (.inr (Nat.le_refl _))).mono (by omega) (Nat.le_trans s7 FO.size)
      · exact L0.trans (FO.below (by omega) L0.size)
    · have hno : freshF (usedV l0 l1 l2 l3) < 0 ∨ 6 ≤ l2.length + l3.length := by omega
      have HN : Hid (¬ (0 ≤ freshF (usedV l0 l1 l2 l3) ∧ l2.length + l3.length < 6)) := hy
      clear hy
      go_wp2_with fail
      clear A0c0 A0c1 A0c2 A0c3
      refine (l4unfold_no b0 b1 b2 b3 c0 c1 c2 c3 l0 l1 l2 l3 k _ n0 n1 n2 n3 o0 o1 o2 o3 HT.out hno).mono ?_
      rintro e w6 ⟨rfl, hb⟩
      have al : Below w6.heap.size w6 (w6.alloc (.cells #[.slice (some ⟨b0, 0, none⟩) l0.length c0, .slice (some ⟨b1, 0, none⟩) l1.length c1, .slice (some ⟨b2, 0, none⟩) l2.length c2, .slice (some ⟨b3, 0, none⟩) l3.length c3] 28)) := (Below.refl _ _).alloc (Nat.le_refl _) _
      have zz : w.heap.size + 1 < w6.heap.size := Nat.lt_of_lt_of_le R0.lt hb.size
      replace R0 := (R0.below hb R0.lt).below al zz; replace L0 := (L0.trans (hb.mono L0.size)).trans (al.mono (Nat.le_trans L0.size hb.size))
      clear hb al A0 hno
      go_upto_region 8 with fail
      generalize w6.alloc (.cells #[.slice (some ⟨b0, 0, none⟩) l0.length c0, .slice (some ⟨b1, 0, none⟩) l1.length c1, .slice (some ⟨b2, 0, none⟩) l2.length c2, .slice (some ⟨b3, 0, none⟩) l3.length c3] 28) = w7 at *
      have HE : Hid ((unfB l0 l1 l2 l3 (k : Int)) = false) := by show (unfB l0 l1 l2 l3 (k : Int)) = false; unfold unfB; have h := HN.out; simp only [Bool.and_eq_false_iff, decide_eq_false_iff_not]; omega
      obtain ⟨F, FO⟩ := R0.fill (.slice none 0 0) (.slice none 0 0) (.slice none 0 0) (.slice none 0 0)
      have j0' := R0.c0; have j1' := R0.c1; have j2' := R0.c2; have j3' := R0.c3
      have g0 := R0.f0; have g1 := R0.f1; have g2 := R0.f2; have g3 := R0.f3
      go_wp2
      have i0 := F.c0; have i1 := F.c1; have i2 := F.c2; have i3 := F.c3
      refine bodyPost_ret (v := .tuple #[.agg #[.slice none 0 0, .slice none 0 0, .slice none 0 0, .slice none 0 0], .bool false]) ?_ rfl ⟨none, none, none, none, 0, 0, 0, 0, by rw [HE.out]; rfl, ?_, ?_⟩
      · simp [results, Try.results89, go_sem, i0, i1, i2, i3]
      · rw [HE.out]; exact Seen.none _ _ _
      · exact L0.trans (FO.below (by omega) L0.size)


end Go.Proofs.Ytphchdjbhbmnbaa
namespace Go.Proofs.Ytphchdjbhbmnbaa
open Go.RowKit
set_option linter.unusedVariables false

def CPost (w : World) (lo : Nat) (L : List A4) (e : Ending) (w' : World) : Prop := ∃ v xs, e = .returned v ∧ w'.ownsRow w.heap.size 28 4 v L.length xs ∧ VS w' lo w'.heap.size L xs ∧ (L = [] → v = .slice none 0 0) ∧ Below w.heap.size w w'

abbrev CB (b0 o0 o1 o2 o3 : Nat) (v0 v1 v2 v3 : Value) (W : World) : Prop := W.cell? ⟨b0, o0, none⟩ = some v0 ∧ W.cell? ⟨b0, o1, none⟩ = some v1 ∧ W.cell? ⟨b0, o2, none⟩ = some v2 ∧ W.cell? ⟨b0, o3, none⟩ = some v3
theorem CB_be {b0 o0 o1 o2 o3 : Nat} {v0 v1 v2 v3 : Value} {W : World} {u : World} (hb : Below W.heap.size W u) (h : CB b0 o0 o1 o2 o3 v0 v1 v2 v3 W) : CB b0 o0 o1 o2 o3 v0 v1 v2 v3 u := by
  skip
  exact ⟨by rw [hb.cell (World.block_lt_of_cell? _ _ (h.1))]; exact h.1, by rw [hb.cell (World.block_lt_of_cell? _ _ (h.2.1))]; exact h.2.1, by rw [hb.cell (World.block_lt_of_cell? _ _ (h.2.2.1))]; exact h.2.2.1, by rw [hb.cell (World.block_lt_of_cell? _ _ (h.2.2.2))]; exact h.2.2.2⟩
theorem CB_al {b0 o0 o1 o2 o3 : Nat} {v0 v1 v2 v3 : Value} {W : World} (o : Obj) (h : CB b0 o0 o1 o2 o3 v0 v1 v2 v3 W) : CB b0 o0 o1 o2 o3 v0 v1 v2 v3 (W.alloc o) := by
  skip
  exact ⟨by rw [World.cell?_alloc_lt _ _ _ (World.block_lt_of_cell? _ _ (h.1))]; exact h.1, by rw [World.cell?_alloc_lt _ _ _ (World.block_lt_of_cell? _ _ (h.2.1))]; exact h.2.1, by rw [World.cell?_alloc_lt _ _ _ (World.block_lt_of_cell? _ _ (h.2.2.1))]; exact h.2.2.1, by rw [World.cell?_alloc_lt _ _ _ (World.block_lt_of_cell? _ _ (h.2.2.2))]; exact h.2.2.2⟩
theorem CB_ad {b0 o0 o1 o2 o3 : Nat} {v0 v1 v2 v3 : Value} {W : World}  (h : CB b0 o0 o1 o2 o3 v0 v1 v2 v3 W) : CB b0 o0 o1 o2 o3 v0 v1 v2 v3 W.drew := by
  skip
  exact ⟨h.1, h.2.1, h.2.2.1, h.2.2.2⟩
theorem CB_out {b0 o0 o1 o2 o3 : Nat} {v0 v1 v2 v3 : Value} {W : World} {u : World} {lo hi : Nat} (ho : Out lo hi W u) (hd : (b0 < lo ∨ hi ≤ b0)) (h : CB b0 o0 o1 o2 o3 v0 v1 v2 v3 W) : CB b0 o0 o1 o2 o3 v0 v1 v2 v3 u := by
  skip
  exact ⟨by rw [World.cell?_of_block (ho.block _ (World.block_lt_of_cell? _ _ (h.1)) (hd))]; exact h.1, by rw [World.cell?_of_block (ho.block _ (World.block_lt_of_cell? _ _ (h.2.1)) (hd))]; exact h.2.1, by rw [World.cell?_of_block (ho.block _ (World.block_lt_of_cell? _ _ (h.2.2.1)) (hd))]; exact h.2.2.1, by rw [World.cell?_of_block (ho.block _ (World.block_lt_of_cell? _ _ (h.2.2.2)) (hd))]; exact h.2.2.2⟩

set_option maxRecDepth 20000 in
set_option maxHeartbeats 4000000 in
theorem l4cases_zero (a0 a1 a2 a3 : Option Addr) (k0 k1 k2 c0 c1 c2 c3 : Nat) (l3 : List (Int × Int)) (i : Nat) (b0 b1 b2 b3 : Option Addr) (e0 e1 e2 e3 : Nat) (d0 d1 d2 d3 : List (Int × Int)) (w : World) (hi : i = l3.length)
    (g3 : l3.length ≤ 6) (h0 : d0.length ≤ 12) (h1 : d1.length ≤ 12) (h2 : d2.length ≤ 6) (h3 : d3.length ≤ 6)
    (t0 : toks d0 = true) (t1 : toks d1 = true) (t2 : toks d2 = true) (t3 : toks d3 = true) (lo : Nat) (T : Seen w lo w.heap.size b0 b1 b2 b3 d0.length d1.length d2.length d3.length d0 d1 d2 d3) :
    Calls Try.prog 221 #[.agg #[.slice a0 k0 c0, .slice a1 k1 c1, .slice a2 k2 c2, .slice a3 l3.length c3], .int .i64 i, .agg #[.slice b0 d0.length e0, .slice b1 d1.length e1, .slice b2 d2.length e2, .slice b3 d3.length e3]] w (CPost w lo (casesV d2 (l3.drop i) d0 d1 d3)) := by
  have A0 := (Box.new w (.slice a0 k0 c0) (.slice a1 k1 c1) (.slice a2 k2 c2) (.slice a3 l3.length c3) 28).alloc (.cells #[.slice b0 d0.length e0, .slice b1 d1.length e1, .slice b2 d2.length e2, .slice b3 d3.length e3] 28)
  have D0 := Box.new (w.alloc (.cells #[.slice a0 k0 c0, .slice a1 k1 c1, .slice a2 k2 c2, .slice a3 l3.length c3] 28)) (.slice b0 d0.length e0) (.slice b1 d1.length e1) (.slice b2 d2.length e2) (.slice b3 d3.length e3) 28
  have L0 : Below w.heap.size w ((w.alloc (.cells #[.slice a0 k0 c0, .slice a1 k1 c1, .slice a2 k2 c2, .slice a3 l3.length c3] 28)).alloc (.cells #[.slice b0 d0.length e0, .slice b1 d1.length e1, .slice b2 d2.length e2, .slice b3 d3.length e3] 28)) := ((Below.refl _ _).alloc (Nat.le_refl _) _).alloc (by simp) _
  rw [World.size_alloc] at D0
  have A0c3 := A0.c3
  obtain rfl : i = l3.length := by omega
  rw [show l3.drop l3.length = [] from List.drop_length]
  go_enter Try.func221, Try.ntmps221
  go_upto_region 2 with fail
  clear A0c3 A0
  generalize ((w.alloc (.cells #[.slice a0 k0 c0, .slice a1 k1 c1, .slice a2 k2 c2, .slice a3 l3.length c3] 28)).alloc (.cells #[.slice b0 d0.length e0, .slice b1 d1.length e1, .slice b2 d2.length e2, .slice b3 d3.length e3] 28)) = w1 at *
  have D0c0 := D0.c0; have D0c1 := D0.c1; have D0c2 := D0.c2; have D0c3 := D0.c3
  have hS1 : CB (w.heap.size + 1) 0 1 2 3 (.slice b0 d0.length e0) (.slice b1 d1.length e1) (.slice b2 d2.length e2) (.slice b3 d3.length e3) w1 := ⟨D0.c0, D0.c1, D0.c2, D0.c3⟩
  have hS0 := CB_ad hS1
  clear D0c0 D0c1 D0c2 D0c3
  have z1 := L0.size
  replace T := T.below L0.drew (Nat.le_refl _)
  have r0 := T.1.row; have r1 := T.2.1.row; have r2 := T.2.2.1.row; have r3 := T.2.2.2.row
  go_region_held3 (fun W => W.cell? ⟨w.heap.size + 1, 0, none⟩ = some (.slice b0 d0.length e0) ∧ W.cell? ⟨w.heap.size + 1, 1, none⟩ = some (.slice b1 d1.length e1) ∧ W.cell? ⟨w.heap.size + 1, 2, none⟩ = some (.slice b2 d2.length e2) ∧ W.cell? ⟨w.heap.size + 1, 3, none⟩ = some (.slice b3 d3.length e3))
    (first | exact hS0 | exact hS1 | assumption | (refine CB_be (by assumption) ?_; first | exact hS0 | assumption))
    (first
      | (go_at_call 151; refine (l3classes_any _ _ _ _ _ _ _ _ d0 d1 d2 d3 _ (by omega) t0 r0).mono ?_; rintro e u1 ⟨bR, cR, rfl, hzR, CO, hb1⟩)
      | (go_at_call 164; refine (l3contra_any _ _ _ _ _ _ _ _ d0 d1 d2 d3 bR cR (clsV d0) (Cls.all t0).1 _ (by omega) (by omega) (by omega) (by rw [headsV, List.length_append, headsOf_len, headsOf_len]; omega) t1 t2 t3 (r1.below hb1 (Nat.le_refl _)) (r2.below hb1 (Nat.le_refl _)) (r3.below hb1 (Nat.le_refl _)) CO).mono ?_; rintro e u2 ⟨rfl, hb2⟩))
  replace T := (T.below hb1 z1).below hb2 (Nat.le_trans z1 hb1.size)
  replace L0 := (L0.drew.trans (hb1.mono L0.drew.size)).trans (hb2.mono (Nat.le_trans L0.drew.size hb1.size))
  replace D0 := (D0.drew.below hb1 D0.drew.lt).below hb2 (D0.drew.below hb1 D0.drew.lt).lt
  clear hb1 hb2 hS0 hS1 r0 r1 r2 r3 CO
  have D0c0 := D0.c0; have D0c1 := D0.c1; have D0c2 := D0.c2; have D0c3 := D0.c3
  by_cases hc : contraV (clsV d0) d1 d2 d3 = true
  · rw [hc]
    have HE : Hid (casesV d2 [] d0 d1 d3 = []) := by show casesV _ _ _ _ _ = _; unfold casesV; rw [if_pos hc]
    clear hc
    go_wp2
    go_ret
    rw [HE.out]
    exact ⟨_, [], rfl, World.ownsRow_nil _ _ _ _, rfl, fun _ => rfl, L0⟩
  · replace hc : contraV (clsV d0) d1 d2 d3 = false := by simpa using hc
    rw [hc]
    have HE : Hid (casesV d2 [] d0 d1 d3 = [(d0, d1, d2, d3)]) := by show casesV _ _ _ _ _ = _; unfold casesV; rw [if_neg (by rw [hc]; decide)]
    clear hc
    go_wp2
    go_ret
    rw [HE.out]
    have al : Below u2.heap.size u2 (u2.alloc (.cells #[.slice b0 d0.length e0, .slice b1 d1.length e1, .slice b2 d2.length e2, .slice b3 d3.length e3] 28)) := (Below.refl _ _).alloc (Nat.le_refl _) _
    have hz := L0.size
    refine ⟨_, _, rfl, World.ownsRow_lit (e := 28) (size := 4) (base := w.heap.size) u2 #[.slice b0 d0.length e0, .slice b1 d1.length e1, .slice b2 d2.length e2, .slice b3 d3.length e3] 1 hz (by decide) rfl, ⟨_, _, _, _, _, _, _, _, [], rfl, (T.below al hz).mono (Nat.le_refl _) (Nat.le_trans hz al.size), rfl⟩, (fun e => by cases e), L0.trans (al.mono hz)⟩

abbrev TB (b0 b1 b2 o0 o1 o2 o3 o4 o5 o6 o7 o8 o9 o10 o11 : Nat) (v0 v1 v2 v3 v4 v5 v6 v7 v8 v9 v10 v11 : Value) (W : World) : Prop := W.cell? ⟨b0, o0, none⟩ = some v0 ∧ W.cell? ⟨b0, o1, none⟩ = some v1 ∧ W.cell? ⟨b0, o2, none⟩ = some v2 ∧ W.cell? ⟨b0, o3, none⟩ = some v3 ∧ W.cell? ⟨b1, o4, none⟩ = some v4 ∧ W.cell? ⟨b1, o5, none⟩ = some v5 ∧ W.cell? ⟨b1, o6, none⟩ = some v6 ∧ W.cell? ⟨b1, o7, none⟩ = some v7 ∧ W.cell? ⟨b2, o8, none⟩ = some v8 ∧ W.cell? ⟨b2, o9, none⟩ = some v9 ∧ W.cell? ⟨b2, o10, none⟩ = some v10 ∧ W.cell? ⟨b2, o11, none⟩ = some v11
theorem TB_be {b0 b1 b2 o0 o1 o2 o3 o4 o5 o6 o7 o8 o9 o10 o11 : Nat} {v0 v1 v2 v3 v4 v5 v6 v7 v8 v9 v10 v11 : Value} {W : World} {u : World} (hb : Below W.heap.size W u) (h : TB b0 b1 b2 o0 o1 o2 o3 o4 o5 o6 o7 o8 o9 o10 o11 v0 v1 v2 v3 v4 v5 v6 v7 v8 v9 v10 v11 W) : TB b0 b1 b2 o0 o1 o2 o3 o4 o5 o6 o7 o8 o9 o10 o11 v0 v1 v2 v3 v4 v5 v6 v7 v8 v9 v10 v11 u := by
  skip
  exact ⟨by rw [hb.cell (World.block_lt_of_cell? _ _ (h.1))]; exact h.1, by rw [hb.cell (World.block_lt_of_cell? _ _ (h.2.1))]; exact h.2.1, by rw [hb.cell (World.block_lt_of_cell? _ _ (h.2.2.1))]; exact h.2.2.1, by rw [hb.cell (World.block_lt_of_cell? _ _ (h.2.2.2.1))]; exact h.2.2.2.1, by rw [hb.cell (World.block_lt_of_cell? _ _ (h.2.2.2.2.1))]; exact h.2.2.2.2.1, by rw [hb.cell (World.block_lt_of_cell? _ _ (h.2.2.2.2.2.1))]; exact h.2.2.2.2.2.1, by rw [hb.cell (World.block_lt_of_cell? _ _ (h.2.2.2.2.2.2.1))]; exact h.2.2.2.2.2.2.1, by rw [hb.cell (World.block_lt_of_cell? _ _ (h.2.2.2.2.2.2.2.1))]; exact h.2.2.2.2.2.2.2.1, by rw [hb.cell (World.block_lt_of_cell? _ _ (h.2.2.2.2.2.2.2.2.1))]; exact h.2.2.2.2.2.2.2.2.1, by rw [hb.cell (World.block_lt_of_cell? _ _ (h.2.2.2.2.2.2.2.2.2.1))]; exact h.2.2.2.2.2.2.2.2.2.1, by rw [hb.cell (World.block_lt_of_cell? _ _ (h.2.2.2.2.2.2.2.2.2.2.1))]; exact h.2.2.2.2.2.2.2.2.2.2.1, by rw [hb.cell (World.block_lt_of_cell? _ _ (h.2.2.2.2.2.2.2.2.2.2.2))]; exact h.2.2.2.2.2.2.2.2.2.2.2⟩
theorem TB_al {b0 b1 b2 o0 o1 o2 o3 o4 o5 o6 o7 o8 o9 o10 o11 : Nat} {v0 v1 v2 v3 v4 v5 v6 v7 v8 v9 v10 v11 : Value} {W : World} (o : Obj) (h : TB b0 b1 b2 o0 o1 o2 o3 o4 o5 o6 o7 o8 o9 o10 o11 v0 v1 v2 v3 v4 v5 v6 v7 v8 v9 v10 v11 W) : TB b0 b1 b2 o0 o1 o2 o3 o4 o5 o6 o7 o8 o9 o10 o11 v0 v1 v2 v3 v4 v5 v6 v7 v8 v9 v10 v11 (W.alloc o) := by
  skip
  exact ⟨by rw [World.cell?_alloc_lt _ _ _ (World.block_lt_of_cell? _ _ (h.1))]; exact h.1, by rw [World.cell?_alloc_lt _ _ _ (World.block_lt_of_cell? _ _ (h.2.1))]; exact h.2.1, by rw [World.cell?_alloc_lt _ _ _ (World.block_lt_of_cell? _ _ (h.2.2.1))]; exact h.2.2.1, by rw [World.cell?_alloc_lt _ _ _ (World.block_lt_of_cell? _ _ (h.2.2.2.1))]; exact h.2.2.2.1, by rw [World.cell?_alloc_lt _ _ _ (World.block_lt_of_cell? _ _ (h.2.2.2.2.1))]; exact h.2.2.2.2.1, by rw [World.cell?_alloc_lt _ _ _ (World.block_lt_of_cell? _ _ (h.2.2.2.2.2.1))]; exact h.2.2.2.2.2.1, by rw [World.cell?_alloc_lt _ _ _ (World.block_lt_of_cell? _ _ (h.2.2.2.2.2.2.1))]; exact h.2.2.2.2.2.2.1, by rw [World.cell?_alloc_lt _ _ _ (World.block_lt_of_cell? _ _ (h.2.2.2.2.2.2.2.1))]; exact h.2.2.2.2.2.2.2.1, by rw [World.cell?_alloc_lt _ _ _ (World.block_lt_of_cell? _ _ (h.2.2.2.2.2.2.2.2.1))]; exact h.2.2.2.2.2.2.2.2.1, by rw [World.cell?_alloc_lt _ _ _ (World.block_lt_of_cell? _ _ (h.2.2.2.2.2.2.2.2.2.1))]; exact h.2.2.2.2.2.2.2.2.2.1, by rw [World.cell?_alloc_lt _ _ _ (World.block_lt_of_cell? _ _ (h.2.2.2.2.2.2.2.2.2.2.1))]; exact h.2.2.2.2.2.2.2.2.2.2.1, by rw [World.cell?_alloc_lt _ _ _ (World.block_lt_of_cell? _ _ (h.2.2.2.2.2.2.2.2.2.2.2))]; exact h.2.2.2.2.2.2.2.2.2.2.2⟩
theorem TB_ad {b0 b1 b2 o0 o1 o2 o3 o4 o5 o6 o7 o8 o9 o10 o11 : Nat} {v0 v1 v2 v3 v4 v5 v6 v7 v8 v9 v10 v11 : Value} {W : World}  (h : TB b0 b1 b2 o0 o1 o2 o3 o4 o5 o6 o7 o8 o9 o10 o11 v0 v1 v2 v3 v4 v5 v6 v7 v8 v9 v10 v11 W) : TB b0 b1 b2 o0 o1 o2 o3 o4 o5 o6 o7 o8 o9 o10 o11 v0 v1 v2 v3 v4 v5 v6 v7 v8 v9 v10 v11 W.drew := by
  skip
  exact ⟨h.1, h.2.1, h.2.2.1, h.2.2.2.1, h.2.2.2.2.1, h.2.2.2.2.2.1, h.2.2.2.2.2.2.1, h.2.2.2.2.2.2.2.1, h.2.2.2.2.2.2.2.2.1, h.2.2.2.2.2.2.2.2.2.1, h.2.2.2.2.2.2.2.2.2.2.1, h.2.2.2.2.2.2.2.2.2.2.2⟩
theorem TB_out {b0 b1 b2 o0 o1 o2 o3 o4 o5 o6 o7 o8 o9 o10 o11 : Nat} {v0 v1 v2 v3 v4 v5 v6 v7 v8 v9 v10 v11 : Value} {W : World} {u : World} {lo hi : Nat} (ho : Out lo hi W u) (hd : (b0 < lo ∨ hi ≤ b0) ∧ (b1 < lo ∨ hi ≤ b1) ∧ (b2 < lo ∨ hi ≤ b2)) (h : TB b0 b1 b2 o0 o1 o2 o3 o4 o5 o6 o7 o8 o9 o10 o11 v0 v1 v2 v3 v4 v5 v6 v7 v8 v9 v10 v11 W) : TB b0 b1 b2 o0 o1 o2 o3 o4 o5 o6 o7 o8 o9 o10 o11 v0 v1 v2 v3 v4 v5 v6 v7 v8 v9 v10 v11 u := by
  skip
  exact ⟨by rw [World.cell?_of_block (ho.block _ (World.block_lt_of_cell? _ _ (h.1)) (hd.1))]; exact h.1, by rw [World.cell?_of_block (ho.block _ (World.block_lt_of_cell? _ _ (h.2.1)) (hd.1))]; exact h.2.1, by rw [World.cell?_of_block (ho.block _ (World.block_lt_of_cell? _ _ (h.2.2.1)) (hd.1))]; exact h.2.2.1, by rw [World.cell?_of_block (ho.block _ (World.block_lt_of_cell? _ _ (h.2.2.2.1)) (hd.1))]; exact h.2.2.2.1, by rw [World.cell?_of_block (ho.block _ (World.block_lt_of_cell? _ _ (h.2.2.2.2.1)) (hd.2.1))]; exact h.2.2.2.2.1, by rw [World.cell?_of_block (ho.block _ (World.block_lt_of_cell? _ _ (h.2.2.2.2.2.1)) (hd.2.1))]; exact h.2.2.2.2.2.1, by rw [World.cell?_of_block (ho.block _ (World.block_lt_of_cell? _ _ (h.2.2.2.2.2.2.1)) (hd.2.1))]; exact h.2.2.2.2.2.2.1, by rw [World.cell?_of_block (ho.block _ (World.block_lt_of_cell? _ _ (h.2.2.2.2.2.2.2.1)) (hd.2.1))]; exact h.2.2.2.2.2.2.2.1, by rw [World.cell?_of_block (ho.block _ (World.block_lt_of_cell? _ _ (h.2.2.2.2.2.2.2.2.1)) (hd.2.2))]; exact h.2.2.2.2.2.2.2.2.1, by rw [World.cell?_of_block (ho.block _ (World.block_lt_of_cell? _ _ (h.2.2.2.2.2.2.2.2.2.1)) (hd.2.2))]; exact h.2.2.2.2.2.2.2.2.2.1, by rw [World.cell?_of_block (ho.block _ (World.block_lt_of_cell? _ _ (h.2.2.2.2.2.2.2.2.2.2.1)) (hd.2.2))]; exact h.2.2.2.2.2.2.2.2.2.2.1, by rw [World.cell?_of_block (ho.block _ (World.block_lt_of_cell? _ _ (h.2.2.2.2.2.2.2.2.2.2.2)) (hd.2.2))]; exact h.2.2.2.2.2.2.2.2.2.2.2⟩

abbrev EJ (b0 b1 o0 o1 o2 : Nat) (v0 v1 v2 : Value) (W : World) : Prop := W.cell? ⟨b0, o0, none⟩ = some v0 ∧ W.cell? ⟨b1, o1, none⟩ = some v1 ∧ W.cell? ⟨b1, o2, none⟩ = some v2
theorem EJ_be {b0 b1 o0 o1 o2 : Nat} {v0 v1 v2 : Value} {W : World} {u : World} (hb : Below W.heap.size W u) (h : EJ b0 b1 o0 o1 o2 v0 v1 v2 W) : EJ b0 b1 o0 o1 o2 v0 v1 v2 u := by
  skip
  exact ⟨by rw [hb.cell (World.block_lt_of_cell? _ _ (h.1))]; exact h.1, by rw [hb.cell (World.block_lt_of_cell? _ _ (h.2.1))]; exact h.2.1, by rw [hb.cell (World.block_lt_of_cell? _ _ (h.2.2))]; exact h.2.2⟩
theorem EJ_al {b0 b1 o0 o1 o2 : Nat} {v0 v1 v2 : Value} {W : World} (o : Obj) (h : EJ b0 b1 o0 o1 o2 v0 v1 v2 W) : EJ b0 b1 o0 o1 o2 v0 v1 v2 (W.alloc o) := by
  skip
  exact ⟨by rw [World.cell?_alloc_lt _ _ _ (World.block_lt_of_cell? _ _ (h.1))]; exact h.1, by rw [World.cell?_alloc_lt _ _ _ (World.block_lt_of_cell? _ _ (h.2.1))]; exact h.2.1, by rw [World.cell?_alloc_lt _ _ _ (World.block_lt_of_cell? _ _ (h.2.2))]; exact h.2.2⟩
theorem EJ_ad {b0 b1 o0 o1 o2 : Nat} {v0 v1 v2 : Value} {W : World}  (h : EJ b0 b1 o0 o1 o2 v0 v1 v2 W) : EJ b0 b1 o0 o1 o2 v0 v1 v2 W.drew := by
  skip
  exact ⟨h.1, h.2.1, h.2.2⟩
theorem EJ_out {b0 b1 o0 o1 o2 : Nat} {v0 v1 v2 : Value} {W : World} {u : World} {lo hi : Nat} (ho : Out lo hi W u) (hd : (b0 < lo ∨ hi ≤ b0) ∧ (b1 < lo ∨ hi ≤ b1)) (h : EJ b0 b1 o0 o1 o2 v0 v1 v2 W) : EJ b0 b1 o0 o1 o2 v0 v1 v2 u := by
  skip
  exact ⟨by rw [World.cell?_of_block (ho.block _ (World.block_lt_of_cell? _ _ (h.1)) (hd.1))]; exact h.1, by rw [World.cell?_of_block (ho.block _ (World.block_lt_of_cell? _ _ (h.2.1)) (hd.2))]; exact h.2.1, by rw [World.cell?_of_block (ho.block _ (World.block_lt_of_cell? _ _ (h.2.2)) (hd.2))]; exact h.2.2⟩

theorem RowOr.monoS {w : World} {lo hi S S' n : Nat} {a : Option Addr} {l : List (Int × Int)} (h : RowOr w lo hi S a n l) (hs : S' ≤ S) : RowOr w lo hi S' a n l := by
  obtain ⟨h1, h0 | ⟨b, e, h2, h3⟩⟩ := h
  · exact ⟨h1, .inl h0⟩
  · exact ⟨h1, .inr ⟨b, e, by omega, h3⟩⟩
set_option linter.unusedSimpArgs false in
set_option maxRecDepth 20000 in
set_option maxHeartbeats 8000000 in
theorem l4cases_succ (a0 a1 a2 a3 : Option Addr) (k0 k1 k2 c0 c1 c2 c3 : Nat) (l3 : List (Int × Int)) (k i : Nat) (b0 b1 b2 b3 : Option Addr) (e0 e1 e2 e3 : Nat) (d0 d1 d2 d3 : List (Int × Int)) (w : World) (hi : i + (k + 1) = l3.length)
    (g3 : l3.length ≤ 6) (h0 : d0.length + (k + 1) ≤ 12) (h1 : d1.length + (k + 1) ≤ 12) (h2 : d2.length ≤ 6) (h3 : d3.length + (k + 1) ≤ 6)
    (t0 : toks d0 = true) (t1 : toks d1 = true) (t2 : toks d2 = true) (t3 : toks d3 = true) (ts : toks l3 = true) (lo : Nat) (hlo : lo ≤ w.heap.size) (T : Seen w lo w.heap.size b0 b1 b2 b3 d0.length d1.length d2.length d3.length d0 d1 d2 d3) (rs : PRow w a3 l3)
    (ih : ∀ (b0 b1 b2 b3 : Option Addr) (e0 e1 e2 e3 : Nat) (d0 d1 d2 d3 : List (Int × Int)) (w : World), d0.length + k ≤ 12 → d1.length + k ≤ 12 → d2.length ≤ 6 → d3.length + k ≤ 6 → toks d0 = true → toks d1 = true → toks d2 = true → toks d3 = true → ∀ (lo : Nat), lo ≤ w.heap.size → Seen w lo w.heap.size b0 b1 b2 b3 d0.length d1.length d2.length d3.length d0 d1 d2 d3 → PRow w a3 l3 → Calls Try.prog 221 #[.agg #[.slice a0 k0 c0, .slice a1 k1 c1, .slice a2 k2 c2, .slice a3 l3.length c3], .int .i64 ((i : Int) + 1), .agg #[.slice b0 d0.length e0, .slice b1 d1.length e1, .slice b2 d2.length e2, .slice b3 d3.length e3]] w (CPost w lo (casesV d2 (l3.drop (i + 1)) d0 d1 d3))) :
    Calls Try.prog 221 #[.agg #[.slice a0 k0 c0, .slice a1 k1 c1, .slice a2 k2 c2, .slice a3 l3.length c3], .int .i64 i, .agg #[.slice b0 d0.length e0, .slice b1 d1.length e1, .slice b2 d2.length e2, .slice b3 d3.length e3]] w (CPost w lo (casesV d2 (l3.drop i) d0 d1 d3)) := by
  have A0 := (Box.new w (.slice a0 k0 c0) (.slice a1 k1 c1) (.slice a2 k2 c2) (.slice a3 l3.length c3) 28).alloc (.cells #[.slice b0 d0.length e0, .slice b1 d1.length e1, .slice b2 d2.length e2, .slice b3 d3.length e3] 28)
  have D0 := Box.new (w.alloc (.cells #[.slice a0 k0 c0, .slice a1 k1 c1, .slice a2 k2 c2, .slice a3 l3.length c3] 28)) (.slice b0 d0.length e0) (.slice b1 d1.length e1) (.slice b2 d2.length e2) (.slice b3 d3.length e3) 28
  have L0 : Below w.heap.size w ((w.alloc (.cells #[.slice a0 k0 c0, .slice a1 k1 c1, .slice a2 k2 c2, .slice a3 l3.length c3] 28)).alloc (.cells #[.slice b0 d0.length e0, .slice b1 d1.length e1, .slice b2 d2.length e2, .slice b3 d3.length e3] 28)) := ((Below.refl _ _).alloc (Nat.le_refl _) _).alloc (by simp) _
  rw [World.size_alloc] at D0
  have A0c3 := A0.c3
  obtain ⟨bS, oS, rfl, zbS, hS⟩ : ∃ b off, a3 = some ⟨b, off, none⟩ ∧ b < w.heap.size ∧ (w.cell? ⟨b, off + i * 2, none⟩ = some (.int .i64 (l3.getD i (0, 0)).1) ∧ w.cell? ⟨b, off + i * 2 + 1, none⟩ = some (.int .i64 (l3.getD i (0, 0)).2)) := by
    rcases rs with h | ⟨b, off, h, h1, h2⟩
    · rw [h] at hi; simp at hi
    · exact ⟨b, off, h, h1, h2 i (by omega)⟩
  obtain ⟨⟨sx, sy⟩, HSG⟩ : ∃ s, Hid (l3.getD i (0, 0) = s) := ⟨_, rfl⟩
  have tsg : toks [(sx, sy)] = true := by rw [← HSG.out]; exact toks_one ts (by omega)
  rw [HSG.out] at hS
  dsimp only at hS
  have hne : ¬ ((i : Int) = (l3.length : Int)) := by omega
  have hil : (i : Int) < (l3.length : Int) := by omega
  have hi0' : (0 : Int) ≤ (i : Int) := by omega
  go_enter Try.func221, Try.ntmps221
  go_upto_region 5 with fail
  clear A0c3
  replace T := T.below L0 (Nat.le_refl _)
  have zw1 := L0.size
  generalize ((w.alloc (.cells #[.slice a0 k0 c0, .slice a1 k1 c1, .slice a2 k2 c2, .slice (some ⟨bS, oS, none⟩) l3.length c3] 28)).alloc (.cells #[.slice b0 d0.length e0, .slice b1 d1.length e1, .slice b2 d2.length e2, .slice b3 d3.length e3] 28)) = w1 at *
  have D0c0 := D0.c0; have D0c1 := D0.c1; have D0c2 := D0.c2; have D0c3 := D0.c3
  go_wp2_with fail
  clear D0c0 D0c1 D0c2 D0c3
  refine (l1owno_any b0 b1 b2 b3 e0 e1 e2 e3 d0 d1 d2 d3 _ (by omega) (by omega) (by omega) (by omega) T.1.row T.2.1.row T.2.2.1.row T.2.2.2.row).mono ?_
  rintro e u5 ⟨s0, s1, s2, s3, f0, f1, f2, f3, m1, m2, m3, m4, rfl, T0, T1, T2, T3, gm1, gm2, gm3, gm4, gm5, hb⟩
  have zu5 := hb.size
  replace A0 := A0.below hb A0.lt; replace D0 := D0.below hb D0.lt; replace L0 := L0.trans (hb.mono L0.size); replace T := T.below hb (by omega)
  clear hb
  have XZ := Box.new u5 (.slice s0 d0.length f0) (.slice s1 d1.length f1) (.slice s2 d2.length f2) (.slice s3 d3.length f3) 28
  have al : Below u5.heap.size u5 (u5.alloc (.cells #[.slice s0 d0.length f0, .slice s1 d1.length f1, .slice s2 d2.length f2, .slice s3 d3.length f3] 28)) := (Below.refl _ _).alloc (Nat.le_refl _) _
  have yu5 : (u5.alloc (.cells #[.slice s0 d0.length f0, .slice s1 d1.length f1, .slice s2 d2.length f2, .slice s3 d3.length f3] 28)).heap.size = u5.heap.size + 1 := by simp
  replace A0 := A0.below al A0.lt; replace D0 := D0.below al D0.lt; replace L0 := L0.trans (al.mono L0.size); replace T := T.below al (by omega)
  replace T0 := T0.below al (by omega); replace T1 := T1.below al (by omega); replace T2 := T2.below al (by omega); replace T3 := T3.below al (by omega)
  clear al
  go_upto_region 6 with fail
  generalize hZ : u5.heap.size = Z at *
  clear hZ
  generalize u5.alloc (.cells #[.slice s0 d0.length f0, .slice s1 d1.length f1, .slice s2 d2.length f2, .slice s3 d3.length f3] 28) = w6 at *
  have yZ : Z + 1 ≤ w6.heap.size := by omega
  clear yu5
  have A0c3 := A0.c3
  have hq1 := (L0.cell (p := ⟨bS, oS + i * 2, none⟩) zbS).trans hS.1
  have hq2 := (L0.cell (p := ⟨bS, oS + i * 2 + 1, none⟩) zbS).trans hS.2
  have zA := A0.lt
  have zX := XZ.lt
  have zw := L0.size
  have hS1 : EJ w.heap.size bS 3 (oS + i * 2) (oS + i * 2 + 1) (.slice (some ⟨bS, oS, none⟩) l3.length c3) (.int .i64 sx) (.int .i64 sy) w6 := ⟨A0c3, hq1, hq2⟩
  have hS0 := EJ_ad hS1
  have hzz : (w.heap.size < (w1.heap.size + 2) ∨ m1 ≤ w.heap.size) ∧ (bS < (w1.heap.size + 2) ∨ m1 ≤ bS) := by omega
  have hzn : (w.heap.size < Z ∨ Z + 1 ≤ w.heap.size) ∧ (bS < Z ∨ Z + 1 ≤ bS) := by omega
  have xZ' := XZ.c0; have xfZ' := XZ.f0
  clear A0c3 hq1 hq2
  go_cut [] (fun wz => ∃ uE pE qE, wz = uE.setCell ⟨Z, 0, none⟩ (.slice pE (d0.length + 1) qE) ∧ RowOr uE (w1.heap.size + 2) m1 w6.heap.size pE (d0.length + 1) (d0 ++ [(sx, sy)]) ∧ Out (w1.heap.size + 2) m1 w6 uE)
  case first =>
    refine wp_region_held_drew (S := fun W => W.cell? ⟨w.heap.size, 3, none⟩ = some (.slice (some ⟨bS, oS, none⟩) l3.length c3) ∧ W.cell? ⟨bS, oS + i * 2, none⟩ = some (.int .i64 sx) ∧ W.cell? ⟨bS, oS + i * 2 + 1, none⟩ = some (.int .i64 sy)) (by kernel_rfl) hS0 (fun _ => ?_)
    refine wpAnyH_take (i := 0) (v := .pointer (some ⟨Z, 0, none⟩)) rfl (by kernel_rfl) (by kernel_rfl) (by kernel_rfl) (fun _ _ _ h => h) (Or.inl ⟨by rfl, ?_⟩) hS0 ?_
    · intro w2 hSw; go_simp
    try simp only [Act.put, List.setIfInBounds_toArray, List.set_cons_zero, List.set_cons_succ]
    refine wpAnyH_take (i := 2) (v := .pointer (some ⟨w.heap.size, 3, none⟩)) rfl (by kernel_rfl) (by kernel_rfl) (by kernel_rfl) (fun _ _ _ h => h) (Or.inl ⟨by rfl, ?_⟩) hS0 ?_
    · intro w2 hSw; go_simp
    try simp only [Act.put, List.setIfInBounds_toArray, List.set_cons_zero, List.set_cons_succ]
    refine wpAnyH_take (i := 3) (v := .slice (some ⟨bS, oS, none⟩) l3.length c3) rfl (by kernel_rfl) (by kernel_rfl) (by kernel_rfl) (fun _ _ _ h => h) (Or.inl ⟨by rfl, ?_⟩) hS0 ?_
    · intro w2 hSw; go_simp
    try simp only [Act.put, List.setIfInBounds_toArray, List.set_cons_zero, List.set_cons_succ]
    refine wpAnyH_take (i := 4) (v := .int .i64 (i : Int)) rfl (by kernel_rfl) (by kernel_rfl) (by kernel_rfl) (fun _ _ _ h => h) (Or.inl ⟨by rfl, ?_⟩) hS0 ?_
    · intro w2 hSw; go_simp
    try simp only [Act.put, List.setIfInBounds_toArray, List.set_cons_zero, List.set_cons_succ]
    refine wpAnyH_take (i := 5) (v := .pointer (some ⟨bS, oS + i * 2, none⟩)) rfl (by kernel_rfl) (by kernel_rfl) (by kernel_rfl) (fun _ _ _ h => h) (Or.inl ⟨by rfl, ?_⟩) hS0 ?_
    · intro w2 hSw; go_simp
    try simp only [Act.put, List.setIfInBounds_toArray, List.set_cons_zero, List.set_cons_succ]
    refine wpAnyH_take (i := 6) (v := .agg #[.int .i64 sx, .int .i64 sy]) rfl (by kernel_rfl) (by kernel_rfl) (by kernel_rfl) (fun _ _ _ h => h) (Or.inl ⟨by rfl, ?_⟩) hS0 ?_
    · intro w2 hSw; go_simp
    try simp only [Act.put, List.setIfInBounds_toArray, List.set_cons_zero, List.set_cons_succ]
    refine wpAnyH_ready (rs := [1, 7]) (by kernel_rfl) (by simp) ?_
    refine AllReadyH.cons (o := { dst := some 23, op := Op.load 26 (Operand.tmp 22), type := 26, pos := "l04_cases.go:14", after := #[{ on := 0, ground := Ground.data }], guard := none }) rfl (fun K hK' => ?_) (AllReadyH.cons (o := { dst := some 29, op := Op.buildSlice 26 1 #[(0, Operand.tmp 28)], type := 26, pos := "l04_cases.go:14", after := #[{ on := 6, ground := Ground.data }], guard := none }) rfl (fun K hK' => ?_) AllReadyH.nil)
    · rw [if_pos (by rfl)]
      go_simp
      refine hK'.out _ _ hS0 (fun _ => ?_)
      clear hK' K
      refine wpAnyH_ready (rs := [7]) (by kernel_rfl) (by simp) ?_
      refine AllReadyH.cons (o := { dst := some 29, op := Op.buildSlice 26 1 #[(0, Operand.tmp 28)], type := 26, pos := "l04_cases.go:14", after := #[{ on := 6, ground := Ground.data }], guard := none }) rfl (fun K hK' => ?_) AllReadyH.nil
      rw [if_pos (by rfl)]
      go_simp
      refine hK'.out _ _ (by first | exact EJ_ad (EJ_al _ hS1) | exact EJ_al _ hS0) (fun _ => ?_)
      clear hK' K
      refine wpAnyH_ready (rs := [8]) (by kernel_rfl) (by simp) ?_
      refine AllReadyH.cons (o := { dst := some 30, op := Op.call { callee := Callee.builtin Builtin.append, args := #[Operand.tmp 23, Operand.tmp 29], argTypes := #[26, 26] }, type := 26, pos := "l04_cases.go:14", after := #[{ on := 1, ground := Ground.data }, { on := 7, ground := Ground.data }], guard := none }) rfl (fun K hK' => ?_) AllReadyH.nil
      refine step_roomP (by rfl) _ _ (by rfl) (w1.heap.size + 2) m1 s0 d0.length f0 d0 (by rfl) (T0.below (B := w6.heap.size) (by repeat (first | exact Below.refl _ _ | exact (Below.refl _ _).drew | apply Below.drew | (refine Below.alloc ?_ (by first | exact Nat.le_refl _ | (simp; done) | (simp; omega)) _))) (by omega)) ⟨w6.heap.size, 0, none⟩ 1 1 [(sx, sy)] (by rfl) rfl (by first | exact (own_pair _ _ _).row | exact (own_pair _ _ _).drew.row | exact (own_pair _ _ _).row) (by omega) (by first | omega | (simp; omega)) ?_
      intro pE qE uE rE hE
      have kb := (Out.ofBelow (lo := (w1.heap.size + 2)) (hi := m1) (w := w6) (by repeat (first | exact Below.refl _ _ | exact (Below.refl _ _).drew | apply Below.drew | (refine Below.alloc ?_ (by first | exact Nat.le_refl _ | (simp; done) | (simp; omega)) _)))).trans hE
      have bx := XZ.out kb (by omega)
      have bxc := bx.c0; have bxf := bx.f0
      have k1 := EJ_out kb hzz hS1
      refine hK'.out _ _ k1 (fun _ => ?_)
      clear hK' K
      refine wpAnyH_take (i := 9) (v := .pointer (some ⟨Z, 0, none⟩)) rfl (by kernel_rfl) (by kernel_rfl) (by kernel_rfl) (fun _ _ _ h => h) (Or.inl ⟨by rfl, ?_⟩) k1 ?_
      · intro w2 hSw; go_simp
      try simp only [Act.put, List.setIfInBounds_toArray, List.set_cons_zero, List.set_cons_succ]
      refine wpAnyH_ready (rs := [10]) (by kernel_rfl) (by simp) ?_
      refine AllReadyH.cons (o := { dst := none, op := Op.store 26 (Operand.tmp 31) (Operand.tmp 30), type := 0, pos := "l04_cases.go:14", after := #[{ on := 9, ground := Ground.data }, { on := 8, ground := Ground.data }, { on := 8, ground := Ground.chain }, { on := 0, ground := Ground.phase }, { on := 1, ground := Ground.phase }, { on := 2, ground := Ground.phase }, { on := 3, ground := Ground.phase }, { on := 4, ground := Ground.phase }, { on := 5, ground := Ground.phase }, { on := 6, ground := Ground.phase }, { on := 7, ground := Ground.phase }, { on := 8, ground := Ground.phase }], guard := none }) rfl (fun K hK' => ?_) AllReadyH.nil
      rw [if_pos (by rfl)]
      go_simp
      refine hK'.out _ _ (EJ_out (Out.set Z 0 uE _) hzn k1) (fun _ => ?_)
      clear hK' K
      refine wpAnyH_done (by kernel_rfl) ?_ _
      try simp only [List.getElem_toArray, List.getElem_cons_succ, List.getElem_cons_zero, Act.put, List.setIfInBounds_toArray, List.set_cons_zero, List.set_cons_succ]
      go_wp2_with fail
      go_meet
      exact ⟨uE, pE, qE, rfl, rE.monoS (by first | exact Nat.le_refl _ | (simp; done) | (simp; omega)), kb⟩
    · rw [if_pos (by rfl)]
      go_simp
      refine hK'.out _ _ (by first | exact EJ_ad (EJ_al _ hS1) | exact EJ_al _ hS0) (fun _ => ?_)
      clear hK' K
      refine wpAnyH_ready (rs := [1]) (by kernel_rfl) (by simp) ?_
      refine AllReadyH.cons (o := { dst := some 23, op := Op.load 26 (Operand.tmp 22), type := 26, pos := "l04_cases.go:14", after := #[{ on := 0, ground := Ground.data }], guard := none }) rfl (fun K hK' => ?_) AllReadyH.nil
      rw [if_pos (by rfl)]
      go_simp
      refine hK'.out _ _ (by first | exact EJ_ad (EJ_al _ hS1) | exact EJ_al _ hS0) (fun _ => ?_)
      clear hK' K
      refine wpAnyH_ready (rs := [8]) (by kernel_rfl) (by simp) ?_
      refine AllReadyH.cons (o := { dst := some 30, op := Op.call { callee := Callee.builtin Builtin.append, args := #[Operand.tmp 23, Operand.tmp 29], argTypes := #[26, 26] }, type := 26, pos := "l04_cases.go:14", after := #[{ on := 1, ground := Ground.data }, { on := 7, ground := Ground.data }], guard := none }) rfl (fun K hK' => ?_) AllReadyH.nil
      refine step_roomP (by rfl) _ _ (by rfl) (w1.heap.size + 2) m1 s0 d0.length f0 d0 (by rfl) (T0.below (B := w6.heap.size) (by repeat (first | exact Below.refl _ _ | exact (Below.refl _ _).drew | apply Below.drew | (refine Below.alloc ?_ (by first | exact Nat.le_refl _ | (simp; done) | (simp; omega)) _))) (by omega)) ⟨w6.heap.size, 0, none⟩ 1 1 [(sx, sy)] (by rfl) rfl (by first | exact (own_pair _ _ _).row | exact (own_pair _ _ _).drew.row | exact (own_pair _ _ _).row) (by omega) (by first | omega | (simp; omega)) ?_
      intro pE qE uE rE hE
      have kb := (Out.ofBelow (lo := (w1.heap.size + 2)) (hi := m1) (w := w6) (by repeat (first | exact Below.refl _ _ | exact (Below.refl _ _).drew | apply Below.drew | (refine Below.alloc ?_ (by first | exact Nat.le_refl _ | (simp; done) | (simp; omega)) _)))).trans hE
      have bx := XZ.out kb (by omega)
      have bxc := bx.c0; have bxf := bx.f0
      have k1 := EJ_out kb hzz hS1
      refine hK'.out _ _ k1 (fun _ => ?_)
      clear hK' K
      refine wpAnyH_take (i := 9) (v := .pointer (some ⟨Z, 0, none⟩)) rfl (by kernel_rfl) (by kernel_rfl) (by kernel_rfl) (fun _ _ _ h => h) (Or.inl ⟨by rfl, ?_⟩) k1 ?_
      · intro w2 hSw; go_simp
      try simp only [Act.put, List.setIfInBounds_toArray, List.set_cons_zero, List.set_cons_succ]
      refine wpAnyH_ready (rs := [10]) (by kernel_rfl) (by simp) ?_
      refine AllReadyH.cons (o := { dst := none, op := Op.store 26 (Operand.tmp 31) (Operand.tmp 30), type := 0, pos := "l04_cases.go:14", after := #[{ on := 9, ground := Ground.data }, { on := 8, ground := Ground.data }, { on := 8, ground := Ground.chain }, { on := 0, ground := Ground.phase }, { on := 1, ground := Ground.phase }, { on := 2, ground := Ground.phase }, { on := 3, ground := Ground.phase }, { on := 4, ground := Ground.phase }, { on := 5, ground := Ground.phase }, { on := 6, ground := Ground.phase }, { on := 7, ground := Ground.phase }, { on := 8, ground := Ground.phase }], guard := none }) rfl (fun K hK' => ?_) AllReadyH.nil
      rw [if_pos (by rfl)]
      go_simp
      refine hK'.out _ _ (EJ_out (Out.set Z 0 uE _) hzn k1) (fun _ => ?_)
      clear hK' K
      refine wpAnyH_done (by kernel_rfl) ?_ _
      try simp only [List.getElem_toArray, List.getElem_cons_succ, List.getElem_cons_zero, Act.put, List.setIfInBounds_toArray, List.set_cons_zero, List.set_cons_succ]
      go_wp2_with fail
      go_meet
      exact ⟨uE, pE, qE, rfl, rE.monoS (by first | exact Nat.le_refl _ | (simp; done) | (simp; omega)), kb⟩
  case rest =>
    obtain ⟨uE, pE, qE, rfl, rE, hF⟩ := hcut
    clear hS0 hS1 xZ' xfZ'
    clear T0
    replace A0 := A0.out hF (by omega); replace D0 := D0.out hF (by omega); replace L0 := L0.trans (hF.below (by omega) L0.size); replace T := T.out hF (by omega)
    replace T1 := T1.out hF (by omega); replace T2 := T2.out hF (by omega); replace T3 := T3.out hF (by omega); replace XZ := XZ.out hF (by omega)
    have hF1 := hF.size
    have hs := Out.set Z 0 uE (.slice pE (d0.length + 1) qE)
    replace rE := rE.out hs (by omega) (by omega)
    have zrE : (w1.heap.size + 2) ≤ w6.heap.size := by omega
    replace A0 := A0.out hs (by omega); replace D0 := D0.out hs (by omega); replace L0 := L0.trans (hs.below (by omega) L0.size); replace T := T.out hs (by omega)
    replace T1 := T1.out hs (by omega); replace T2 := T2.out hs (by omega); replace T3 := T3.out hs (by omega)
    replace XZ := XZ.set0 (.slice pE (d0.length + 1) qE)
    clear hF
    have hs1 := hs.size
    clear hs
    generalize uE.setCell ⟨Z, 0, none⟩ (.slice pE (d0.length + 1) qE) = w7 at *
    have zzE : w6.heap.size ≤ w7.heap.size := Nat.le_trans hF1 hs1
    clear hF1 hs1
    have RE := rE.row (B := w1.heap.size + 2) (Nat.le_refl _) (by omega)
    have zw7 : w1.heap.size + 2 ≤ w7.heap.size := by omega
    clear rE
    go_upto_region 7 with fail
    have D0c0 := D0.c0; have D0c1 := D0.c1; have D0c2 := D0.c2; have D0c3 := D0.c3
    go_wp2_with fail
    clear D0c0 D0c1 D0c2 D0c3
    refine (l1owno_any b0 b1 b2 b3 e0 e1 e2 e3 d0 d1 d2 d3 _ (by omega) (by omega) (by omega) (by omega) T.1.row T.2.1.row T.2.2.1.row T.2.2.2.row).mono ?_
    rintro e u8 ⟨y0, y1, y2, y3, j0, j1, j2, j3, n1, n2, n3, n4, rfl, U0, U1, U2, U3, gn1, gn2, gn3, gn4, gn5, hb⟩
    have zu8 := hb.size
    replace A0 := A0.below hb A0.lt; replace D0 := D0.below hb D0.lt; replace L0 := L0.trans (hb.mono L0.size); replace T := T.below hb (by omega)
    replace T1 := T1.below hb (by omega); replace T2 := T2.below hb (by omega); replace T3 := T3.below hb (by omega); replace XZ := XZ.below hb XZ.lt
    replace RE := RE.below hb (by omega)
    clear hb
    have XY := Box.new u8 (.slice y0 d0.length j0) (.slice y1 d1.length j1) (.slice y2 d2.length j2) (.slice y3 d3.length j3) 28
    have al : Below u8.heap.size u8 (u8.alloc (.cells #[.slice y0 d0.length j0, .slice y1 d1.length j1, .slice y2 d2.length j2, .slice y3 d3.length j3] 28)) := (Below.refl _ _).alloc (Nat.le_refl _) _
    have yu8 : (u8.alloc (.cells #[.slice y0 d0.length j0, .slice y1 d1.length j1, .slice y2 d2.length j2, .slice y3 d3.length j3] 28)).heap.size = u8.heap.size + 1 := by simp
    replace A0 := A0.below al A0.lt; replace D0 := D0.below al D0.lt; replace L0 := L0.trans (al.mono L0.size); replace T := T.below al (by omega)
    replace T1 := T1.below al (by omega); replace T2 := T2.below al (by omega); replace T3 := T3.below al (by omega); replace XZ := XZ.below al XZ.lt
    replace RE := RE.below al (by omega); replace U0 := U0.below al (by omega); replace U1 := U1.below al (by omega); replace U2 := U2.below al (by omega)
    replace U3 := U3.below al (by omega)
    clear al
    go_upto_region 8 with fail
    generalize hY : u8.heap.size = Y at *
    clear hY
    generalize u8.alloc (.cells #[.slice y0 d0.length j0, .slice y1 d1.length j1, .slice y2 d2.length j2, .slice y3 d3.length j3] 28) = w9 at *
    have yY : Y + 1 ≤ w9.heap.size := by omega
    clear yu8
    have A0c3 := A0.c3
    have hq1 := (L0.cell (p := ⟨bS, oS + i * 2, none⟩) zbS).trans hS.1
    have hq2 := (L0.cell (p := ⟨bS, oS + i * 2 + 1, none⟩) zbS).trans hS.2
    have zA := A0.lt
    have zX := XY.lt
    have zw := L0.size
    have hS1 : EJ w.heap.size bS 3 (oS + i * 2) (oS + i * 2 + 1) (.slice (some ⟨bS, oS, none⟩) l3.length c3) (.int .i64 sx) (.int .i64 sy) w9 := ⟨A0c3, hq1, hq2⟩
    have hS0 := EJ_ad hS1
    have hzz : (w.heap.size < n1 ∨ n2 ≤ w.heap.size) ∧ (bS < n1 ∨ n2 ≤ bS) := by omega
    have hzn : (w.heap.size < Y ∨ Y + 1 ≤ w.heap.size) ∧ (bS < Y ∨ Y + 1 ≤ bS) := by omega
    have xY' := XY.c1; have xfY' := XY.f1
    clear A0c3 hq1 hq2
    go_cut [] (fun wz => ∃ uE pE qE, wz = uE.setCell ⟨Y, 1, none⟩ (.slice pE (d1.length + 1) qE) ∧ RowOr uE n1 n2 w9.heap.size pE (d1.length + 1) (d1 ++ [(sx, sy)]) ∧ Out n1 n2 w9 uE)
    case first =>
      refine wp_region_held_drew (S := fun W => W.cell? ⟨w.heap.size, 3, none⟩ = some (.slice (some ⟨bS, oS, none⟩) l3.length c3) ∧ W.cell? ⟨bS, oS + i * 2, none⟩ = some (.int .i64 sx) ∧ W.cell? ⟨bS, oS + i * 2 + 1, none⟩ = some (.int .i64 sy)) (by kernel_rfl) hS0 (fun _ => ?_)
      refine wpAnyH_take (i := 0) (v := .pointer (some ⟨Y, 1, none⟩)) rfl (by kernel_rfl) (by kernel_rfl) (by kernel_rfl) (fun _ _ _ h => h) (Or.inl ⟨by rfl, ?_⟩) hS0 ?_
      · intro w2 hSw; go_simp
      try simp only [Act.put, List.setIfInBounds_toArray, List.set_cons_zero, List.set_cons_succ]
      refine wpAnyH_take (i := 2) (v := .pointer (some ⟨w.heap.size, 3, none⟩)) rfl (by kernel_rfl) (by kernel_rfl) (by kernel_rfl) (fun _ _ _ h => h) (Or.inl ⟨by rfl, ?_⟩) hS0 ?_
      · intro w2 hSw; go_simp
      try simp only [Act.put, List.setIfInBounds_toArray, List.set_cons_zero, List.set_cons_succ]
      refine wpAnyH_take (i := 3) (v := .slice (some ⟨bS, oS, none⟩) l3.length c3) rfl (by kernel_rfl) (by kernel_rfl) (by kernel_rfl) (fun _ _ _ h => h) (Or.inl ⟨by rfl, ?_⟩) hS0 ?_
      · intro w2 hSw; go_simp
      try simp only [Act.put, List.setIfInBounds_toArray, List.set_cons_zero, List.set_cons_succ]
      refine wpAnyH_take (i := 4) (v := .int .i64 (i : Int)) rfl (by kernel_rfl) (by kernel_rfl) (by kernel_rfl) (fun _ _ _ h => h) (Or.inl ⟨by rfl, ?_⟩) hS0 ?_
      · intro w2 hSw; go_simp
      try simp only [Act.put, List.setIfInBounds_toArray, List.set_cons_zero, List.set_cons_succ]
      refine wpAnyH_take (i := 5) (v := .pointer (some ⟨bS, oS + i * 2, none⟩)) rfl (by kernel_rfl) (by kernel_rfl) (by kernel_rfl) (fun _ _ _ h => h) (Or.inl ⟨by rfl, ?_⟩) hS0 ?_
      · intro w2 hSw; go_simp
      try simp only [Act.put, List.setIfInBounds_toArray, List.set_cons_zero, List.set_cons_succ]
      refine wpAnyH_take (i := 6) (v := .agg #[.int .i64 sx, .int .i64 sy]) rfl (by kernel_rfl) (by kernel_rfl) (by kernel_rfl) (fun _ _ _ h => h) (Or.inl ⟨by rfl, ?_⟩) hS0 ?_
      · intro w2 hSw; go_simp
      try simp only [Act.put, List.setIfInBounds_toArray, List.set_cons_zero, List.set_cons_succ]
      refine wpAnyH_ready (rs := [1, 7]) (by kernel_rfl) (by simp) ?_
      refine AllReadyH.cons (o := { dst := some 35, op := Op.load 26 (Operand.tmp 34), type := 26, pos := "l04_cases.go:16", after := #[{ on := 0, ground := Ground.data }], guard := none }) rfl (fun K hK' => ?_) (AllReadyH.cons (o := { dst := some 41, op := Op.buildSlice 26 1 #[(0, Operand.tmp 40)], type := 26, pos := "l04_cases.go:16", after := #[{ on := 6, ground := Ground.data }], guard := none }) rfl (fun K hK' => ?_) AllReadyH.nil)
      · rw [if_pos (by rfl)]
        go_simp
        refine hK'.out _ _ hS0 (fun _ => ?_)
        clear hK' K
        refine wpAnyH_ready (rs := [7]) (by kernel_rfl) (by simp) ?_
        refine AllReadyH.cons (o := { dst := some 41, op := Op.buildSlice 26 1 #[(0, Operand.tmp 40)], type := 26, pos := "l04_cases.go:16", after := #[{ on := 6, ground := Ground.data }], guard := none }) rfl (fun K hK' => ?_) AllReadyH.nil
        rw [if_pos (by rfl)]
        go_simp
        refine hK'.out _ _ (by first | exact EJ_ad (EJ_al _ hS1) | exact EJ_al _ hS0) (fun _ => ?_)
        clear hK' K
        refine wpAnyH_ready (rs := [8]) (by kernel_rfl) (by simp) ?_
        refine AllReadyH.cons (o := { dst := some 42, op := Op.call { callee := Callee.builtin Builtin.append, args := #[Operand.tmp 35, Operand.tmp 41], argTypes := #[26, 26] }, type := 26, pos := "l04_cases.go:16", after := #[{ on := 1, ground := Ground.data }, { on := 7, ground := Ground.data }], guard := none }) rfl (fun K hK' => ?_) AllReadyH.nil
        refine step_roomP (by rfl) _ _ (by rfl) n1 n2 y1 d1.length j1 d1 (by rfl) (U1.below (B := w9.heap.size) (by repeat (first | exact Below.refl _ _ | exact (Below.refl _ _).drew | apply Below.drew | (refine Below.alloc ?_ (by first | exact Nat.le_refl _ | (simp; done) | (simp; omega)) _))) (by omega)) ⟨w9.heap.size, 0, none⟩ 1 1 [(sx, sy)] (by rfl) rfl (by first | exact (own_pair _ _ _).row | exact (own_pair _ _ _).drew.row | exact (own_pair _ _ _).row) (by omega) (by first | omega | (simp; omega)) ?_
        intro pE qE uE rE hE
        have kb := (Out.ofBelow (lo := n1) (hi := n2) (w := w9) (by repeat (first | exact Below.refl _ _ | exact (Below.refl _ _).drew | apply Below.drew | (refine Below.alloc ?_ (by first | exact Nat.le_refl _ | (simp; done) | (simp; omega)) _)))).trans hE
        have bx := XY.out kb (by omega)
        have bxc := bx.c1; have bxf := bx.f1
        have k1 := EJ_out kb hzz hS1
        refine hK'.out _ _ k1 (fun _ => ?_)
        clear hK' K
        refine wpAnyH_take (i := 9) (v := .pointer (some ⟨Y, 1, none⟩)) rfl (by kernel_rfl) (by kernel_rfl) (by kernel_rfl) (fun _ _ _ h => h) (Or.inl ⟨by rfl, ?_⟩) k1 ?_
        · intro w2 hSw; go_simp
        try simp only [Act.put, List.setIfInBounds_toArray, List.set_cons_zero, List.set_cons_succ]
        refine wpAnyH_ready (rs := [10]) (by kernel_rfl) (by simp) ?_
        refine AllReadyH.cons (o := { dst := none, op := Op.store 26 (Operand.tmp 43) (Operand.tmp 42), type := 0, pos := "l04_cases.go:16", after := #[{ on := 9, ground := Ground.data }, { on := 8, ground := Ground.data }, { on := 8, ground := Ground.chain }, { on := 0, ground := Ground.phase }, { on := 1, ground := Ground.phase }, { on := 2, ground := Ground.phase }, { on := 3, ground := Ground.phase }, { on := 4, ground := Ground.phase }, { on := 5, ground := Ground.phase }, { on := 6, ground := Ground.phase }, { on := 7, ground := Ground.phase }, { on := 8, ground := Ground.phase }], guard := none }) rfl (fun K hK' => ?_) AllReadyH.nil
        rw [if_pos (by rfl)]
        go_simp
        refine hK'.out _ _ (EJ_out (Out.set Y 1 uE _) hzn k1) (fun _ => ?_)
        clear hK' K
        refine wpAnyH_done (by kernel_rfl) ?_ _
        try simp only [List.getElem_toArray, List.getElem_cons_succ, List.getElem_cons_zero, Act.put, List.setIfInBounds_toArray, List.set_cons_zero, List.set_cons_succ]
        go_wp2_with fail
        go_meet
        exact ⟨uE, pE, qE, rfl, rE.monoS (by first | exact Nat.le_refl _ | (simp; done) | (simp; omega)), kb⟩
      · rw [if_pos (by rfl)]
        go_simp
        refine hK'.out _ _ (by first | exact EJ_ad (EJ_al _ hS1) | exact EJ_al _ hS0) (fun _ => ?_)
        clear hK' K
        refine wpAnyH_ready (rs := [1]) (by kernel_rfl) (by simp) ?_
        refine AllReadyH.cons (o := { dst := some 35, op := Op.load 26 (Operand.tmp 34), type := 26, pos := "l04_cases.go:16", after := #[{ on := 0, ground := Ground.data }], guard := none }) rfl (fun K hK' => ?_) AllReadyH.nil
        rw [if_pos (by rfl)]
        go_simp
        refine hK'.out _ _ (by first | exact EJ_ad (EJ_al _ hS1) | exact EJ_al _ hS0) (fun _ => ?_)
        clear hK' K
        refine wpAnyH_ready (rs := [8]) (by kernel_rfl) (by simp) ?_
        refine AllReadyH.cons (o := { dst := some 42, op := Op.call { callee := Callee.builtin Builtin.append, args := #[Operand.tmp 35, Operand.tmp 41], argTypes := #[26, 26] }, type := 26, pos := "l04_cases.go:16", after := #[{ on := 1, ground := Ground.data }, { on := 7, ground := Ground.data }], guard := none }) rfl (fun K hK' => ?_) AllReadyH.nil
        refine step_roomP (by rfl) _ _ (by rfl) n1 n2 y1 d1.length j1 d1 (by rfl) (U1.below (B := w9.heap.size) (by repeat (first | exact Below.refl _ _ | exact (Below.refl _ _).drew | apply Below.drew | (refine Below.alloc ?_ (by first | exact Nat.le_refl _ | (simp; done) | (simp; omega)) _))) (by omega)) ⟨w9.heap.size, 0, none⟩ 1 1 [(sx, sy)] (by rfl) rfl (by first | exact (own_pair _ _ _).row | exact (own_pair _ _ _).drew.row | exact (own_pair _ _ _).row) (by omega) (by first | omega | (simp; omega)) ?_
        intro pE qE uE rE hE
        have kb := (Out.ofBelow (lo := n1) (hi := n2) (w := w9) (by repeat (first | exact Below.refl _ _ | exact (Below.refl _ _).drew | apply Below.drew | (refine Below.alloc ?_ (by first | exact Nat.le_refl _ | (simp; done) | (simp; omega)) _)))).trans hE
        have bx := XY.out kb (by omega)
        have bxc := bx.c1; have bxf := bx.f1
        have k1 := EJ_out kb hzz hS1
        refine hK'.out _ _ k1 (fun _ => ?_)
        clear hK' K
        refine wpAnyH_take (i := 9) (v := .pointer (some ⟨Y, 1, none⟩)) rfl (by kernel_rfl) (by kernel_rfl) (by kernel_rfl) (fun _ _ _ h => h) (Or.inl ⟨by rfl, ?_⟩) k1 ?_
        · intro w2 hSw; go_simp
        try simp only [Act.put, List.setIfInBounds_toArray, List.set_cons_zero, List.set_cons_succ]
        refine wpAnyH_ready (rs := [10]) (by kernel_rfl) (by simp) ?_
        refine AllReadyH.cons (o := { dst := none, op := Op.store 26 (Operand.tmp 43) (Operand.tmp 42), type := 0, pos := "l04_cases.go:16", after := #[{ on := 9, ground := Ground.data }, { on := 8, ground := Ground.data }, { on := 8, ground := Ground.chain }, { on := 0, ground := Ground.phase }, { on := 1, ground := Ground.phase }, { on := 2, ground := Ground.phase }, { on := 3, ground := Ground.phase }, { on := 4, ground := Ground.phase }, { on := 5, ground := Ground.phase }, { on := 6, ground := Ground.phase }, { on := 7, ground := Ground.phase }, { on := 8, ground := Ground.phase }], guard := none }) rfl (fun K hK' => ?_) AllReadyH.nil
        rw [if_pos (by rfl)]
        go_simp
        refine hK'.out _ _ (EJ_out (Out.set Y 1 uE _) hzn k1) (fun _ => ?_)
        clear hK' K
        refine wpAnyH_done (by kernel_rfl) ?_ _
        try simp only [List.getElem_toArray, List.getElem_cons_succ, List.getElem_cons_zero, Act.put, List.setIfInBounds_toArray, List.set_cons_zero, List.set_cons_succ]
        go_wp2_with fail
        go_meet
        exact ⟨uE, pE, qE, rfl, rE.monoS (by first | exact Nat.le_refl _ | (simp; done) | (simp; omega)), kb⟩
    case rest =>
      obtain ⟨uN, pN, qN, rfl, rN, hF⟩ := hcut
      clear hS0 hS1 xY' xfY'
      clear U1
      replace A0 := A0.out hF (by omega); replace D0 := D0.out hF (by omega); replace L0 := L0.trans (hF.below (by omega) L0.size); replace T := T.out hF (by omega)
      replace T1 := T1.out hF (by omega); replace T2 := T2.out hF (by omega); replace T3 := T3.out hF (by omega); replace XZ := XZ.out hF (by omega)
      replace RE := RE.out hF (by omega); replace U0 := U0.out hF (by omega); replace U2 := U2.out hF (by omega); replace U3 := U3.out hF (by omega)
      replace XY := XY.out hF (by omega)
      have hF1 := hF.size
      have hs := Out.set Y 1 uN (.slice pN (d1.length + 1) qN)
      replace rN := rN.out hs (by omega) (by omega)
      have zrN : n1 ≤ w9.heap.size := by omega
      replace A0 := A0.out hs (by omega); replace D0 := D0.out hs (by omega); replace L0 := L0.trans (hs.below (by omega) L0.size); replace T := T.out hs (by omega)
      replace T1 := T1.out hs (by omega); replace T2 := T2.out hs (by omega); replace T3 := T3.out hs (by omega); replace XZ := XZ.out hs (by omega)
      replace RE := RE.out hs (by omega); replace U0 := U0.out hs (by omega); replace U2 := U2.out hs (by omega); replace U3 := U3.out hs (by omega)
      replace XY := XY.set1 (.slice pN (d1.length + 1) qN)
      clear hF
      have hs1 := hs.size
      clear hs
      generalize uN.setCell ⟨Y, 1, none⟩ (.slice pN (d1.length + 1) qN) = w10 at *
      have zzN : w9.heap.size ≤ w10.heap.size := Nat.le_trans hF1 hs1
      clear hF1 hs1
      have zw10 : w9.heap.size ≤ w10.heap.size := by omega
      go_upto_region 9 with fail
      have A0c3 := A0.c3
      have hq1 := (L0.cell (p := ⟨bS, oS + i * 2, none⟩) zbS).trans hS.1
      have hq2 := (L0.cell (p := ⟨bS, oS + i * 2 + 1, none⟩) zbS).trans hS.2
      have zA := A0.lt
      have zX := XY.lt
      have zw := L0.size
      have hS1 : EJ w.heap.size bS 3 (oS + i * 2) (oS + i * 2 + 1) (.slice (some ⟨bS, oS, none⟩) l3.length c3) (.int .i64 sx) (.int .i64 sy) w10 := ⟨A0c3, hq1, hq2⟩
      have hS0 := EJ_ad hS1
      have hzz : (w.heap.size < n3 ∨ n4 ≤ w.heap.size) ∧ (bS < n3 ∨ n4 ≤ bS) := by omega
      have hzn : (w.heap.size < Y ∨ Y + 1 ≤ w.heap.size) ∧ (bS < Y ∨ Y + 1 ≤ bS) := by omega
      have xY' := XY.c3; have xfY' := XY.f3
      clear A0c3 hq1 hq2
      go_cut [] (fun wz => ∃ uE pE qE, wz = uE.setCell ⟨Y, 3, none⟩ (.slice pE (d3.length + 1) qE) ∧ RowOr uE n3 n4 w10.heap.size pE (d3.length + 1) (d3 ++ [(sx, sy)]) ∧ Out n3 n4 w10 uE)
      case first =>
        refine wp_region_held_drew (S := fun W => W.cell? ⟨w.heap.size, 3, none⟩ = some (.slice (some ⟨bS, oS, none⟩) l3.length c3) ∧ W.cell? ⟨bS, oS + i * 2, none⟩ = some (.int .i64 sx) ∧ W.cell? ⟨bS, oS + i * 2 + 1, none⟩ = some (.int .i64 sy)) (by kernel_rfl) hS0 (fun _ => ?_)
        refine wpAnyH_take (i := 0) (v := .pointer (some ⟨Y, 3, none⟩)) rfl (by kernel_rfl) (by kernel_rfl) (by kernel_rfl) (fun _ _ _ h => h) (Or.inl ⟨by rfl, ?_⟩) hS0 ?_
        · intro w2 hSw; go_simp
        try simp only [Act.put, List.setIfInBounds_toArray, List.set_cons_zero, List.set_cons_succ]
        refine wpAnyH_take (i := 2) (v := .pointer (some ⟨w.heap.size, 3, none⟩)) rfl (by kernel_rfl) (by kernel_rfl) (by kernel_rfl) (fun _ _ _ h => h) (Or.inl ⟨by rfl, ?_⟩) hS0 ?_
        · intro w2 hSw; go_simp
        try simp only [Act.put, List.setIfInBounds_toArray, List.set_cons_zero, List.set_cons_succ]
        refine wpAnyH_take (i := 3) (v := .slice (some ⟨bS, oS, none⟩) l3.length c3) rfl (by kernel_rfl) (by kernel_rfl) (by kernel_rfl) (fun _ _ _ h => h) (Or.inl ⟨by rfl, ?_⟩) hS0 ?_
        · intro w2 hSw; go_simp
        try simp only [Act.put, List.setIfInBounds_toArray, List.set_cons_zero, List.set_cons_succ]
        refine wpAnyH_take (i := 4) (v := .int .i64 (i : Int)) rfl (by kernel_rfl) (by kernel_rfl) (by kernel_rfl) (fun _ _ _ h => h) (Or.inl ⟨by rfl, ?_⟩) hS0 ?_
        · intro w2 hSw; go_simp
        try simp only [Act.put, List.setIfInBounds_toArray, List.set_cons_zero, List.set_cons_succ]
        refine wpAnyH_take (i := 5) (v := .pointer (some ⟨bS, oS + i * 2, none⟩)) rfl (by kernel_rfl) (by kernel_rfl) (by kernel_rfl) (fun _ _ _ h => h) (Or.inl ⟨by rfl, ?_⟩) hS0 ?_
        · intro w2 hSw; go_simp
        try simp only [Act.put, List.setIfInBounds_toArray, List.set_cons_zero, List.set_cons_succ]
        refine wpAnyH_take (i := 6) (v := .agg #[.int .i64 sx, .int .i64 sy]) rfl (by kernel_rfl) (by kernel_rfl) (by kernel_rfl) (fun _ _ _ h => h) (Or.inl ⟨by rfl, ?_⟩) hS0 ?_
        · intro w2 hSw; go_simp
        try simp only [Act.put, List.setIfInBounds_toArray, List.set_cons_zero, List.set_cons_succ]
        refine wpAnyH_ready (rs := [1, 7]) (by kernel_rfl) (by simp) ?_
        refine AllReadyH.cons (o := { dst := some 45, op := Op.load 26 (Operand.tmp 44), type := 26, pos := "l04_cases.go:17", after := #[{ on := 0, ground := Ground.data }], guard := none }) rfl (fun K hK' => ?_) (AllReadyH.cons (o := { dst := some 51, op := Op.buildSlice 26 1 #[(0, Operand.tmp 50)], type := 26, pos := "l04_cases.go:17", after := #[{ on := 6, ground := Ground.data }], guard := none }) rfl (fun K hK' => ?_) AllReadyH.nil)
        · rw [if_pos (by rfl)]
          go_simp
          refine hK'.out _ _ hS0 (fun _ => ?_)
          clear hK' K
          refine wpAnyH_ready (rs := [7]) (by kernel_rfl) (by simp) ?_
          refine AllReadyH.cons (o := { dst := some 51, op := Op.buildSlice 26 1 #[(0, Operand.tmp 50)], type := 26, pos := "l04_cases.go:17", after := #[{ on := 6, ground := Ground.data }], guard := none }) rfl (fun K hK' => ?_) AllReadyH.nil
          rw [if_pos (by rfl)]
          go_simp
          refine hK'.out _ _ (by first | exact EJ_ad (EJ_al _ hS1) | exact EJ_al _ hS0) (fun _ => ?_)
          clear hK' K
          refine wpAnyH_ready (rs := [8]) (by kernel_rfl) (by simp) ?_
          refine AllReadyH.cons (o := { dst := some 52, op := Op.call { callee := Callee.builtin Builtin.append, args := #[Operand.tmp 45, Operand.tmp 51], argTypes := #[26, 26] }, type := 26, pos := "l04_cases.go:17", after := #[{ on := 1, ground := Ground.data }, { on := 7, ground := Ground.data }], guard := none }) rfl (fun K hK' => ?_) AllReadyH.nil
          refine step_roomP (by rfl) _ _ (by rfl) n3 n4 y3 d3.length j3 d3 (by rfl) (U3.below (B := w10.heap.size) (by repeat (first | exact Below.refl _ _ | exact (Below.refl _ _).drew | apply Below.drew | (refine Below.alloc ?_ (by first | exact Nat.le_refl _ | (simp; done) | (simp; omega)) _))) (by omega)) ⟨w10.heap.size, 0, none⟩ 1 1 [(sx, sy)] (by rfl) rfl (by first | exact (own_pair _ _ _).row | exact (own_pair _ _ _).drew.row | exact (own_pair _ _ _).row) (by omega) (by first | omega | (simp; omega)) ?_
          intro pE qE uE rE hE
          have kb := (Out.ofBelow (lo := n3) (hi := n4) (w := w10) (by repeat (first | exact Below.refl _ _ | exact (Below.refl _ _).drew | apply Below.drew | (refine Below.alloc ?_ (by first | exact Nat.le_refl _ | (simp; done) | (simp; omega)) _)))).trans hE
          have bx := XY.out kb (by omega)
          have bxc := bx.c3; have bxf := bx.f3
          have k1 := EJ_out kb hzz hS1
          refine hK'.out _ _ k1 (fun _ => ?_)
          clear hK' K
          refine wpAnyH_take (i := 9) (v := .pointer (some ⟨Y, 3, none⟩)) rfl (by kernel_rfl) (by kernel_rfl) (by kernel_rfl) (fun _ _ _ h => h) (Or.inl ⟨by rfl, ?_⟩) k1 ?_
          · intro w2 hSw; go_simp
          try simp only [Act.put, List.setIfInBounds_toArray, List.set_cons_zero, List.set_cons_succ]
          refine wpAnyH_ready (rs := [10]) (by kernel_rfl) (by simp) ?_
          refine AllReadyH.cons (o := { dst := none, op := Op.store 26 (Operand.tmp 53) (Operand.tmp 52), type := 0, pos := "l04_cases.go:17", after := #[{ on := 9, ground := Ground.data }, { on := 8, ground := Ground.data }, { on := 8, ground := Ground.chain }, { on := 0, ground := Ground.phase }, { on := 1, ground := Ground.phase }, { on := 2, ground := Ground.phase }, { on := 3, ground := Ground.phase }, { on := 4, ground := Ground.phase }, { on := 5, ground := Ground.phase }, { on := 6, ground := Ground.phase }, { on := 7, ground := Ground.phase }, { on := 8, ground := Ground.phase }], guard := none }) rfl (fun K hK' => ?_) AllReadyH.nil
          rw [if_pos (by rfl)]
          go_simp
          refine hK'.out _ _ (EJ_out (Out.set Y 3 uE _) hzn k1) (fun _ => ?_)
          clear hK' K
          refine wpAnyH_done (by kernel_rfl) ?_ _
          try simp only [List.getElem_toArray, List.getElem_cons_succ, List.getElem_cons_zero, Act.put, List.setIfInBounds_toArray, List.set_cons_zero, List.set_cons_succ]
          go_wp2_with fail
          go_meet
          exact ⟨uE, pE, qE, rfl, rE.monoS (by first | exact Nat.le_refl _ | (simp; done) | (simp; omega)), kb⟩
        · rw [if_pos (by rfl)]
          go_simp
          refine hK'.out _ _ (by first | exact EJ_ad (EJ_al _ hS1) | exact EJ_al _ hS0) (fun _ => ?_)
          clear hK' K
          refine wpAnyH_ready (rs := [1]) (by kernel_rfl) (by simp) ?_
          refine AllReadyH.cons (o := { dst := some 45, op := Op.load 26 (Operand.tmp 44), type := 26, pos := "l04_cases.go:17", after := #[{ on := 0, ground := Ground.data }], guard := none }) rfl (fun K hK' => ?_) AllReadyH.nil
          rw [if_pos (by rfl)]
          go_simp
          refine hK'.out _ _ (by first | exact EJ_ad (EJ_al _ hS1) | exact EJ_al _ hS0) (fun _ => ?_)
          clear hK' K
          refine wpAnyH_ready (rs := [8]) (by kernel_rfl) (by simp) ?_
          refine AllReadyH.cons (o := { dst := some 52, op := Op.call { callee := Callee.builtin Builtin.append, args := #[Operand.tmp 45, Operand.tmp 51], argTypes := #[26, 26] }, type := 26, pos := "l04_cases.go:17", after := #[{ on := 1, ground := Ground.data }, { on := 7, ground := Ground.data }], guard := none }) rfl (fun K hK' => ?_) AllReadyH.nil
          refine step_roomP (by rfl) _ _ (by rfl) n3 n4 y3 d3.length j3 d3 (by rfl) (U3.below (B := w10.heap.size) (by repeat (first | exact Below.refl _ _ | exact (Below.refl _ _).drew | apply Below.drew | (refine Below.alloc ?_ (by first | exact Nat.le_refl _ | (simp; done) | (simp; omega)) _))) (by omega)) ⟨w10.heap.size, 0, none⟩ 1 1 [(sx, sy)] (by rfl) rfl (by first | exact (own_pair _ _ _).row | exact (own_pair _ _ _).drew.row | exact (own_pair _ _ _).row) (by omega) (by first | omega | (simp; omega)) ?_
          intro pE qE uE rE hE
          have kb := (Out.ofBelow (lo := n3) (hi := n4) (w := w10) (by repeat (first | exact Below.refl _ _ | exact (Below.refl _ _).drew | apply Below.drew | (refine Below.alloc ?_ (by first | exact Nat.le_refl _ | (simp; done) | (simp; omega)) _)))).trans hE
          have bx := XY.out kb (by omega)
          have bxc := bx.c3; have bxf := bx.f3
          have k1 := EJ_out kb hzz hS1
          refine hK'.out _ _ k1 (fun _ => ?_)
          clear hK' K
          refine wpAnyH_take (i := 9) (v := .pointer (some ⟨Y, 3, none⟩)) rfl (by kernel_rfl) (by kernel_rfl) (by kernel_rfl) (fun _ _ _ h => h) (Or.inl ⟨by rfl, ?_⟩) k1 ?_
          · intro w2 hSw; go_simp
          try simp only [Act.put, List.setIfInBounds_toArray, List.set_cons_zero, List.set_cons_succ]
          refine wpAnyH_ready (rs := [10]) (by kernel_rfl) (by simp) ?_
          refine AllReadyH.cons (o := { dst := none, op := Op.store 26 (Operand.tmp 53) (Operand.tmp 52), type := 0, pos := "l04_cases.go:17", after := #[{ on := 9, ground := Ground.data }, { on := 8, ground := Ground.data }, { on := 8, ground := Ground.chain }, { on := 0, ground := Ground.phase }, { on := 1, ground := Ground.phase }, { on := 2, ground := Ground.phase }, { on := 3, ground := Ground.phase }, { on := 4, ground := Ground.phase }, { on := 5, ground := Ground.phase }, { on := 6, ground := Ground.phase }, { on := 7, ground := Ground.phase }, { on := 8, ground := Ground.phase }], guard := none }) rfl (fun K hK' => ?_) AllReadyH.nil
          rw [if_pos (by rfl)]
          go_simp
          refine hK'.out _ _ (EJ_out (Out.set Y 3 uE _) hzn k1) (fun _ => ?_)
          clear hK' K
          refine wpAnyH_done (by kernel_rfl) ?_ _
          try simp only [List.getElem_toArray, List.getElem_cons_succ, List.getElem_cons_zero, Act.put, List.setIfInBounds_toArray, List.set_cons_zero, List.set_cons_succ]
          go_wp2_with fail
          go_meet
          exact ⟨uE, pE, qE, rfl, rE.monoS (by first | exact Nat.le_refl _ | (simp; done) | (simp; omega)), kb⟩
      case rest =>
        obtain ⟨uS, pS, qS, rfl, rS, hF⟩ := hcut
        clear hS0 hS1 xY' xfY'
        clear U3
        replace A0 := A0.out hF (by omega); replace D0 := D0.out hF (by omega); replace L0 := L0.trans (hF.below (by omega) L0.size); replace T := T.out hF (by omega)
        replace T1 := T1.out hF (by omega); replace T2 := T2.out hF (by omega); replace T3 := T3.out hF (by omega); replace XZ := XZ.out hF (by omega)
        replace RE := RE.out hF (by omega); replace U0 := U0.out hF (by omega); replace U2 := U2.out hF (by omega); replace XY := XY.out hF (by omega)
        replace rN := rN.out hF (by omega) (by omega)
        have hF1 := hF.size
        have hs := Out.set Y 3 uS (.slice pS (d3.length + 1) qS)
        replace rS := rS.out hs (by omega) (by omega)
        have zrS : n3 ≤ w10.heap.size := by omega
        replace A0 := A0.out hs (by omega); replace D0 := D0.out hs (by omega); replace L0 := L0.trans (hs.below (by omega) L0.size); replace T := T.out hs (by omega)
        replace T1 := T1.out hs (by omega); replace T2 := T2.out hs (by omega); replace T3 := T3.out hs (by omega); replace XZ := XZ.out hs (by omega)
        replace RE := RE.out hs (by omega); replace U0 := U0.out hs (by omega); replace U2 := U2.out hs (by omega); replace rN := rN.out hs (by omega) (by omega)
        replace XY := XY.set3 (.slice pS (d3.length + 1) qS)
        clear hF
        have hs1 := hs.size
        clear hs
        generalize uS.setCell ⟨Y, 3, none⟩ (.slice pS (d3.length + 1) qS) = w11 at *
        have zzS : w10.heap.size ≤ w11.heap.size := Nat.le_trans hF1 hs1
        clear hF1 hs1
        have zw11 : w10.heap.size ≤ w11.heap.size := by omega
        have RN := rN.row (B := n1) (Nat.le_refl _) (by omega)
        have RS := rS.row (B := n3) (Nat.le_refl _) (by omega)
        clear rN rS
        have hl1 := hlo
        go_upto_region 10 with fail
        have e1 : (d0 ++ [(sx, sy)]).length = d0.length + 1 := by simp
        have e2 : (d1 ++ [(sx, sy)]).length = d1.length + 1 := by simp
        have e3' : (d3 ++ [(sx, sy)]).length = d3.length + 1 := by simp
        have IHe : Hid (∀ W : World, Below w11.heap.size w11 W → Calls Try.prog 221 #[.agg #[.slice a0 k0 c0, .slice a1 k1 c1, .slice a2 k2 c2, .slice (some ⟨bS, oS, none⟩) l3.length c3], .int .i64 ((i : Int) + 1), .agg #[.slice pE (d0.length + 1) qE, .slice s1 d1.length f1, .slice s2 d2.length f2, .slice s3 d3.length f3]] W (CPost W lo (casesV d2 (l3.drop (i + 1)) (d0 ++ [(sx, sy)]) d1 d3))) := fun W hW => by
          have h := ih pE s1 s2 s3 qE f1 f2 f3 (d0 ++ [(sx, sy)]) d1 d2 d3 W (by rw [e1]; omega) (by omega) h2 (by omega) (toks_app t0 tsg) t1 t2 t3 lo (by have := hW.size; omega)
            (by rw [e1]; exact ⟨(RE.below hW (by omega)).mono (by omega) (by have := hW.size; omega), (T1.row.below hW (by omega)).mono (by omega) (by have := hW.size; omega), (T2.row.below hW (by omega)).mono (by omega) (by have := hW.size; omega), (T3.row.below hW (by omega)).mono (by omega) (by have := hW.size; omega)⟩) ((rs.below L0 (Nat.le_refl _)).below hW (Nat.le_refl _))
          rwa [e1] at h
        have IHf : Hid (∀ W : World, Below w11.heap.size w11 W → Calls Try.prog 221 #[.agg #[.slice a0 k0 c0, .slice a1 k1 c1, .slice a2 k2 c2, .slice (some ⟨bS, oS, none⟩) l3.length c3], .int .i64 ((i : Int) + 1), .agg #[.slice y0 d0.length j0, .slice pN (d1.length + 1) qN, .slice y2 d2.length j2, .slice pS (d3.length + 1) qS]] W (CPost W lo (casesV d2 (l3.drop (i + 1)) d0 (d1 ++ [(sx, sy)]) (d3 ++ [(sx, sy)])))) := fun W hW => by
          have h := ih y0 pN y2 pS j0 qN j2 qS d0 (d1 ++ [(sx, sy)]) d2 (d3 ++ [(sx, sy)]) W (by omega) (by rw [e2]; omega) h2 (by rw [e3']; omega) t0 (toks_app t1 tsg) t2 (toks_app t3 tsg) lo (by have := hW.size; omega)
            (by rw [e2, e3']; exact ⟨(U0.row.below hW (by omega)).mono (by omega) (by have := hW.size; omega), (RN.below hW (by omega)).mono (by omega) (by have := hW.size; omega), (U2.row.below hW (by omega)).mono (by omega) (by have := hW.size; omega), (RS.below hW (by omega)).mono (by omega) (by have := hW.size; omega)⟩) ((rs.below L0 (Nat.le_refl _)).below hW (Nat.le_refl _))
          rwa [e2, e3'] at h
        have hl1' : (casesV d2 (l3.drop (i + 1)) (d0 ++ [(sx, sy)]) d1 d3).length ≤ 64 := casesV_le _ _ _ _ _ (by rw [List.length_drop]; omega)
        have hl2' : (casesV d2 (l3.drop (i + 1)) d0 (d1 ++ [(sx, sy)]) (d3 ++ [(sx, sy)])).length ≤ 64 := casesV_le _ _ _ _ _ (by rw [List.length_drop]; omega)
        have HE : Hid (casesV d2 (l3.drop i) d0 d1 d3 = (casesV d2 (l3.drop (i + 1)) (d0 ++ [(sx, sy)]) d1 d3) ++ (casesV d2 (l3.drop (i + 1)) d0 (d1 ++ [(sx, sy)]) (d3 ++ [(sx, sy)]))) := by
          have hd : l3.drop i = (sx, sy) :: l3.drop (i + 1) := by
            have hi2 : i < l3.length := by omega
            rw [List.drop_eq_getElem_cons hi2, ← HSG.out, List.getD_eq_getElem?_getD, List.getElem?_eq_getElem hi2]; rfl
          show casesV d2 (l3.drop i) d0 d1 d3 = _
          rw [hd]; rfl
        generalize (casesV d2 (l3.drop (i + 1)) (d0 ++ [(sx, sy)]) d1 d3) = LA at *
        generalize (casesV d2 (l3.drop (i + 1)) d0 (d1 ++ [(sx, sy)]) (d3 ++ [(sx, sy)])) = LB at *
        have hwr : IntKind.i64.wrap ((i : Int) + 1) = (i : Int) + 1 := by rw [IntKind.wrap_i64]; omega
        have hS1 : TB w.heap.size Z Y 0 1 2 3 0 1 2 3 0 1 2 3 (.slice a0 k0 c0) (.slice a1 k1 c1) (.slice a2 k2 c2) (.slice (some ⟨bS, oS, none⟩) l3.length c3) (.slice pE (d0.length + 1) qE) (.slice s1 d1.length f1) (.slice s2 d2.length f2) (.slice s3 d3.length f3) (.slice y0 d0.length j0) (.slice pN (d1.length + 1) qN) (.slice y2 d2.length j2) (.slice pS (d3.length + 1) qS) w11 := ⟨A0.c0, A0.c1, A0.c2, A0.c3, XZ.c0, XZ.c1, XZ.c2, XZ.c3, XY.c0, XY.c1, XY.c2, XY.c3⟩
        have hS0 := TB_ad hS1
        have zL := L0.size
        clear A0 XZ XY D0 T hne
        go_region_held3 (fun W => W.cell? ⟨w.heap.size, 0, none⟩ = some (.slice a0 k0 c0) ∧ W.cell? ⟨w.heap.size, 1, none⟩ = some (.slice a1 k1 c1) ∧ W.cell? ⟨w.heap.size, 2, none⟩ = some (.slice a2 k2 c2) ∧ W.cell? ⟨w.heap.size, 3, none⟩ = some (.slice (some ⟨bS, oS, none⟩) l3.length c3) ∧ W.cell? ⟨Z, 0, none⟩ = some (.slice pE (d0.length + 1) qE) ∧ W.cell? ⟨Z, 1, none⟩ = some (.slice s1 d1.length f1) ∧ W.cell? ⟨Z, 2, none⟩ = some (.slice s2 d2.length f2) ∧ W.cell? ⟨Z, 3, none⟩ = some (.slice s3 d3.length f3) ∧ W.cell? ⟨Y, 0, none⟩ = some (.slice y0 d0.length j0) ∧ W.cell? ⟨Y, 1, none⟩ = some (.slice pN (d1.length + 1) qN) ∧ W.cell? ⟨Y, 2, none⟩ = some (.slice y2 d2.length j2) ∧ W.cell? ⟨Y, 3, none⟩ = some (.slice pS (d3.length + 1) qS))
          (first | exact hS0 | exact hS1 | assumption | exact TB_be k14 hS1 | exact TB_be k13 hS1 | exact TB_be k12 hS1)
          (first
            | (go_at_call 221; (with_reducible refine (IHe.out _ (Below.refl _ _).drew).mono ?_); rintro e u12 ⟨v1, xs1, rfl, o1, V1, N1, hb1⟩; have k12 : Below w11.heap.size w11 u12 := (Below.refl _ _).drew.trans (hb1.mono (Nat.le_refl _)); have kz12 := k12.size)
            | (go_at_call 221; (with_reducible refine (IHf.out _ k12).mono ?_); rintro e u13 ⟨v2, xs2, rfl, o2, V2, N2, hb2⟩; have kz13 := hb2.size; have k13 : Below w11.heap.size w11 u13 := k12.trans (hb2.mono kz12))
            | (refine step_ownA (by rfl) _ _ (by rfl) w.heap.size w.heap.size v1 v2 _ _ xs1 xs2 (by rfl) ((owns_belowA o1 hb2).mono zL) (by rfl) (o2.mono (by omega)) V2.one (by omega) (by omega) ?_; rintro v' u14 r1 r2 r3 -; have k14 : Below w11.heap.size w11 u14 := k13.grown r2 k13.size (fun g hg => (o1.lt g hg).1))
            | fail)
        have hh : ∀ g, v1.ownBlock = some g → ∃ p k c, u13.cell? ⟨g, 0, none⟩ = some (.slice p k c) := V1.head (owns_belowA o1 hb2) N1
        have kz14 := r2.size
        clear hS0 hS1
        go_wp2
        go_ret
        refine ⟨v', xs1 ++ xs2, rfl, ?_, ?_, ?_, L0.trans (k14.mono zL)⟩
        · rw [HE.out, List.length_append]; exact r1
        · rw [HE.out]; exact (((V1.below hb2 (Nat.le_refl _)).grown r2 hh).mono (Nat.le_refl _) (by omega)).append ((V2.grown r2 hh).mono (Nat.le_refl _) (by omega))
        · rw [HE.out]; intro e; obtain ⟨eA, eB⟩ := List.append_eq_nil_iff.1 e; exact r3.2 ⟨N1 eA, by rw [eB]; rfl⟩

theorem l4cases_any (a0 a1 a2 a3 : Option Addr) (k0 k1 k2 c0 c1 c2 c3 : Nat) (l3 : List (Int × Int)) (g3 : l3.length ≤ 6) (ts : toks l3 = true) : ∀ (k i : Nat), i + k = l3.length → ∀ (b0 b1 b2 b3 : Option Addr) (e0 e1 e2 e3 : Nat) (d0 d1 d2 d3 : List (Int × Int)) (w : World), d0.length + k ≤ 12 → d1.length + k ≤ 12 → d2.length ≤ 6 → d3.length + k ≤ 6 → toks d0 = true → toks d1 = true → toks d2 = true → toks d3 = true → ∀ (lo : Nat), lo ≤ w.heap.size → Seen w lo w.heap.size b0 b1 b2 b3 d0.length d1.length d2.length d3.length d0 d1 d2 d3 → PRow w a3 l3 → Calls Try.prog 221 #[.agg #[.slice a0 k0 c0, .slice a1 k1 c1, .slice a2 k2 c2, .slice a3 l3.length c3], .int .i64 (i : Int), .agg #[.slice b0 d0.length e0, .slice b1 d1.length e1, .slice b2 d2.length e2, .slice b3 d3.length e3]] w (CPost w lo (casesV d2 (l3.drop i) d0 d1 d3))
  | 0, i, hi, b0, b1, b2, b3, e0, e1, e2, e3, d0, d1, d2, d3, w, h0, h1, h2, h3, t0, t1, t2, t3, lo, hlo, T, rs => l4cases_zero a0 a1 a2 a3 k0 k1 k2 c0 c1 c2 c3 l3 i b0 b1 b2 b3 e0 e1 e2 e3 d0 d1 d2 d3 w (by omega) g3 h0 h1 h2 h3 t0 t1 t2 t3 lo T
  | k + 1, i, hi, b0, b1, b2, b3, e0, e1, e2, e3, d0, d1, d2, d3, w, h0, h1, h2, h3, t0, t1, t2, t3, lo, hlo, T, rs => l4cases_succ a0 a1 a2 a3 k0 k1 k2 c0 c1 c2 c3 l3 k i b0 b1 b2 b3 e0 e1 e2 e3 d0 d1 d2 d3 w hi g3 h0 h1 h2 h3 t0 t1 t2 t3 ts lo hlo T rs
      (fun b0 b1 b2 b3 e0 e1 e2 e3 d0 d1 d2 d3 w h0 h1 h2 h3 t0 t1 t2 t3 lo hlo T rs => l4cases_any a0 a1 a2 a3 k0 k1 k2 c0 c1 c2 c3 l3 g3 ts k (i + 1) (by omega) b0 b1 b2 b3 e0 e1 e2 e3 d0 d1 d2 d3 w h0 h1 h2 h3 t0 t1 t2 t3 lo hlo T rs)

end Go.Proofs.Ytphchdjbhbmnbaa
namespace Go.Proofs.Ytphchdjbhbmnbaa
open Go.RowKit
set_option linter.unusedVariables false

theorem hd_tl {n : Nat} {l : List Int} (h : l.length = n + 1) : ∃ x t, l = x :: t ∧ t.length = n := by
  cases l with
  | nil => simp at h
  | cons x t => exact ⟨x, t, rfl, by simpa using h⟩
theorem sixteen (l : List Int) (h : l.length = 16) : ∃ x0 x1 x2 x3 x4 x5 x6 x7 x8 x9 x10 x11 x12 x13 x14 x15 : Int, l = [x0, x1, x2, x3, x4, x5, x6, x7, x8, x9, x10, x11, x12, x13, x14, x15] := by
  obtain ⟨x0, t0, rfl, h0⟩ := hd_tl h
  obtain ⟨x1, t1, rfl, h1⟩ := hd_tl h0
  obtain ⟨x2, t2, rfl, h2⟩ := hd_tl h1
  obtain ⟨x3, t3, rfl, h3⟩ := hd_tl h2
  obtain ⟨x4, t4, rfl, h4⟩ := hd_tl h3
  obtain ⟨x5, t5, rfl, h5⟩ := hd_tl h4
  obtain ⟨x6, t6, rfl, h6⟩ := hd_tl h5
  obtain ⟨x7, t7, rfl, h7⟩ := hd_tl h6
  obtain ⟨x8, t8, rfl, h8⟩ := hd_tl h7
  obtain ⟨x9, t9, rfl, h9⟩ := hd_tl h8
  obtain ⟨x10, t10, rfl, h10⟩ := hd_tl h9
  obtain ⟨x11, t11, rfl, h11⟩ := hd_tl h10
  obtain ⟨x12, t12, rfl, h12⟩ := hd_tl h11
  obtain ⟨x13, t13, rfl, h13⟩ := hd_tl h12
  obtain ⟨x14, t14, rfl, h14⟩ := hd_tl h13
  obtain ⟨x15, t15, rfl, h15⟩ := hd_tl h14
  obtain rfl := List.eq_nil_of_length_eq_zero h15
  exact ⟨x0, x1, x2, x3, x4, x5, x6, x7, x8, x9, x10, x11, x12, x13, x14, x15, rfl⟩

/-- What the region that asks keeps. -/
abbrev UK (wB : World) (A D C : Nat) (v1 v2 v3 : Value) (s t : Int) (c : List Int) (W : World) : Prop := Below wB.heap.size wB W ∧ W.cell? ⟨A, 1, none⟩ = some v1 ∧ W.cell? ⟨A, 2, none⟩ = some v2 ∧ W.cell? ⟨A, 3, none⟩ = some v3 ∧ W.cell? ⟨D, 0, none⟩ = some (.int .i64 s) ∧ W.cell? ⟨D, 1, none⟩ = some (.int .i64 t) ∧ W.rangeAt C 0 (ic c)
theorem uk_own {wB W : World} {A D C : Nat} {v1 v2 v3 : Value} {s t : Int} {c : List Int} (hl : c.length = 16) (hz : A < wB.heap.size ∧ D < wB.heap.size) (c1 : wB.cell? ⟨A, 1, none⟩ = some v1) (c2 : wB.cell? ⟨A, 2, none⟩ = some v2) (c3 : wB.cell? ⟨A, 3, none⟩ = some v3) (d0 : wB.cell? ⟨D, 0, none⟩ = some (.int .i64 s)) (d1 : wB.cell? ⟨D, 1, none⟩ = some (.int .i64 t)) (h : OwnI wB C 16 c 16) (hb : Below wB.heap.size wB W) : UK wB A D C v1 v2 v3 s t c W := by
  have e : ∀ b o, b < wB.heap.size → W.cell? ⟨b, o, none⟩ = wB.cell? ⟨b, o, none⟩ := fun b o hb' => hb.cell (p := ⟨b, o, none⟩) hb'
  exact ⟨hb, (e _ _ hz.1).trans c1, (e _ _ hz.1).trans c2, (e _ _ hz.1).trans c3, (e _ _ hz.2).trans d0, (e _ _ hz.2).trans d1, (h.below hb h.1).range hl⟩
theorem uk_row {wB W : World} {A D C : Nat} {v1 v2 v3 : Value} {s t : Int} {c : List Int} {a : Option Addr} {l : List (Int × Int)} (r : PRow wB a l) (h : UK wB A D C v1 v2 v3 s t c W) : PRow W a l := r.below h.1 (Nat.le_refl _)
theorem uk_trans {wB W u : World} {A D C : Nat} {v1 v2 v3 : Value} {s t : Int} {c : List Int} (h : UK wB A D C v1 v2 v3 s t c W) (hb : Below W.heap.size W u) : Below wB.heap.size wB u := h.1.trans (hb.mono h.1.size)

theorem PBox.out {lo hi : Nat} {w w' : World} {b : Nat} {x y : Int} (h : PBox w b x y) (ho : Out lo hi w w') (hr : b < lo ∨ hi ≤ b) : PBox w' b x y := by
  have e := ho.block b h.lt hr
  exact ⟨Nat.lt_of_lt_of_le h.lt ho.size, by rw [World.cell?_of_block e]; exact h.c0, by rw [World.cell?_of_block e]; exact h.c1⟩
theorem wth3 {l0 l1 l2 l3 : List (Int × Int)} {i : Int} : wthB l0 l1 l2 l3 3 i = (asnB l0 l1 l2 l3 && decide (0 ≤ i ∧ i < (l3.length : Int))) := by
  unfold wthB
  rw [decide_eq_true (by omega), Bool.true_and]
  rfl

theorem iWithout3_no (a0 a1 a2 a3 : Option Addr) (c0 c1 c2 c3 : Nat) (l0 l1 l2 l3 : List (Int × Int)) (i : Int) (w : World) (n0 : l0.length ≤ 1048576) (n1 : l1.length ≤ 1048576) (n2 : l2.length ≤ 1048576) (n3 : l3.length ≤ 1048576) (r0 : PRow w a0 l0) (r1 : PRow w a1 l1) (r2 : PRow w a2 l2) (r3 : PRow w a3 l3) (z0 : CapZ a0 l0.length c0) (z1 : CapZ a1 l1.length c1) (z2 : CapZ a2 l2.length c2) (z3 : CapZ a3 l3.length c3) (hB : wthB l0 l1 l2 l3 3 i = false) :
    Calls Try.prog 58 #[.agg #[.slice a0 l0.length c0, .slice a1 l1.length c1, .slice a2 l2.length c2, .slice a3 l3.length c3], .int .i64 3, .int .i64 i] w fun e w' => ∃ p0 p1 p2 p3 q0 q1 q2 q3, e = .returned (.tuple #[.agg #[.slice p0 0 q0, .slice p1 0 q1, .slice p2 0 q2, .slice p3 0 q3], .bool false]) ∧ Below w.heap.size w w' := by
  refine (iWithout_any a0 a1 a2 a3 c0 c1 c2 c3 l0 l1 l2 l3 3 i w n0 n1 n2 n3 r0 r1 r2 r3 z0 z1 z2 z3).mono ?_
  rintro e w1 ⟨p0, p1, p2, p3, q0, q1, q2, q3, rfl, _, _, hb⟩
  rw [hB]
  exact ⟨p0, p1, p2, p3, q0, q1, q2, q3, rfl, hb⟩
theorem iWithout3_yes (a0 a1 a2 a3 : Option Addr) (c0 c1 c2 c3 : Nat) (l0 l1 l2 l3 : List (Int × Int)) (k : Nat) (w : World) (n0 : l0.length ≤ 1048576) (n1 : l1.length ≤ 1048576) (n2 : l2.length ≤ 1048576) (n3 : l3.length ≤ 1048576) (r0 : PRow w a0 l0) (r1 : PRow w a1 l1) (r2 : PRow w a2 l2) (r3 : PRow w a3 l3) (z0 : CapZ a0 l0.length c0) (z1 : CapZ a1 l1.length c1) (z2 : CapZ a2 l2.length c2) (z3 : CapZ a3 l3.length c3) (hB : wthB l0 l1 l2 l3 3 (k : Int) = true) (hk : k < l3.length) :
    Calls Try.prog 58 #[.agg #[.slice a0 l0.length c0, .slice a1 l1.length c1, .slice a2 l2.length c2, .slice a3 l3.length c3], .int .i64 3, .int .i64 k] w fun e w' => ∃ p0 p1 p2 p3 q0 q1 q2 q3, e = .returned (.tuple #[.agg #[.slice p0 l0.length q0, .slice p1 l1.length q1, .slice p2 l2.length q2, .slice p3 (k + (l3.length - (k + 1))) q3], .bool true]) ∧ Four w' w.heap.size w'.heap.size p0 p1 p2 p3 l0.length l1.length l2.length (k + (l3.length - (k + 1))) l0 l1 l2 (l3.take k ++ l3.drop (k + 1)) ∧ (CapZ p0 l0.length q0 ∧ CapZ p1 l1.length q1 ∧ CapZ p2 l2.length q2 ∧ CapZ p3 (k + (l3.length - (k + 1))) q3) ∧ Below w.heap.size w w' := by
  have e3 : (l3.take k ++ l3.drop (k + 1)).length = k + (l3.length - (k + 1)) := by simp; omega
  have h0 : wthL l0 3 0 (k : Int) = l0 := if_neg (by decide)
  have h1 : wthL l1 3 1 (k : Int) = l1 := if_neg (by decide)
  have h2 : wthL l2 3 2 (k : Int) = l2 := if_neg (by decide)
  have h3 : wthL l3 3 3 (k : Int) = l3.take k ++ l3.drop (k + 1) := if_pos rfl
  refine (iWithout_any a0 a1 a2 a3 c0 c1 c2 c3 l0 l1 l2 l3 3 k w n0 n1 n2 n3 r0 r1 r2 r3 z0 z1 z2 z3).mono ?_
  rintro e w1 ⟨p0, p1, p2, p3, q0, q1, q2, q3, rfl, T, Y, hb⟩
  rw [hB, h0, h1, h2, h3] at T Y ⊢
  simp only [okL, if_true, e3] at T Y ⊢
  exact ⟨p0, p1, p2, p3, q0, q1, q2, q3, rfl, T, Y, hb⟩

set_option linter.unusedSimpArgs false in
set_option maxRecDepth 20000 in
set_option maxHeartbeats 8000000 in
theorem iUnfold_any (a0 a1 a2 a3 : Option Addr) (c0 c1 c2 c3 : Nat) (l0 l1 l2 l3 : List (Int × Int)) (i : Int) (w : World) (n0 : l0.length ≤ 1048576) (n1 : l1.length ≤ 1048576) (n2 : l2.length ≤ 1048576) (n3 : l3.length ≤ 1048576) (r0 : PRow w a0 l0) (r1 : PRow w a1 l1) (r2 : PRow w a2 l2) (r3 : PRow w a3 l3) (z0 : CapZ a0 l0.length c0) (z1 : CapZ a1 l1.length c1) (z2 : CapZ a2 l2.length c2) (z3 : CapZ a3 l3.length c3) :
    Calls Try.prog 90 #[.agg #[.slice a0 l0.length c0, .slice a1 l1.length c1, .slice a2 l2.length c2, .slice a3 l3.length c3], .int .i64 i] w fun e w' => ∃ p0 p1 p2 p3 q0 q1 q2 q3, e = .returned (.tuple #[.agg #[.slice p0 (okL (unfB l0 l1 l2 l3 i) l0).length q0, .slice p1 (okL (unfB l0 l1 l2 l3 i) l1).length q1, .slice p2 (okL (unfB l0 l1 l2 l3 i) (unfC l2 (l3.getD i.toNat (0, 0)) (freshF (usedV l0 l1 l2 l3)))).length q2, .slice p3 (okL (unfB l0 l1 l2 l3 i) (unfS l3 i.toNat (l3.getD i.toNat (0, 0)) (freshF (usedV l0 l1 l2 l3)))).length q3], .bool (unfB l0 l1 l2 l3 i)]) ∧ Four w' w.heap.size w'.heap.size p0 p1 p2 p3 (okL (unfB l0 l1 l2 l3 i) l0).length (okL (unfB l0 l1 l2 l3 i) l1).length (okL (unfB l0 l1 l2 l3 i) (unfC l2 (l3.getD i.toNat (0, 0)) (freshF (usedV l0 l1 l2 l3)))).length (okL (unfB l0 l1 l2 l3 i) (unfS l3 i.toNat (l3.getD i.toNat (0, 0)) (freshF (usedV l0 l1 l2 l3)))).length (okL (unfB l0 l1 l2 l3 i) l0) (okL (unfB l0 l1 l2 l3 i) l1) (okL (unfB l0 l1 l2 l3 i) (unfC l2 (l3.getD i.toNat (0, 0)) (freshF (usedV l0 l1 l2 l3)))) (okL (unfB l0 l1 l2 l3 i) (unfS l3 i.toNat (l3.getD i.toNat (0, 0)) (freshF (usedV l0 l1 l2 l3)))) ∧ Below w.heap.size w w' := by
  have A0 := (Box.new w (.slice a0 l0.length c0) (.slice a1 l1.length c1) (.slice a2 l2.length c2) (.slice a3 l3.length c3) 28).alloc (.cells #[.slice none 0 0, .slice none 0 0, .slice none 0 0, .slice none 0 0] 28)
  have R0 := Box.new (w.alloc (.cells #[.slice a0 l0.length c0, .slice a1 l1.length c1, .slice a2 l2.length c2, .slice a3 l3.length c3] 28)) (.slice none 0 0) (.slice none 0 0) (.slice none 0 0) (.slice none 0 0) 28
  have L0 : Below w.heap.size w ((w.alloc (.cells #[.slice a0 l0.length c0, .slice a1 l1.length c1, .slice a2 l2.length c2, .slice a3 l3.length c3] 28)).alloc (.cells #[.slice none 0 0, .slice none 0 0, .slice none 0 0, .slice none 0 0] 28)) := ((Below.refl _ _).alloc (Nat.le_refl _) _).alloc (by simp) _
  rw [World.size_alloc] at R0
  go_enter Try.func90, Try.ntmps90
  by_cases hwb : wthB l0 l1 l2 l3 3 i = true
  rotate_left
  · replace hwb : wthB l0 l1 l2 l3 3 i = false := by simpa using hwb
    go_wp2_with fail
    refine (iWithout3_no a0 a1 a2 a3 c0 c1 c2 c3 l0 l1 l2 l3 i _ n0 n1 n2 n3 (r0.below L0 (Nat.le_refl _)) (r1.below L0 (Nat.le_refl _)) (r2.below L0 (Nat.le_refl _)) (r3.below L0 (Nat.le_refl _)) z0 z1 z2 z3 hwb).mono ?_
    rintro e w1 ⟨p0, p1, p2, p3, q0, q1, q2, q3, rfl, hb⟩
    have al : Below w1.heap.size w1 (w1.alloc (.cells #[.slice p0 0 q0, .slice p1 0 q1, .slice p2 0 q2, .slice p3 0 q3] 28)) := (Below.refl _ _).alloc (Nat.le_refl _) _
    have zz : w.heap.size + 1 < w1.heap.size := Nat.lt_of_lt_of_le R0.lt hb.size
    replace R0 := (R0.below hb R0.lt).below al zz; replace L0 := (L0.trans (hb.mono L0.size)).trans (al.mono (Nat.le_trans L0.size hb.size))
    clear hb al A0
    go_upto_region 2 with fail
    generalize w1.alloc (.cells #[.slice p0 0 q0, .slice p1 0 q1, .slice p2 0 q2, .slice p3 0 q3] 28) = w2 at *
    have HE : Hid ((unfB l0 l1 l2 l3 i) = false) := by show (unfB l0 l1 l2 l3 i) = false; rw [wth3] at hwb; unfold unfB; rw [hwb]; rfl
    obtain ⟨F, FO⟩ := R0.fill (.slice none 0 0) (.slice none 0 0) (.slice none 0 0) (.slice none 0 0)
    have j0' := R0.c0; have j1' := R0.c1; have j2' := R0.c2; have j3' := R0.c3
    have g0 := R0.f0; have g1 := R0.f1; have g2 := R0.f2; have g3 := R0.f3
    go_wp2
    have i0 := F.c0; have i1 := F.c1; have i2 := F.c2; have i3 := F.c3
    refine bodyPost_ret (v := .tuple #[.agg #[.slice none 0 0, .slice none 0 0, .slice none 0 0, .slice none 0 0], .bool false]) ?_ rfl ⟨none, none, none, none, 0, 0, 0, 0, by rw [HE.out]; rfl, ?_, ?_⟩
    · simp [results, Try.results90, go_sem, i0, i1, i2, i3]
    · rw [HE.out]; exact (Four.none _ w.heap.size).mono (Nat.le_refl _) (by have := FO.size; have := L0.size; omega)
    · exact L0.trans (FO.below (by omega) L0.size)

  obtain ⟨hok, hi⟩ : asnB l0 l1 l2 l3 = true ∧ (0 ≤ i ∧ i < (l3.length : Int)) := by rw [wth3] at hwb; simpa using hwb
  obtain ⟨k, rfl⟩ := Int.eq_ofNat_of_zero_le hi.1
  have hk : k < l3.length := by omega
  have HT : Hid (asnB l0 l1 l2 l3 = true) := hok
  obtain ⟨t0, t1, t2, t3⟩ := asnB_toks hok
  go_wp2_with fail
  refine (iWithout3_yes a0 a1 a2 a3 c0 c1 c2 c3 l0 l1 l2 l3 k _ n0 n1 n2 n3 (r0.below L0 (Nat.le_refl _)) (r1.below L0 (Nat.le_refl _)) (r2.below L0 (Nat.le_refl _)) (r3.below L0 (Nat.le_refl _)) z0 z1 z2 z3 hwb hk).mono ?_
  rintro e w1 ⟨p0, p1, p2, p3, q0, q1, q2, q3, rfl, T, ⟨y0, y1, y2, y3⟩, hb⟩
  have al : Below w1.heap.size w1 (w1.alloc (.cells #[.slice p0 l0.length q0, .slice p1 l1.length q1, .slice p2 l2.length q2, .slice p3 (k + (l3.length - (k + 1))) q3] 28)) := (Below.refl _ _).alloc (Nat.le_refl _) _
  have s0 := L0.size
  have X0 := Box.new w1 (.slice p0 l0.length q0) (.slice p1 l1.length q1) (.slice p2 l2.length q2) (.slice p3 (k + (l3.length - (k + 1))) q3) 28
  have zR := R0.lt
  have zA := A0.lt
  have zb := hb.size
  have za := al.size
  replace A0 := (A0.below hb A0.lt).below al (Nat.lt_of_lt_of_le A0.lt hb.size); replace R0 := (R0.below hb R0.lt).below al (Nat.lt_of_lt_of_le R0.lt hb.size); replace L0 := (L0.trans (hb.mono L0.size)).trans (al.mono (Nat.le_trans L0.size hb.size))
  replace T := T.below al (Nat.le_refl _)
  replace T := T.mono (show w.heap.size + 2 ≤ _ by simp) (Nat.le_refl _)
  replace r0 := r0.below (L0) (Nat.le_refl _); replace r1 := r1.below (L0) (Nat.le_refl _); replace r2 := r2.below (L0) (Nat.le_refl _); replace r3 := r3.below (L0) (Nat.le_refl _)
  clear hb al hwb hok
  go_upto_region 4 with fail
  have zx : w1.heap.size < (w1.alloc (.cells #[.slice p0 l0.length q0, .slice p1 l1.length q1, .slice p2 l2.length q2, .slice p3 (k + (l3.length - (k + 1))) q3] 28)).heap.size := by simp
  have zX : w.heap.size + 2 ≤ w1.heap.size := by simp at zb; omega
  clear zR zA zb za s0
  generalize w1.alloc (.cells #[.slice p0 l0.length q0, .slice p1 l1.length q1, .slice p2 l2.length q2, .slice p3 (k + (l3.length - (k + 1))) q3] 28) = w2 at *
  generalize hX : w1.heap.size = X at *
  clear hX
  have A3 := A0.c3
  obtain ⟨b, off, rfl, hbl, hcl⟩ : ∃ b off, a3 = some ⟨b, off, none⟩ ∧ b < w2.heap.size ∧ (w2.cell? ⟨b, off + k * 2, none⟩ = some (.int .i64 (l3.getD k (0, 0)).1) ∧ w2.cell? ⟨b, off + k * 2 + 1, none⟩ = some (.int .i64 (l3.getD k (0, 0)).2) ) := by
    rcases r3 with h | ⟨b, off, h, h1, h2⟩
    · rw [h] at hk; simp at hk
    · exact ⟨b, off, h, h1, h2 k hk⟩
  obtain ⟨d0, d1⟩ := hcl
  have htk := toks_get t3 hk
  have HSG : Hid (l3.getD k (0, 0) = ((l3.getD k (0, 0)).1, (l3.getD k (0, 0)).2)) := rfl
  obtain ⟨⟨g1, g2⟩, g3, g4⟩ := htk
  obtain ⟨s, t, hs, ht, es, et⟩ : ∃ s t : Nat, (l3.getD k (0, 0)).1 = (s : Int) ∧ (l3.getD k (0, 0)).2 = (t : Int) ∧ s < 16 ∧ t < 16 := ⟨(l3.getD k (0, 0)).1.toNat, (l3.getD k (0, 0)).2.toNat, by omega, by omega, by omega, by omega⟩
  rw [hs, ht] at HSG
  rw [hs] at d0
  rw [ht] at d1
  clear g1 g2 g3 g4 hs ht
  have hkl : (k : Int) < (l3.length : Int) := by omega
  have hk0' : (0 : Int) ≤ (k : Int) := by omega
  go_upto_region 5 with fail
  have P0 := PBox.new w2 s t 69
  have al : Below w2.heap.size w2 (w2.alloc (.cells #[.int .i64 (s : Int), .int .i64 (t : Int)] 69)) := (Below.refl _ _).alloc (Nat.le_refl _) _
  have zD : w2.heap.size < (w2.alloc (.cells #[.int .i64 (s : Int), .int .i64 (t : Int)] 69)).heap.size := by simp
  replace A0 := A0.below al A0.lt; replace R0 := R0.below al R0.lt; replace L0 := L0.trans (al.mono L0.size); replace X0 := X0.below al X0.lt; replace T := T.below al (by omega)
  replace r0 := r0.below (al) (Nat.le_refl _); replace r1 := r1.below (al) (Nat.le_refl _); replace r2 := r2.below (al) (Nat.le_refl _); replace r3 := r3.below (al) (Nat.le_refl _)
  clear al d0 d1 A3 hbl
  generalize w2.alloc (.cells #[.int .i64 (s : Int), .int .i64 (t : Int)] 69) = w3 at *
  generalize hD : w2.heap.size = D at *
  clear hD
  have A0c0 := A0.c0; have A0c1 := A0.c1; have A0c2 := A0.c2; have A0c3 := A0.c3
  go_wp2_with fail
  clear A0c0 A0c1 A0c2 A0c3
  refine (classesOf_any _ _ _ _ _ _ _ _ l0 l1 l2 l3 _ n0 t0 r0).mono ?_
  rintro e w4 ⟨rfl, hb⟩
  have HC := Cls.all t0
  replace A0 := A0.below hb A0.lt; replace R0 := R0.below hb R0.lt; replace L0 := L0.trans (hb.mono L0.size); replace X0 := X0.below hb X0.lt; replace T := T.below hb (by omega); replace P0 := P0.below hb P0.lt
  replace r0 := r0.below (hb) (Nat.le_refl _); replace r1 := r1.below (hb) (Nat.le_refl _); replace r2 := r2.below (hb) (Nat.le_refl _); replace r3 := r3.below (hb) (Nat.le_refl _)
  have z34 := hb.size
  clear hb
  obtain ⟨c, HCE⟩ : ∃ c, Hid (clsV l0 = c) := ⟨_, rfl⟩
  rw [HCE.out] at HC ⊢
  obtain ⟨x0, x1, x2, x3, x4, x5, x6, x7, x8, x9, x10, x11, x12, x13, x14, x15, rfl⟩ := sixteen c HC.1
  rw [show aV [x0, x1, x2, x3, x4, x5, x6, x7, x8, x9, x10, x11, x12, x13, x14, x15] = .agg #[.int .i64 x0, .int .i64 x1, .int .i64 x2, .int .i64 x3, .int .i64 x4, .int .i64 x5, .int .i64 x6, .int .i64 x7, .int .i64 x8, .int .i64 x9, .int .i64 x10, .int .i64 x11, .int .i64 x12, .int .i64 x13, .int .i64 x14, .int .i64 x15] from rfl]
  have C0 : OwnI (w4.alloc (.cells #[.int .i64 x0, .int .i64 x1, .int .i64 x2, .int .i64 x3, .int .i64 x4, .int .i64 x5, .int .i64 x6, .int .i64 x7, .int .i64 x8, .int .i64 x9, .int .i64 x10, .int .i64 x11, .int .i64 x12, .int .i64 x13, .int .i64 x14, .int .i64 x15] 102)) w4.heap.size 16 [x0, x1, x2, x3, x4, x5, x6, x7, x8, x9, x10, x11, x12, x13, x14, x15] 16 := OwnI.new w4 [x0, x1, x2, x3, x4, x5, x6, x7, x8, x9, x10, x11, x12, x13, x14, x15] 16 rfl 102
  have al : Below w4.heap.size w4 (w4.alloc (.cells #[.int .i64 x0, .int .i64 x1, .int .i64 x2, .int .i64 x3, .int .i64 x4, .int .i64 x5, .int .i64 x6, .int .i64 x7, .int .i64 x8, .int .i64 x9, .int .i64 x10, .int .i64 x11, .int .i64 x12, .int .i64 x13, .int .i64 x14, .int .i64 x15] 102)) := (Below.refl _ _).alloc (Nat.le_refl _) _
  have zC : w4.heap.size < (w4.alloc (.cells #[.int .i64 x0, .int .i64 x1, .int .i64 x2, .int .i64 x3, .int .i64 x4, .int .i64 x5, .int .i64 x6, .int .i64 x7, .int .i64 x8, .int .i64 x9, .int .i64 x10, .int .i64 x11, .int .i64 x12, .int .i64 x13, .int .i64 x14, .int .i64 x15] 102)).heap.size := by simp
  replace A0 := A0.below al A0.lt; replace R0 := R0.below al R0.lt; replace L0 := L0.trans (al.mono L0.size); replace X0 := X0.below al X0.lt; replace T := T.below al (by omega); replace P0 := P0.below al P0.lt
  replace r0 := r0.below (al) (Nat.le_refl _); replace r1 := r1.below (al) (Nat.le_refl _); replace r2 := r2.below (al) (Nat.le_refl _); replace r3 := r3.below (al) (Nat.le_refl _)
  clear al
  go_upto_region 6 with fail
  generalize w4.alloc (.cells #[.int .i64 x0, .int .i64 x1, .int .i64 x2, .int .i64 x3, .int .i64 x4, .int .i64 x5, .int .i64 x6, .int .i64 x7, .int .i64 x8, .int .i64 x9, .int .i64 x10, .int .i64 x11, .int .i64 x12, .int .i64 x13, .int .i64 x14, .int .i64 x15] 102) = w5 at *
  generalize hC : w4.heap.size = C at *
  clear hC
  have A0c0 := A0.c0; have A0c1 := A0.c1; have A0c2 := A0.c2; have A0c3 := A0.c3
  go_wp2_with fail
  clear A0c0 A0c1 A0c2 A0c3
  refine (iFresh_any _ _ _ _ _ _ _ _ l0 l1 l2 l3 _ n0 n1 n2 n3 r0 r1 r2 r3).mono ?_
  rintro e w6 ⟨rfl, hb⟩
  rw [show freshV l0 l1 l2 l3 = freshF (usedV l0 l1 l2 l3) by unfold freshV; rw [HT.out]; rfl]
  obtain ⟨f, hff⟩ : ∃ f, Hid (freshF (usedV l0 l1 l2 l3) = f) := ⟨_, rfl⟩
  rw [hff.out]
  have z56 := hb.size
  replace A0 := A0.below hb A0.lt; replace R0 := R0.below hb R0.lt; replace L0 := L0.trans (hb.mono L0.size); replace X0 := X0.below hb X0.lt; replace T := T.below hb (by omega); replace P0 := P0.below hb P0.lt; replace C0 := C0.below hb C0.1
  replace r0 := r0.below (hb) (Nat.le_refl _); replace r1 := r1.below (hb) (Nat.le_refl _); replace r2 := r2.below (hb) (Nat.le_refl _); replace r3 := r3.below (hb) (Nat.le_refl _)
  clear hb
  go_upto_region 7 with fail
  obtain ⟨gs, hgs⟩ : ∃ g, Hid (([x0, x1, x2, x3, x4, x5, x6, x7, x8, x9, x10, x11, x12, x13, x14, x15] : List Int).getD s 0 = g) := ⟨_, rfl⟩
  obtain ⟨gt, hgt⟩ : ∃ g, Hid (([x0, x1, x2, x3, x4, x5, x6, x7, x8, x9, x10, x11, x12, x13, x14, x15] : List Int).getD t 0 = g) := ⟨_, rfl⟩
  have bgs : 0 ≤ gs ∧ gs < 16 := by rw [← hgs.out]; exact HC.2 s es
  have bgt : 0 ≤ gt ∧ gt < 16 := by rw [← hgt.out]; exact HC.2 t et
  obtain ⟨am, ham⟩ : ∃ am, Hid (amongV [x0, x1, x2, x3, x4, x5, x6, x7, x8, x9, x10, x11, x12, x13, x14, x15] l1 gs gt = am) := ⟨_, rfl⟩
  have zz : w.heap.size < w6.heap.size ∧ D < w6.heap.size ∧ C < w6.heap.size := ⟨A0.lt, P0.lt, C0.1⟩
  have hK : ∀ u : World, Below w6.heap.size w6 u → UK w6 w.heap.size D C (.slice a1 l1.length c1) (.slice a2 l2.length c2) (.slice (some ⟨b, off, none⟩) l3.length c3) s t [x0, x1, x2, x3, x4, x5, x6, x7, x8, x9, x10, x11, x12, x13, x14, x15] u := fun u hu => uk_own rfl ⟨zz.1, zz.2.1⟩ A0.c1 A0.c2 A0.c3 P0.c0 P0.c1 C0 hu
  have hS1 := hK w6 (Below.refl _ _)
  have hS0 := hK w6.drew (Below.refl _ _).drew
  replace hK : Hid (∀ u : World, Below w6.heap.size w6 u → UK w6 w.heap.size D C (.slice a1 l1.length c1) (.slice a2 l2.length c2) (.slice (some ⟨b, off, none⟩) l3.length c3) s t [x0, x1, x2, x3, x4, x5, x6, x7, x8, x9, x10, x11, x12, x13, x14, x15] u) := hK
  have u95 := Try.underlying102
  have i95 : (Try.prog.info? 102).map (·.size) = some (ic [x0, x1, x2, x3, x4, x5, x6, x7, x8, x9, x10, x11, x12, x13, x14, x15]).length := by kernel_rfl
  have HOPV : Hid (openV (clsV l0) l1 [l3.getD k (0, 0)] = am) := by
    show openV (clsV l0) l1 [l3.getD k (0, 0)] = am
    rw [HCE.out, HSG.out]
    simp only [openV, List.all_cons, List.all_nil, Bool.and_true, Int.toNat_natCast]
    rw [hgs.out, hgt.out, ham.out]
  go_cut [50] (fun v50 wz => v50 = .bool (!(am && decide (0 ≤ f) && decide (l2.length + l3.length < 6))) ∧ Below w6.heap.size w6 wz)
  case first =>
    cases am
    · -- not among
      refine wp_region_held_drew (S := fun W => Below w6.heap.size w6 W ∧ W.cell? ⟨w.heap.size, 1, none⟩ = some (.slice a1 l1.length c1) ∧ W.cell? ⟨w.heap.size, 2, none⟩ = some (.slice a2 l2.length c2) ∧ W.cell? ⟨w.heap.size, 3, none⟩ = some (.slice (some ⟨b, off, none⟩) l3.length c3) ∧ W.cell? ⟨D, 0, none⟩ = some (.int .i64 s) ∧ W.cell? ⟨D, 1, none⟩ = some (.int .i64 t) ∧ W.rangeAt C 0 (ic [x0, x1, x2, x3, x4, x5, x6, x7, x8, x9, x10, x11, x12, x13, x14, x15])) (by kernel_rfl) hS0 (fun _ => ?_)
      generalize w6.drew = w7 at *
      refine wpAnyH_take (i := 0) rfl (by kernel_rfl) (by kernel_rfl) (by kernel_rfl) (fun _ _ _ h => h) (yieldsIf_load_mid (by rfl) _ _ rfl _ _ rfl _ _ (fun w' h => h.2.2.2.2.2.2) u95 rfl i95) hS0 ?_
      simp only [Act.put, List.setIfInBounds_toArray, List.set_cons_zero, List.set_cons_succ]
      refine wpAnyH_take (i := 1) (v := .pointer (some ⟨w.heap.size, 1, none⟩)) rfl (by kernel_rfl) (by kernel_rfl) (by kernel_rfl) (fun _ _ _ h => h) (Or.inl ⟨by rfl, ?_⟩) hS0 ?_
      · intro w2 hSw; go_simp
      simp only [Act.put, List.setIfInBounds_toArray, List.set_cons_zero, List.set_cons_succ]
      refine wpAnyH_take (i := 2) (v := .slice a1 l1.length c1) rfl (by kernel_rfl) (by kernel_rfl) (by kernel_rfl) (fun _ _ _ h => h) (Or.inl ⟨by rfl, ?_⟩) hS0 ?_
      · intro w2 hSw; go_simp
      simp only [Act.put, List.setIfInBounds_toArray, List.set_cons_zero, List.set_cons_succ]
      refine wpAnyH_take (i := 3) rfl (by kernel_rfl) (by kernel_rfl) (by kernel_rfl) (fun _ _ _ h => h) (yieldsIf_load_mid (by rfl) _ _ rfl _ _ rfl _ _ (fun w' h => h.2.2.2.2.2.2) u95 rfl i95) hS0 ?_
      simp only [Act.put, List.setIfInBounds_toArray, List.set_cons_zero, List.set_cons_succ]
      refine wpAnyH_take (i := 4) (v := .agg #[.int .i64 (s : Int), .int .i64 (t : Int)]) rfl (by kernel_rfl) (by kernel_rfl) (by kernel_rfl) (fun _ _ _ h => h) (Or.inl ⟨by rfl, ?_⟩) hS0 ?_
      · intro w2 hSw; go_simp
      simp only [Act.put, List.setIfInBounds_toArray, List.set_cons_zero, List.set_cons_succ]
      refine wpAnyH_ready (rs := [5]) (by kernel_rfl) (by simp) ?_
      refine AllReadyH.cons rfl (fun K hK' => ?_) AllReadyH.nil
      rw [if_pos (by rfl)]
      go_simp
      refine (of_any [x0, x1, x2, x3, x4, x5, x6, x7, x8, x9, x10, x11, x12, x13, x14, x15] s t _ rfl es et).mono ?_
      rintro e v0 ⟨rfl, h0⟩
      rw [hgs.out, hgt.out]
      have k1 := hK.out v0 (uk_trans hS0 h0)
      refine hK'.out _ _ k1 (fun _ => ?_)
      clear hK' K h0
      refine wpAnyH_ready (rs := [6]) (by kernel_rfl) (by simp) ?_
      refine AllReadyH.cons rfl (fun K hK' => ?_) AllReadyH.nil
      rw [if_pos (by rfl)]
      go_simp
      refine (among_any [x0, x1, x2, x3, x4, x5, x6, x7, x8, x9, x10, x11, x12, x13, x14, x15] _ _ l1 gs gt HC _ n1 t1 (uk_row r1 k1) bgs bgt).mono ?_
      rintro e v1 ⟨rfl, h1⟩
      rw [ham.out]
      have k2 := hK.out v1 (uk_trans k1 h1)
      refine hK'.out _ _ k2 (fun _ => ?_)
      clear hK' K h1
      refine wpAnyH_take (i := 7) (v := .bool true) rfl (by kernel_rfl) (by kernel_rfl) (by kernel_rfl) (fun _ _ _ h => h) (Or.inl ⟨by rfl, ?_⟩) k2 ?_
      · intro w2 hSw; go_simp
      simp only [Act.put, List.setIfInBounds_toArray, List.set_cons_zero, List.set_cons_succ]
      refine wpAnyH_take (i := 8) (v := .bool true) rfl (by kernel_rfl) (by kernel_rfl) (by kernel_rfl) (fun _ _ _ h => h) (Or.inl ⟨by rfl, ?_⟩) k2 ?_
      · intro w2 hSw; go_simp
      simp only [Act.put, List.setIfInBounds_toArray, List.set_cons_zero, List.set_cons_succ]
      refine wpAnyH_take (i := 9) (v := undef) rfl (by kernel_rfl) (by kernel_rfl) (by kernel_rfl) (fun _ _ _ h => h) (Or.inr ⟨by simp [Region.wanted, yielded], rfl⟩) k2 ?_
      simp only [Act.put, List.setIfInBounds_toArray, List.set_cons_zero, List.set_cons_succ]
      refine wpAnyH_take (i := 10) (v := undef) rfl (by kernel_rfl) (by kernel_rfl) (by kernel_rfl) (fun _ _ _ h => h) (Or.inr ⟨by simp [Region.wanted, yielded], rfl⟩) k2 ?_
      simp only [Act.put, List.setIfInBounds_toArray, List.set_cons_zero, List.set_cons_succ]
      refine wpAnyH_take (i := 11) (v := .bool true) rfl (by kernel_rfl) (by kernel_rfl) (by kernel_rfl) (fun _ _ _ h => h) (Or.inl ⟨by rfl, ?_⟩) k2 ?_
      · intro w2 hSw; go_simp
      simp only [Act.put, List.setIfInBounds_toArray, List.set_cons_zero, List.set_cons_succ]
      refine wpAnyH_take (i := 12) (v := .bool true) rfl (by kernel_rfl) (by kernel_rfl) (by kernel_rfl) (fun _ _ _ h => h) (Or.inl ⟨by rfl, ?_⟩) k2 ?_
      · intro w2 hSw; go_simp
      simp only [Act.put, List.setIfInBounds_toArray, List.set_cons_zero, List.set_cons_succ]
      refine wpAnyH_take (i := 13) (v := undef) rfl (by kernel_rfl) (by kernel_rfl) (by kernel_rfl) (fun _ _ _ h => h) (Or.inr ⟨by simp [Region.wanted, yielded], rfl⟩) k2 ?_
      simp only [Act.put, List.setIfInBounds_toArray, List.set_cons_zero, List.set_cons_succ]
      refine wpAnyH_take (i := 14) (v := undef) rfl (by kernel_rfl) (by kernel_rfl) (by kernel_rfl) (fun _ _ _ h => h) (Or.inr ⟨by simp [Region.wanted, yielded], rfl⟩) k2 ?_
      simp only [Act.put, List.setIfInBounds_toArray, List.set_cons_zero, List.set_cons_succ]
      refine wpAnyH_take (i := 15) (v := undef) rfl (by kernel_rfl) (by kernel_rfl) (by kernel_rfl) (fun _ _ _ h => h) (Or.inr ⟨by simp [Region.wanted, yielded], rfl⟩) k2 ?_
      simp only [Act.put, List.setIfInBounds_toArray, List.set_cons_zero, List.set_cons_succ]
      refine wpAnyH_take (i := 16) (v := undef) rfl (by kernel_rfl) (by kernel_rfl) (by kernel_rfl) (fun _ _ _ h => h) (Or.inr ⟨by simp [Region.wanted, yielded], rfl⟩) k2 ?_
      simp only [Act.put, List.setIfInBounds_toArray, List.set_cons_zero, List.set_cons_succ]
      refine wpAnyH_take (i := 17) (v := undef) rfl (by kernel_rfl) (by kernel_rfl) (by kernel_rfl) (fun _ _ _ h => h) (Or.inr ⟨by simp [Region.wanted, yielded], rfl⟩) k2 ?_
      simp only [Act.put, List.setIfInBounds_toArray, List.set_cons_zero, List.set_cons_succ]
      refine wpAnyH_take (i := 18) (v := undef) rfl (by kernel_rfl) (by kernel_rfl) (by kernel_rfl) (fun _ _ _ h => h) (Or.inr ⟨by simp [Region.wanted, yielded], rfl⟩) k2 ?_
      simp only [Act.put, List.setIfInBounds_toArray, List.set_cons_zero, List.set_cons_succ]
      refine wpAnyH_take (i := 19) (v := undef) rfl (by kernel_rfl) (by kernel_rfl) (by kernel_rfl) (fun _ _ _ h => h) (Or.inr ⟨by simp [Region.wanted, yielded], rfl⟩) k2 ?_
      simp only [Act.put, List.setIfInBounds_toArray, List.set_cons_zero, List.set_cons_succ]
      refine wpAnyH_take (i := 20) (v := undef) rfl (by kernel_rfl) (by kernel_rfl) (by kernel_rfl) (fun _ _ _ h => h) (Or.inr ⟨by simp [Region.wanted, yielded], rfl⟩) k2 ?_
      simp only [Act.put, List.setIfInBounds_toArray, List.set_cons_zero, List.set_cons_succ]
      refine wpAnyH_take (i := 21) (v := .bool true) rfl (by kernel_rfl) (by kernel_rfl) (by kernel_rfl) (fun _ _ _ h => h) (Or.inl ⟨by rfl, ?_⟩) k2 ?_
      · intro w2 hSw; go_simp
      simp only [Act.put, List.setIfInBounds_toArray, List.set_cons_zero, List.set_cons_succ]
      refine wpAnyH_done (by kernel_rfl) ?_ _
      simp only [List.getElem_toArray, List.getElem_cons_succ, List.getElem_cons_zero, Act.put, List.setIfInBounds_toArray, List.set_cons_zero, List.set_cons_succ]
      go_wp2_with fail
      go_meet
      exact ⟨by simp, k2.1⟩
    · by_cases hf : f < 0
      · have hnf : ¬ (0 ≤ f) := by omega
        refine wp_region_held_drew (S := fun W => Below w6.heap.size w6 W ∧ W.cell? ⟨w.heap.size, 1, none⟩ = some (.slice a1 l1.length c1) ∧ W.cell? ⟨w.heap.size, 2, none⟩ = some (.slice a2 l2.length c2) ∧ W.cell? ⟨w.heap.size, 3, none⟩ = some (.slice (some ⟨b, off, none⟩) l3.length c3) ∧ W.cell? ⟨D, 0, none⟩ = some (.int .i64 s) ∧ W.cell? ⟨D, 1, none⟩ = some (.int .i64 t) ∧ W.rangeAt C 0 (ic [x0, x1, x2, x3, x4, x5, x6, x7, x8, x9, x10, x11, x12, x13, x14, x15])) (by kernel_rfl) hS0 (fun _ => ?_)
        generalize w6.drew = w7 at *
        refine wpAnyH_take (i := 0) rfl (by kernel_rfl) (by kernel_rfl) (by kernel_rfl) (fun _ _ _ h => h) (yieldsIf_load_mid (by rfl) _ _ rfl _ _ rfl _ _ (fun w' h => h.2.2.2.2.2.2) u95 rfl i95) hS0 ?_
        simp only [Act.put, List.setIfInBounds_toArray, List.set_cons_zero, List.set_cons_succ]
        refine wpAnyH_take (i := 1) (v := .pointer (some ⟨w.heap.size, 1, none⟩)) rfl (by kernel_rfl) (by kernel_rfl) (by kernel_rfl) (fun _ _ _ h => h) (Or.inl ⟨by rfl, ?_⟩) hS0 ?_
        · intro w2 hSw; go_simp
        simp only [Act.put, List.setIfInBounds_toArray, List.set_cons_zero, List.set_cons_succ]
        refine wpAnyH_take (i := 2) (v := .slice a1 l1.length c1) rfl (by kernel_rfl) (by kernel_rfl) (by kernel_rfl) (fun _ _ _ h => h) (Or.inl ⟨by rfl, ?_⟩) hS0 ?_
        · intro w2 hSw; go_simp
        simp only [Act.put, List.setIfInBounds_toArray, List.set_cons_zero, List.set_cons_succ]
        refine wpAnyH_take (i := 3) rfl (by kernel_rfl) (by kernel_rfl) (by kernel_rfl) (fun _ _ _ h => h) (yieldsIf_load_mid (by rfl) _ _ rfl _ _ rfl _ _ (fun w' h => h.2.2.2.2.2.2) u95 rfl i95) hS0 ?_
        simp only [Act.put, List.setIfInBounds_toArray, List.set_cons_zero, List.set_cons_succ]
        refine wpAnyH_take (i := 4) (v := .agg #[.int .i64 (s : Int), .int .i64 (t : Int)]) rfl (by kernel_rfl) (by kernel_rfl) (by kernel_rfl) (fun _ _ _ h => h) (Or.inl ⟨by rfl, ?_⟩) hS0 ?_
        · intro w2 hSw; go_simp
        simp only [Act.put, List.setIfInBounds_toArray, List.set_cons_zero, List.set_cons_succ]
        refine wpAnyH_ready (rs := [5]) (by kernel_rfl) (by simp) ?_
        refine AllReadyH.cons rfl (fun K hK' => ?_) AllReadyH.nil
        rw [if_pos (by rfl)]
        go_simp
        refine (of_any [x0, x1, x2, x3, x4, x5, x6, x7, x8, x9, x10, x11, x12, x13, x14, x15] s t _ rfl es et).mono ?_
        rintro e v0 ⟨rfl, h0⟩
        rw [hgs.out, hgt.out]
        have k1 := hK.out v0 (uk_trans hS0 h0)
        refine hK'.out _ _ k1 (fun _ => ?_)
        clear hK' K h0
        refine wpAnyH_ready (rs := [6]) (by kernel_rfl) (by simp) ?_
        refine AllReadyH.cons rfl (fun K hK' => ?_) AllReadyH.nil
        rw [if_pos (by rfl)]
        go_simp
        refine (among_any [x0, x1, x2, x3, x4, x5, x6, x7, x8, x9, x10, x11, x12, x13, x14, x15] _ _ l1 gs gt HC _ n1 t1 (uk_row r1 k1) bgs bgt).mono ?_
        rintro e v1 ⟨rfl, h1⟩
        rw [ham.out]
        have k2 := hK.out v1 (uk_trans k1 h1)
        refine hK'.out _ _ k2 (fun _ => ?_)
        clear hK' K h1
        refine wpAnyH_take (i := 7) (v := .bool false) rfl (by kernel_rfl) (by kernel_rfl) (by kernel_rfl) (fun _ _ _ h => h) (Or.inl ⟨by rfl, ?_⟩) k2 ?_
        · intro w2 hSw; go_simp
        simp only [Act.put, List.setIfInBounds_toArray, List.set_cons_zero, List.set_cons_succ]
        refine wpAnyH_take (i := 8) (v := .bool false) rfl (by kernel_rfl) (by kernel_rfl) (by kernel_rfl) (fun _ _ _ h => h) (Or.inl ⟨by rfl, ?_⟩) k2 ?_
        · intro w2 hSw; go_simp
        simp only [Act.put, List.setIfInBounds_toArray, List.set_cons_zero, List.set_cons_succ]
        refine wpAnyH_take (i := 9) (v := .int .i64 f) rfl (by kernel_rfl) (by kernel_rfl) (by kernel_rfl) (fun _ _ _ h => h) (Or.inl ⟨by simp [Region.wanted, yielded], ?_⟩) k2 ?_
        · intro w2 hSw; go_simp
        simp only [Act.put, List.setIfInBounds_toArray, List.set_cons_zero, List.set_cons_succ]
        refine wpAnyH_take (i := 10) (v := .bool true) rfl (by kernel_rfl) (by kernel_rfl) (by kernel_rfl) (fun _ _ _ h => h) (Or.inl ⟨by simp [Region.wanted, yielded], ?_⟩) k2 ?_
        · intro w2 hSw; go_simp
        simp only [Act.put, List.setIfInBounds_toArray, List.set_cons_zero, List.set_cons_succ]
        refine wpAnyH_take (i := 11) (v := .bool true) rfl (by kernel_rfl) (by kernel_rfl) (by kernel_rfl) (fun _ _ _ h => h) (Or.inl ⟨by rfl, ?_⟩) k2 ?_
        · intro w2 hSw; go_simp
        simp only [Act.put, List.setIfInBounds_toArray, List.set_cons_zero, List.set_cons_succ]
        refine wpAnyH_take (i := 12) (v := .bool true) rfl (by kernel_rfl) (by kernel_rfl) (by kernel_rfl) (fun _ _ _ h => h) (Or.inl ⟨by rfl, ?_⟩) k2 ?_
        · intro w2 hSw; go_simp
        simp only [Act.put, List.setIfInBounds_toArray, List.set_cons_zero, List.set_cons_succ]
        refine wpAnyH_take (i := 13) (v := undef) rfl (by kernel_rfl) (by kernel_rfl) (by kernel_rfl) (fun _ _ _ h => h) (Or.inr ⟨by simp [Region.wanted, yielded], rfl⟩) k2 ?_
        simp only [Act.put, List.setIfInBounds_toArray, List.set_cons_zero, List.set_cons_succ]
        refine wpAnyH_take (i := 14) (v := undef) rfl (by kernel_rfl) (by kernel_rfl) (by kernel_rfl) (fun _ _ _ h => h) (Or.inr ⟨by simp [Region.wanted, yielded], rfl⟩) k2 ?_
        simp only [Act.put, List.setIfInBounds_toArray, List.set_cons_zero, List.set_cons_succ]
        refine wpAnyH_take (i := 15) (v := undef) rfl (by kernel_rfl) (by kernel_rfl) (by kernel_rfl) (fun _ _ _ h => h) (Or.inr ⟨by simp [Region.wanted, yielded], rfl⟩) k2 ?_
        simp only [Act.put, List.setIfInBounds_toArray, List.set_cons_zero, List.set_cons_succ]
        refine wpAnyH_take (i := 16) (v := undef) rfl (by kernel_rfl) (by kernel_rfl) (by kernel_rfl) (fun _ _ _ h => h) (Or.inr ⟨by simp [Region.wanted, yielded], rfl⟩) k2 ?_
        simp only [Act.put, List.setIfInBounds_toArray, List.set_cons_zero, List.set_cons_succ]
        refine wpAnyH_take (i := 17) (v := undef) rfl (by kernel_rfl) (by kernel_rfl) (by kernel_rfl) (fun _ _ _ h => h) (Or.inr ⟨by simp [Region.wanted, yielded], rfl⟩) k2 ?_
        simp only [Act.put, List.setIfInBounds_toArray, List.set_cons_zero, List.set_cons_succ]
        refine wpAnyH_take (i := 18) (v := undef) rfl (by kernel_rfl) (by kernel_rfl) (by kernel_rfl) (fun _ _ _ h => h) (Or.inr ⟨by simp [Region.wanted, yielded], rfl⟩) k2 ?_
        simp only [Act.put, List.setIfInBounds_toArray, List.set_cons_zero, List.set_cons_succ]
        refine wpAnyH_take (i := 19) (v := undef) rfl (by kernel_rfl) (by kernel_rfl) (by kernel_rfl) (fun _ _ _ h => h) (Or.inr ⟨by simp [Region.wanted, yielded], rfl⟩) k2 ?_
        simp only [Act.put, List.setIfInBounds_toArray, List.set_cons_zero, List.set_cons_succ]
        refine wpAnyH_take (i := 20) (v := undef) rfl (by kernel_rfl) (by kernel_rfl) (by kernel_rfl) (fun _ _ _ h => h) (Or.inr ⟨by simp [Region.wanted, yielded], rfl⟩) k2 ?_
        simp only [Act.put, List.setIfInBounds_toArray, List.set_cons_zero, List.set_cons_succ]
        refine wpAnyH_take (i := 21) (v := .bool true) rfl (by kernel_rfl) (by kernel_rfl) (by kernel_rfl) (fun _ _ _ h => h) (Or.inl ⟨by rfl, ?_⟩) k2 ?_
        · intro w2 hSw; go_simp
        simp only [Act.put, List.setIfInBounds_toArray, List.set_cons_zero, List.set_cons_succ]
        refine wpAnyH_done (by kernel_rfl) ?_ _
        go_wp2_with fail
        go_meet
        exact ⟨by simp [hnf], k2.1⟩
      · have hnf : 0 ≤ f := by omega
        have hsum : (6 ≤ (l2.length : Int) + (l3.length : Int)) ↔ ¬ (l2.length + l3.length < 6) := by omega
        have HSUM : Hid (Value.bool (decide (6 ≤ (l2.length : Int) + (l3.length : Int))) = .bool (!(true && decide (0 ≤ f) && decide (l2.length + l3.length < 6)))) := by
          show Value.bool _ = Value.bool _
          rw [decide_eq_true hnf]
          simp only [hsum, Bool.true_and, decide_not]
        clear hsum hnf
        have hw23 : IntKind.i64.wrap ((l2.length : Int) + (l3.length : Int)) = (l2.length : Int) + (l3.length : Int) := by rw [IntKind.wrap_i64]; omega
        refine wp_region_held_drew (S := fun W => Below w6.heap.size w6 W ∧ W.cell? ⟨w.heap.size, 1, none⟩ = some (.slice a1 l1.length c1) ∧ W.cell? ⟨w.heap.size, 2, none⟩ = some (.slice a2 l2.length c2) ∧ W.cell? ⟨w.heap.size, 3, none⟩ = some (.slice (some ⟨b, off, none⟩) l3.length c3) ∧ W.cell? ⟨D, 0, none⟩ = some (.int .i64 s) ∧ W.cell? ⟨D, 1, none⟩ = some (.int .i64 t) ∧ W.rangeAt C 0 (ic [x0, x1, x2, x3, x4, x5, x6, x7, x8, x9, x10, x11, x12, x13, x14, x15])) (by kernel_rfl) hS0 (fun _ => ?_)
        generalize w6.drew = w7 at *
        refine wpAnyH_take (i := 0) rfl (by kernel_rfl) (by kernel_rfl) (by kernel_rfl) (fun _ _ _ h => h) (yieldsIf_load_mid (by rfl) _ _ rfl _ _ rfl _ _ (fun w' h => h.2.2.2.2.2.2) u95 rfl i95) hS0 ?_
        simp only [Act.put, List.setIfInBounds_toArray, List.set_cons_zero, List.set_cons_succ]
        refine wpAnyH_take (i := 1) (v := .pointer (some ⟨w.heap.size, 1, none⟩)) rfl (by kernel_rfl) (by kernel_rfl) (by kernel_rfl) (fun _ _ _ h => h) (Or.inl ⟨by rfl, ?_⟩) hS0 ?_
        · intro w2 hSw; go_simp
        simp only [Act.put, List.setIfInBounds_toArray, List.set_cons_zero, List.set_cons_succ]
        refine wpAnyH_take (i := 2) (v := .slice a1 l1.length c1) rfl (by kernel_rfl) (by kernel_rfl) (by kernel_rfl) (fun _ _ _ h => h) (Or.inl ⟨by rfl, ?_⟩) hS0 ?_
        · intro w2 hSw; go_simp
        simp only [Act.put, List.setIfInBounds_toArray, List.set_cons_zero, List.set_cons_succ]
        refine wpAnyH_take (i := 3) rfl (by kernel_rfl) (by kernel_rfl) (by kernel_rfl) (fun _ _ _ h => h) (yieldsIf_load_mid (by rfl) _ _ rfl _ _ rfl _ _ (fun w' h => h.2.2.2.2.2.2) u95 rfl i95) hS0 ?_
        simp only [Act.put, List.setIfInBounds_toArray, List.set_cons_zero, List.set_cons_succ]
        refine wpAnyH_take (i := 4) (v := .agg #[.int .i64 (s : Int), .int .i64 (t : Int)]) rfl (by kernel_rfl) (by kernel_rfl) (by kernel_rfl) (fun _ _ _ h => h) (Or.inl ⟨by rfl, ?_⟩) hS0 ?_
        · intro w2 hSw; go_simp
        simp only [Act.put, List.setIfInBounds_toArray, List.set_cons_zero, List.set_cons_succ]
        refine wpAnyH_ready (rs := [5]) (by kernel_rfl) (by simp) ?_
        refine AllReadyH.cons rfl (fun K hK' => ?_) AllReadyH.nil
        rw [if_pos (by rfl)]
        go_simp
        refine (of_any [x0, x1, x2, x3, x4, x5, x6, x7, x8, x9, x10, x11, x12, x13, x14, x15] s t _ rfl es et).mono ?_
        rintro e v0 ⟨rfl, h0⟩
        rw [hgs.out, hgt.out]
        have k1 := hK.out v0 (uk_trans hS0 h0)
        refine hK'.out _ _ k1 (fun _ => ?_)
        clear hK' K h0
        refine wpAnyH_ready (rs := [6]) (by kernel_rfl) (by simp) ?_
        refine AllReadyH.cons rfl (fun K hK' => ?_) AllReadyH.nil
        rw [if_pos (by rfl)]
        go_simp
        refine (among_any [x0, x1, x2, x3, x4, x5, x6, x7, x8, x9, x10, x11, x12, x13, x14, x15] _ _ l1 gs gt HC _ n1 t1 (uk_row r1 k1) bgs bgt).mono ?_
        rintro e v1 ⟨rfl, h1⟩
        rw [ham.out]
        have k2 := hK.out v1 (uk_trans k1 h1)
        refine hK'.out _ _ k2 (fun _ => ?_)
        clear hK' K h1
        refine wpAnyH_take (i := 7) (v := .bool false) rfl (by kernel_rfl) (by kernel_rfl) (by kernel_rfl) (fun _ _ _ h => h) (Or.inl ⟨by rfl, ?_⟩) k2 ?_
        · intro w2 hSw; go_simp
        simp only [Act.put, List.setIfInBounds_toArray, List.set_cons_zero, List.set_cons_succ]
        refine wpAnyH_take (i := 8) (v := .bool false) rfl (by kernel_rfl) (by kernel_rfl) (by kernel_rfl) (fun _ _ _ h => h) (Or.inl ⟨by rfl, ?_⟩) k2 ?_
        · intro w2 hSw; go_simp
        simp only [Act.put, List.setIfInBounds_toArray, List.set_cons_zero, List.set_cons_succ]
        refine wpAnyH_take (i := 9) (v := .int .i64 f) rfl (by kernel_rfl) (by kernel_rfl) (by kernel_rfl) (fun _ _ _ h => h) (Or.inl ⟨by simp [Region.wanted, yielded], ?_⟩) k2 ?_
        · intro w2 hSw; go_simp
        simp only [Act.put, List.setIfInBounds_toArray, List.set_cons_zero, List.set_cons_succ]
        refine wpAnyH_take (i := 10) (v := .bool false) rfl (by kernel_rfl) (by kernel_rfl) (by kernel_rfl) (fun _ _ _ h => h) (Or.inl ⟨by simp [Region.wanted, yielded], ?_⟩) k2 ?_
        · intro w2 hSw; go_simp
        simp only [Act.put, List.setIfInBounds_toArray, List.set_cons_zero, List.set_cons_succ]
        refine wpAnyH_take (i := 11) (v := .bool false) rfl (by kernel_rfl) (by kernel_rfl) (by kernel_rfl) (fun _ _ _ h => h) (Or.inl ⟨by rfl, ?_⟩) k2 ?_
        · intro w2 hSw; go_simp
        simp only [Act.put, List.setIfInBounds_toArray, List.set_cons_zero, List.set_cons_succ]
        refine wpAnyH_take (i := 12) (v := .bool false) rfl (by kernel_rfl) (by kernel_rfl) (by kernel_rfl) (fun _ _ _ h => h) (Or.inl ⟨by rfl, ?_⟩) k2 ?_
        · intro w2 hSw; go_simp
        simp only [Act.put, List.setIfInBounds_toArray, List.set_cons_zero, List.set_cons_succ]
        refine wpAnyH_take (i := 13) (v := .pointer (some ⟨w.heap.size, 2, none⟩)) rfl (by kernel_rfl) (by kernel_rfl) (by kernel_rfl) (fun _ _ _ h => h) (Or.inl ⟨by simp [Region.wanted, yielded], ?_⟩) k2 ?_
        · intro w2 hSw; go_simp
        simp only [Act.put, List.setIfInBounds_toArray, List.set_cons_zero, List.set_cons_succ]
        refine wpAnyH_take (i := 14) (v := .slice a2 l2.length c2) rfl (by kernel_rfl) (by kernel_rfl) (by kernel_rfl) (fun _ _ _ h => h) (Or.inl ⟨by simp [Region.wanted, yielded], ?_⟩) k2 ?_
        · intro w2 hSw; go_simp
        simp only [Act.put, List.setIfInBounds_toArray, List.set_cons_zero, List.set_cons_succ]
        refine wpAnyH_take (i := 15) (v := .int .i64 (l2.length : Int)) rfl (by kernel_rfl) (by kernel_rfl) (by kernel_rfl) (fun _ _ _ h => h) (Or.inl ⟨by simp [Region.wanted, yielded], ?_⟩) k2 ?_
        · intro w2 hSw; go_simp
        simp only [Act.put, List.setIfInBounds_toArray, List.set_cons_zero, List.set_cons_succ]
        refine wpAnyH_take (i := 16) (v := .pointer (some ⟨w.heap.size, 3, none⟩)) rfl (by kernel_rfl) (by kernel_rfl) (by kernel_rfl) (fun _ _ _ h => h) (Or.inl ⟨by simp [Region.wanted, yielded], ?_⟩) k2 ?_
        · intro w2 hSw; go_simp
        simp only [Act.put, List.setIfInBounds_toArray, List.set_cons_zero, List.set_cons_succ]
        refine wpAnyH_take (i := 17) (v := .slice (some ⟨b, off, none⟩) l3.length c3) rfl (by kernel_rfl) (by kernel_rfl) (by kernel_rfl) (fun _ _ _ h => h) (Or.inl ⟨by simp [Region.wanted, yielded], ?_⟩) k2 ?_
        · intro w2 hSw; go_simp
        simp only [Act.put, List.setIfInBounds_toArray, List.set_cons_zero, List.set_cons_succ]
        refine wpAnyH_take (i := 18) (v := .int .i64 (l3.length : Int)) rfl (by kernel_rfl) (by kernel_rfl) (by kernel_rfl) (fun _ _ _ h => h) (Or.inl ⟨by simp [Region.wanted, yielded], ?_⟩) k2 ?_
        · intro w2 hSw; go_simp
        simp only [Act.put, List.setIfInBounds_toArray, List.set_cons_zero, List.set_cons_succ]
        refine wpAnyH_take (i := 19) (v := .int .i64 ((l2.length : Int) + (l3.length : Int))) rfl (by kernel_rfl) (by kernel_rfl) (by kernel_rfl) (fun _ _ _ h => h) (Or.inl ⟨by simp [Region.wanted, yielded], ?_⟩) k2 ?_
        · intro w2 hSw; go_simp
        simp only [Act.put, List.setIfInBounds_toArray, List.set_cons_zero, List.set_cons_succ]
        refine wpAnyH_take (i := 20) (v := .bool (decide (6 ≤ (l2.length : Int) + (l3.length : Int)))) rfl (by kernel_rfl) (by kernel_rfl) (by kernel_rfl) (fun _ _ _ h => h) (Or.inl ⟨by simp [Region.wanted, yielded], ?_⟩) k2 ?_
        · intro w2 hSw; go_simp
        simp only [Act.put, List.setIfInBounds_toArray, List.set_cons_zero, List.set_cons_succ]
        refine wpAnyH_take (i := 21) (v := .bool (decide (6 ≤ (l2.length : Int) + (l3.length : Int)))) rfl (by kernel_rfl) (by kernel_rfl) (by kernel_rfl) (fun _ _ _ h => h) (Or.inl ⟨by rfl, ?_⟩) k2 ?_
        · intro w2 hSw; go_simp
        simp only [Act.put, List.setIfInBounds_toArray, List.set_cons_zero, List.set_cons_succ]
        refine wpAnyH_done (by kernel_rfl) ?_ _
        go_wp2_with fail
        go_meet
        exact ⟨HSUM.out, k2.1⟩
  case rest =>
    obtain ⟨rfl, hb⟩ := hcut
    rename World => w8
    clear hK hS0 hS1 u95 i95 zz C0
    have z68 := hb.size
    replace R0 := R0.below hb R0.lt; replace L0 := L0.trans (hb.mono L0.size); replace X0 := X0.below hb X0.lt; replace T := T.below hb (by omega); replace P0 := P0.below hb P0.lt
    clear hb A0 r0 r1 r2 r3
    by_cases hall : (am && decide (0 ≤ f) && decide (l2.length + l3.length < 6)) = true
    rotate_left
    · replace hall : (am && decide (0 ≤ f) && decide (l2.length + l3.length < 6)) = false := by simpa using hall
      rw [hall]
      have HE : Hid ((unfB l0 l1 l2 l3 (k : Int)) = false) := by show (unfB l0 l1 l2 l3 (k : Int)) = false; unfold unfB; rw [Int.toNat_natCast, HOPV.out, hff.out, Bool.and_assoc, Bool.and_assoc, Bool.and_assoc, ← Bool.and_assoc am, hall]; simp
      obtain ⟨F, FO⟩ := R0.fill (.slice none 0 0) (.slice none 0 0) (.slice none 0 0) (.slice none 0 0)
      have j0' := R0.c0; have j1' := R0.c1; have j2' := R0.c2; have j3' := R0.c3
      have g0 := R0.f0; have g1 := R0.f1; have g2 := R0.f2; have g3 := R0.f3
      go_wp2
      have i0 := F.c0; have i1 := F.c1; have i2 := F.c2; have i3 := F.c3
      refine bodyPost_ret (v := .tuple #[.agg #[.slice none 0 0, .slice none 0 0, .slice none 0 0, .slice none 0 0], .bool false]) ?_ rfl ⟨none, none, none, none, 0, 0, 0, 0, by rw [HE.out]; rfl, ?_, ?_⟩
      · simp [results, Try.results90, go_sem, i0, i1, i2, i3]
      · rw [HE.out]; exact (Four.none _ w.heap.size).mono (Nat.le_refl _) (by have := FO.size; have := L0.size; omega)
      · exact L0.trans (FO.below (by omega) L0.size)

    rw [hall]
    obtain ⟨⟨ham1, hf0⟩, hlt6⟩ : (am = true ∧ 0 ≤ f) ∧ l2.length + l3.length < 6 := by simpa using hall
    have HE : Hid (unfB l0 l1 l2 l3 (k : Int) = true) := by
      show unfB l0 l1 l2 l3 (k : Int) = true
      unfold unfB
      rw [Int.toNat_natCast, HT.out, HOPV.out, hff.out, ham1, decide_eq_true hf0, decide_eq_true hlt6, decide_eq_true (by omega)]
      rfl
    clear hall ham1 hlt6
    obtain ⟨s0, u0, s1, u1, s2, u2, s3, u3, ⟨f0a, f0b, F0⟩, ⟨f1a, f1b, F1⟩, ⟨f2a, f2b, F2⟩, ⟨f3a, f3b, F3⟩, d01, d02, d03, d12, d13, d23⟩ := T
    have e3 : ((l3.take k ++ l3.drop (k + 1))).length = (k + (l3.length - (k + 1))) := by simp; omega
    -- Cells
    have x2 := X0.c2
    have y0' := P0.c0
    have zX8 := X0.lt
    have zD8 := P0.lt
    go_wp2_with fail
    have al : Below w8.heap.size w8 (w8.alloc (.cells #[.int .i64 (s : Int), .int .i64 f] 69)) := (Below.refl _ _).alloc (Nat.le_refl _) _
    have K8 := own_pair w8 (s : Int) f
    refine (behind_any p2 (some ⟨w8.heap.size, 0, none⟩) l2.length 1 q2 1 l2 [((s : Int), f)] _ rfl rfl (by omega) (F2.row.below al (Nat.le_refl _)) K8.row y2.1 (fun e => by cases e)).mono ?_
    rintro e w9 ⟨pC, qC, rfl, G2, _, hb⟩
    have bb : Below w8.heap.size w8 w9 := al.trans (hb.mono al.size)
    have z89 := al.size
    replace G2 := G2.mono z89 (Nat.le_refl _)
    have z9 := bb.size
    replace R0 := R0.below bb R0.lt; replace L0 := L0.trans (bb.mono L0.size); replace X0 := X0.below bb X0.lt; replace P0 := P0.below bb P0.lt
    replace F0 := F0.below bb (by omega); replace F1 := F1.below bb (by omega); replace F3 := F3.below bb (by omega)
    clear bb hb al K8 x2 y0' F2
    have x2 := X0.c2; have xf := X0.f2
    go_upto_region 10 with fail
    have ho := Out.set X 2 w9 (.slice pC (l2.length + 1) qC)
    replace X0 := X0.set2 (.slice pC (l2.length + 1) qC)
    replace R0 := R0.out ho (.inl (by omega)); replace L0 := L0.trans (ho.below (by omega) L0.size); replace P0 := P0.out ho (.inr (by omega))
    replace F0 := F0.out ho (.inl (by omega)); replace F1 := F1.out ho (.inl (by omega)); replace F3 := F3.out ho (.inl (by omega)); replace G2 := G2.out ho (.inr (by omega))
    have hsz : w9.heap.size ≤ (w9.setCell ⟨X, 2, none⟩ (.slice pC (l2.length + 1) qC)).heap.size := ho.size
    clear ho x2 xf
    generalize w9.setCell ⟨X, 2, none⟩ (.slice pC (l2.length + 1) qC) = wA at *
    -- Segs
    have x3 := X0.c3
    have y1' := P0.c1
    have zXA := X0.lt
    have zDA := P0.lt
    go_wp2_with fail
    have al : Below wA.heap.size wA (wA.alloc (.cells #[.int .i64 f, .int .i64 (t : Int)] 69)) := (Below.refl _ _).alloc (Nat.le_refl _) _
    have K8 := own_pair wA f (t : Int)
    refine (behind_any p3 (some ⟨wA.heap.size, 0, none⟩) (k + (l3.length - (k + 1))) 1 q3 1 (l3.take k ++ l3.drop (k + 1)) [(f, (t : Int))] _ e3 rfl (by omega) (F3.row.below al (Nat.le_refl _)) K8.row y3.1 (fun e => by cases e)).mono ?_
    rintro e wB ⟨pS, qS, rfl, G3, _, hb⟩
    have bb : Below wA.heap.size wA wB := al.trans (hb.mono al.size)
    have zAB := al.size
    replace G3 := G3.mono zAB (Nat.le_refl _)
    have zB := bb.size
    replace R0 := R0.below bb R0.lt; replace L0 := L0.trans (bb.mono L0.size); replace X0 := X0.below bb X0.lt
    replace F0 := F0.below bb (by omega); replace F1 := F1.below bb (by omega); replace G2 := G2.below bb (by omega)
    clear bb hb al K8 x3 y1' F3 P0
    have x3 := X0.c3; have xf := X0.f3
    go_upto_region 11 with fail
    have ho := Out.set X 3 wB (.slice pS ((k + (l3.length - (k + 1))) + 1) qS)
    replace X0 := X0.set3 (.slice pS ((k + (l3.length - (k + 1))) + 1) qS)
    replace R0 := R0.out ho (.inl (by omega)); replace L0 := L0.trans (ho.below (by omega) L0.size)
    replace F0 := F0.out ho (.inl (by omega)); replace F1 := F1.out ho (.inl (by omega)); replace G2 := G2.out ho (.inr (by omega)); replace G3 := G3.out ho (.inr (by omega))
    have hsz2 : wB.heap.size ≤ (wB.setCell ⟨X, 3, none⟩ (.slice pS ((k + (l3.length - (k + 1))) + 1) qS)).heap.size := ho.size
    clear ho x3 xf
    generalize wB.setCell ⟨X, 3, none⟩ (.slice pS ((k + (l3.length - (k + 1))) + 1) qS) = wC at *
    obtain ⟨F, FO⟩ := R0.fill (.slice p0 l0.length q0) (.slice p1 l1.length q1) (.slice pC (l2.length + 1) qC) (.slice pS ((k + (l3.length - (k + 1))) + 1) qS)
    have x0 := X0.c0; have x1 := X0.c1; have x2 := X0.c2; have x3 := X0.c3
    have j0' := R0.c0; have j1' := R0.c1; have j2' := R0.c2; have j3' := R0.c3
    have g0 := R0.f0; have g1 := R0.f1; have g2 := R0.f2; have g3 := R0.f3
    go_wp2
    have i0 := F.c0; have i1 := F.c1; have i2 := F.c2; have i3 := F.c3
    have EL2 : (unfC l2 (l3.getD k (0, 0)) f).length = l2.length + 1 := by simp [unfC]
    have EL3 : (unfS l3 k (l3.getD k (0, 0)) f).length = (k + (l3.length - (k + 1))) + 1 := by simp [unfS]; omega
    refine bodyPost_ret (v := .tuple #[.agg #[.slice p0 l0.length q0, .slice p1 l1.length q1, .slice pC (l2.length + 1) qC, .slice pS ((k + (l3.length - (k + 1))) + 1) qS], .bool true]) ?_ rfl ⟨p0, p1, pC, pS, q0, q1, qC, qS, by rw [HE.out, Int.toNat_natCast, hff.out]; simp only [okL, if_true, EL2, EL3], ?_, ?_⟩
    · simp [results, Try.results90, go_sem, i0, i1, i2, i3]
    · rw [HE.out, Int.toNat_natCast, hff.out]
      simp only [okL, if_true, EL2, EL3]
      rw [HSG.out]
      have hfs := FO.size
      refine ⟨s0, u0, s1, u1, w8.heap.size, w9.heap.size, wA.heap.size, wB.heap.size, ⟨by omega, by omega, F0.out FO (.inr (by omega))⟩, ⟨by omega, by omega, F1.out FO (.inr (by omega))⟩, ⟨by omega, by omega, G2.out FO (.inr (by omega))⟩, ⟨by omega, by omega, G3.out FO (.inr (by omega))⟩, d01, .inl (by omega), .inl (by omega), .inl (by omega), .inl (by omega), .inl (by omega)⟩
    · exact L0.trans (FO.below (by omega) L0.size)

end Go.Proofs.Ytphchdjbhbmnbaa
