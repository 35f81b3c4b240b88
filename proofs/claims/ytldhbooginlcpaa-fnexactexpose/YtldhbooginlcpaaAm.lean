/-
  The method among of classes: is one of a list's pairs of these two classes?
-/
import Derived.Test.YtldhbooginlcpaaL3
import Derived.Test.YtldhbooginlcpaaCl
namespace Go.Proofs.Ytldhbooginlcpaa
open Go.RowKit
/-- Two and two are the same, either way about. -/
def pairIs (u v x y : Int) : Bool := decide (u = x ∧ v = y ∨ u = y ∧ v = x)
theorem pairIs_cpl {u v x y : Int} (hu : 0 ≤ u ∧ u < 16) (hv : 0 ≤ v ∧ v < 16) (hx : 0 ≤ x ∧ x < 16) (hy : 0 ≤ y ∧ y < 16) :
    (FloatKind.f64.format.order (fl (min u v)) (fl (min x y)) == some .eq && FloatKind.f64.format.order (fl (max u v)) (fl (max x y)) == some .eq) = pairIs u v x y := by
  rw [fl_order (by omega) (by omega) (by omega) (by omega), fl_order (by omega) (by omega) (by omega) (by omega)]
  unfold pairIs
  rw [← Bool.decide_and]
  exact decide_eq_decide.2 (by omega)
def amongV (c : List Int) (l : List (Int × Int)) (x y : Int) : Bool := l.any fun p => pairIs (c.getD p.1.toNat 0) (c.getD p.2.toNat 0) x y
theorem among_hit {c : List Int} {l : List (Int × Int)} {x y : Int} {k : Nat} (hk : k < l.length) (h : pairIs (c.getD (l.getD k (0, 0)).1.toNat 0) (c.getD (l.getD k (0, 0)).2.toNat 0) x y = true) : amongV c l x y = true := by
  unfold amongV
  rw [List.any_eq_true]
  refine ⟨l[k], List.getElem_mem hk, ?_⟩
  simpa [hk] using h
theorem among_none {c : List Int} {l : List (Int × Int)} {x y : Int} (h : ∀ k, k < l.length → pairIs (c.getD (l.getD k (0, 0)).1.toNat 0) (c.getD (l.getD k (0, 0)).2.toNat 0) x y = false) : amongV c l x y = false := by
  unfold amongV
  rw [List.any_eq_false]
  intro p hp
  obtain ⟨k, hk, rfl⟩ := List.getElem_of_mem hp
  have := h k hk
  simpa [hk] using this
theorem eql73 (a b c d : Nat) (w : World) : (binOp .eql 101 (.complex .f64 a b) (.complex .f64 c d)).run Try.prog w = .ok (.bool (FloatKind.f64.format.order a c == some .eq && FloatKind.f64.format.order b d == some .eq)) w := run_eql_complex (P := Try.prog) w 101 .f64 a b c d

set_option maxRecDepth 3000 in
set_option maxHeartbeats 1000000 in
theorem among_any (c : List Int) (a : Option Addr) (cp : Nat) (l : List (Int × Int)) (x y : Int) (hc : Cls c) (w : World) (hn : l.length ≤ 1048576) (ht : toks l = true) (hr : PRow w a l) (hx : 0 ≤ x ∧ x < 16) (hy : 0 ≤ y ∧ y < 16) :
    Calls Try.prog 139 #[aV c, .slice a l.length cp, cplV x y] w fun e w' => e = .returned (.bool (amongV c l x y)) ∧ Below w.heap.size w w' := by
  have CW := OwnI.new w c 16 hc.1 95
  have LW : Below w.heap.size w (w.alloc (.cells (ic c).toArray 95)) := (Below.refl _ _).alloc (Nat.le_refl _) _
  have HC : Hid (Cls c) := hc
  have HXY : Hid ((0 ≤ x ∧ x < 16) ∧ (0 ≤ y ∧ y < 16)) := ⟨hx, hy⟩
  clear hc hx hy
  unfold cplV
  obtain ⟨f1, hf1⟩ : ∃ f, f = fl (min x y) := ⟨_, rfl⟩
  obtain ⟨f2, hf2⟩ : ∃ f, f = fl (max x y) := ⟨_, rfl⟩
  rw [← hf1, ← hf2]
  replace hf1 : Hid (f1 = fl (min x y)) := hf1
  replace hf2 : Hid (f2 = fl (max x y)) := hf2
  unfold aV
  go_enter Try.func139, Try.ntmps139
  go_wp2_with fail
  generalize w.alloc (.cells (ic c).toArray 95) = W at *
  go_loopw [11] (fun i wr => ∃ k : Nat, k ≤ l.length ∧ i = .int .i64 k ∧ Hid (∀ j, j < k → pairIs (c.getD (l.getD j (0, 0)).1.toNat 0) (c.getD (l.getD j (0, 0)).2.toNat 0) x y = false) ∧ OwnI wr w.heap.size 16 c 16 ∧ Below w.heap.size w wr) (fun i _ => l.length - (intOf i).toNat)
  case atStart => exact ⟨0, Nat.zero_le _, rfl, fun j hj => absurd hj (Nat.not_lt_zero _), CW, LW⟩
  case round =>
    clear CW LW
    obtain ⟨k, hk, rfl, HM, C, L⟩ := hrel
    by_cases hlt : k < l.length
    · rcases hr with hnil | ⟨b, off, rfl, hb, hcl⟩
      · rw [hnil] at hlt; simp at hlt
      have hq0 : wr.cell? ⟨b, off + k * 2, none⟩ = some (.int .i64 (l.getD k (0, 0)).1) := by rw [L.cell (p := ⟨b, _, none⟩) hb]; exact (hcl k hlt).1
      have hq1 : wr.cell? ⟨b, off + k * 2 + 1, none⟩ = some (.int .i64 (l.getD k (0, 0)).2) := by rw [L.cell (p := ⟨b, _, none⟩) hb]; exact (hcl k hlt).2
      have hkn : (k : Int) < (l.length : Int) := by omega
      have hk0' : (0 : Int) ≤ (k : Int) := by omega
      have htk := toks_get ht hlt
      have HHIT : Hid (pairIs (c.getD (l.getD k (0, 0)).1.toNat 0) (c.getD (l.getD k (0, 0)).2.toNat 0) x y = true → amongV c l x y = true) := fun h => among_hit hlt h
      have HM2 : Hid (pairIs (c.getD (l.getD k (0, 0)).1.toNat 0) (c.getD (l.getD k (0, 0)).2.toNat 0) x y = false → ∀ j, j < k + 1 → pairIs (c.getD (l.getD j (0, 0)).1.toNat 0) (c.getD (l.getD j (0, 0)).2.toNat 0) x y = false) := by
        intro hf j hj
        by_cases e : j = k
        · subst e; exact hf
        · exact HM.out j (by omega)
      generalize l.getD k (0, 0) = p at *
      clear hcl
      obtain ⟨⟨q1, q2⟩, q3, q4⟩ := htk
      obtain ⟨s, t, rfl, hs, hts⟩ : ∃ s t : Nat, p = ((s : Int), (t : Int)) ∧ s < 16 ∧ t < 16 := ⟨p.1.toNat, p.2.toNat, by rw [Int.toNat_of_nonneg q1, Int.toNat_of_nonneg q3], by omega, by omega⟩
      clear q1 q2 q3 q4
      dsimp only at hq0 hq1
      simp only [Int.toNat_natCast] at HHIT HM2
      have HB := pairIs_cpl (HC.out.2 s hs) (HC.out.2 t hts) HXY.out.1 HXY.out.2
      have B1 := PBox.new wr s t 67
      have L1 := L.alloc L.size (.cells #[.int .i64 (s : Int), .int .i64 (t : Int)] 67)
      have C1 := C.alloc (.cells #[.int .i64 (s : Int), .int .i64 (t : Int)] 67)
      iterate 35 go_step
      refine wl67 rfl (.tmp 3) rfl _ rfl C1 HC.out.1 ?_
      clear hq0 hq1 C L
      generalize wr.alloc (.cells #[.int .i64 (s : Int), .int .i64 (t : Int)] 67) = W2 at *
      have e0 := B1.c0
      have e1 := B1.c1
      go_wp2_with fail
      refine (of_any c s t _ HC.out.1 hs hts).mono ?_
      rintro e u0 ⟨rfl, h0⟩
      have C2 := C1.below h0 C1.1
      have L2 := L1.trans (h0.mono L1.size)
      clear h0 e0 e1 B1 C1 L1
      generalize c.getD s 0 = u at *
      generalize c.getD t 0 = v at *
      rw [← hf1.out, ← hf2.out] at HB
      unfold cplV
      generalize fl (min u v) = g1 at *
      generalize fl (max u v) = g2 at *
      have hE := eql73 g1 g2 f1 f2
      rw [HB] at hE
      cases hp : pairIs u v x y
      · rw [hp] at hE HB
        have HM3 : Hid (∀ j, j < k + 1 → pairIs (c.getD (l.getD j (0, 0)).1.toNat 0) (c.getD (l.getD j (0, 0)).2.toNat 0) x y = false) := HM2.out hp
        go_wp2
        go_roundw
        case rel => exact ⟨k + 1, by omega, by go_num, HM3, C2, L2⟩
        case measure => simp [intOf]; omega
      · rw [hp] at hE HB
        have HV : Hid (amongV c l x y = true) := HHIT.out hp
        go_wp2
        go_ret
        exact ⟨by rw [HV.out]; rfl, L2⟩
    · have HV : Hid (amongV c l x y = false) := among_none (fun j hj => HM.out j (by omega))
      have hge : ¬ ((k : Int) < (l.length : Int)) := by omega
      go_wp2
      go_ret
      exact ⟨by rw [HV.out]; rfl, L⟩
end Go.Proofs.Ytldhbooginlcpaa
