/-
  The contract of impl.Sorted.
-/
import Derived.Test.YtfplloabkceaoaaWti
import Derived.Test.YtfplloabkceaoaaInS
namespace Go.Proofs.Ytfplloabkceaoaa
open Go.RowKit
set_option linter.unusedVariables false

theorem Out.andBelow {lo hi B : Nat} {w w' w'' : World} (h : Out lo hi w w') (k : Below B w' w'') (hB : w.heap.size ≤ B) : Out lo hi w w'' :=
  ⟨k.os.trans h.os, k.tape.trans h.tape, k.output.trans h.output, Nat.le_trans h.size k.size, fun j hj hr => (k.block j (by omega)).trans (h.block j hj hr)⟩
theorem kind_small {l0 l1 l2 l3 : List (Int × Int)} (h : asnB l0 l1 l2 l3 = true) (k : Int) : (kindL l0 l1 l2 l3 k).length ≤ 12 := by
  unfold asnB at h
  simp only [Bool.and_eq_true, decide_eq_true_eq] at h
  unfold kindL
  split
  · omega
  · split
    · omega
    · split <;> omega
theorem idx_any (a0 a1 a2 a3 : Option Addr) (l0 l1 l2 l3 : List (Int × Int)) (c0 c1 c2 c3 : Nat) (w : World) (q : Nat) (hq : q < 4) :
    (Instr.index 88 (.agg #[.slice a0 l0.length c0, .slice a1 l1.length c1, .slice a2 l2.length c2, .slice a3 l3.length c3]) (.int .i64 (q : Int))).run Try.prog w = .ok (.slice (kindO a0 a1 a2 a3 (q : Int)) (kindL l0 l1 l2 l3 (q : Int)).length (kindB c0 c1 c2 c3 (q : Int))) w := by
  match q, hq with
  | 0, _ => exact idx0 a0 a1 a2 a3 l0.length l1.length l2.length l3.length c0 c1 c2 c3 w
  | 1, _ => exact idx1 a0 a1 a2 a3 l0.length l1.length l2.length l3.length c0 c1 c2 c3 w
  | 2, _ => exact idx2 a0 a1 a2 a3 l0.length l1.length l2.length l3.length c0 c1 c2 c3 w
  | 3, _ => exact idx3 a0 a1 a2 a3 l0.length l1.length l2.length l3.length c0 c1 c2 c3 w

/-- The sort of a copy, whatever it has. -/
theorem sortRow_any {wz w : World} (a : Option Addr) (c : Nat) (l : List (Int × Int)) (B : Nat) (hn : l.length ≤ 12) (hr : RowIn w B w.heap.size a l.length l) (hB : B ≤ w.heap.size) :
    Calls Try.prog 147 #[.slice a l.length c, (.func (.func 148) #[] #[])] w fun e w' => e = .returned (.tuple #[]) ∧ RowIn w' B w'.heap.size a l.length (sortP l) ∧ Below B w w' ∧ ∀ b, (∀ g, a = some g → l ≠ [] → g.block ≠ b) → b < w.heap.size → w'.heap[b]? = w.heap[b]? := by
  obtain ⟨_, h0 | ⟨b, rfl, h1, h2, h3⟩⟩ := hr
  · obtain rfl : l = [] := List.eq_nil_of_length_eq_zero h0
    refine (sortStable_nil a c w).mono ?_
    rintro e w' ⟨rfl, rfl⟩
    exact ⟨rfl, ⟨rfl, .inl rfl⟩, Below.refl _ _, fun _ _ _ => rfl⟩
  · by_cases hl : 0 < l.length
    · refine (sortStable_any b c l w hl hn h3).mono ?_
      rintro e w' ⟨rfl, h4, h5⟩
      refine ⟨rfl, ⟨sortP_length l, .inr ⟨b, rfl, h1, h4.1, h4⟩⟩, h5.below h1 hB, fun k hk hkw => h5.block k hkw ?_⟩
      have := hk ⟨b, 0, none⟩ rfl (by intro e; rw [e] at hl; simp at hl)
      simp at this
      omega
    · obtain rfl : l = [] := List.eq_nil_of_length_eq_zero (by omega)
      refine (sortStable_nil _ c w).mono ?_
      rintro e w' ⟨rfl, rfl⟩
      exact ⟨rfl, ⟨rfl, .inl rfl⟩, Below.refl _ _, fun _ _ _ => rfl⟩

set_option maxRecDepth 20000 in
set_option maxHeartbeats 8000000 in
theorem iSorted_any (a0 a1 a2 a3 : Option Addr) (c0 c1 c2 c3 : Nat) (l0 l1 l2 l3 : List (Int × Int)) (w : World) (n0 : l0.length ≤ 1048576) (n1 : l1.length ≤ 1048576) (n2 : l2.length ≤ 1048576) (n3 : l3.length ≤ 1048576) (r0 : PRow w a0 l0) (r1 : PRow w a1 l1) (r2 : PRow w a2 l2) (r3 : PRow w a3 l3) (z0 : CapZ a0 l0.length c0) (z1 : CapZ a1 l1.length c1) (z2 : CapZ a2 l2.length c2) (z3 : CapZ a3 l3.length c3) :
    Calls Try.prog 56 #[.agg #[.slice a0 l0.length c0, .slice a1 l1.length c1, .slice a2 l2.length c2, .slice a3 l3.length c3]] w fun e w' => ∃ p0 p1 p2 p3 q0 q1 q2 q3, e = .returned (.tuple #[.agg #[.slice p0 (okL (asnB l0 l1 l2 l3) (sortP l0)).length q0, .slice p1 (okL (asnB l0 l1 l2 l3) (sortP l1)).length q1, .slice p2 (okL (asnB l0 l1 l2 l3) (sortP l2)).length q2, .slice p3 (okL (asnB l0 l1 l2 l3) (sortP l3)).length q3], .bool (asnB l0 l1 l2 l3)]) ∧ Four w' w.heap.size w'.heap.size p0 p1 p2 p3 (okL (asnB l0 l1 l2 l3) (sortP l0)).length (okL (asnB l0 l1 l2 l3) (sortP l1)).length (okL (asnB l0 l1 l2 l3) (sortP l2)).length (okL (asnB l0 l1 l2 l3) (sortP l3)).length (okL (asnB l0 l1 l2 l3) (sortP l0)) (okL (asnB l0 l1 l2 l3) (sortP l1)) (okL (asnB l0 l1 l2 l3) (sortP l2)) (okL (asnB l0 l1 l2 l3) (sortP l3)) ∧ Below w.heap.size w w' := by
  have A0 := (Box.new w (.slice a0 l0.length c0) (.slice a1 l1.length c1) (.slice a2 l2.length c2) (.slice a3 l3.length c3) 28).alloc (.cells #[.slice none 0 0, .slice none 0 0, .slice none 0 0, .slice none 0 0] 28)
  have R0 := Box.new (w.alloc (.cells #[.slice a0 l0.length c0, .slice a1 l1.length c1, .slice a2 l2.length c2, .slice a3 l3.length c3] 28)) (.slice none 0 0) (.slice none 0 0) (.slice none 0 0) (.slice none 0 0) 28
  rw [World.size_alloc] at R0
  have L0 : Below w.heap.size w ((w.alloc (.cells #[.slice a0 l0.length c0, .slice a1 l1.length c1, .slice a2 l2.length c2, .slice a3 l3.length c3] 28)).alloc (.cells #[.slice none 0 0, .slice none 0 0, .slice none 0 0, .slice none 0 0] 28)) := ((Below.refl _ _).alloc (Nat.le_refl _) _).alloc (by simp) _
  have KR := kind_prow r0 r1 r2 r3 n0 n1 n2 n3 z0 z1 z2 z3
  have HK : Hid (∀ k : Int, PRow w (kindO a0 a1 a2 a3 k) (kindL l0 l1 l2 l3 k) ∧ (kindL l0 l1 l2 l3 k).length ≤ 1048576 ∧ CapZ (kindO a0 a1 a2 a3 k) (kindL l0 l1 l2 l3 k).length (kindB c0 c1 c2 c3 k)) := KR
  clear KR
  replace r0 := r0.below L0 (Nat.le_refl _); replace r1 := r1.below L0 (Nat.le_refl _); replace r2 := r2.below L0 (Nat.le_refl _); replace r3 := r3.below L0 (Nat.le_refl _)
  go_enter Try.func56, Try.ntmps56
  go_wp2_with fail
  refine (iAsnOk_any _ _ _ _ _ _ _ _ _ _ _ _ _ n0 n1 n2 n3 (by exact r0) (by exact r1) (by exact r2) (by exact r3)).mono ?_
  rintro e w1 ⟨rfl, hb⟩
  replace A0 := A0.below hb A0.lt; replace R0 := R0.below hb R0.lt; replace L0 := L0.trans (hb.mono L0.size)
  clear hb r0 r1 r2 r3
  have A0c0 := A0.c0; have A0c1 := A0.c1; have A0c2 := A0.c2; have A0c3 := A0.c3
  cases h1 : asnB l0 l1 l2 l3
  · have HE : Hid (asnB l0 l1 l2 l3 = false) := h1
    obtain ⟨F, FO⟩ := R0.fill (.slice none 0 0) (.slice none 0 0) (.slice none 0 0) (.slice none 0 0)
    have j0' := R0.c0; have j1' := R0.c1; have j2' := R0.c2; have j3' := R0.c3
    have g0 := R0.f0; have g1 := R0.f1; have g2 := R0.f2; have g3 := R0.f3
    go_wp2
    have i0 := F.c0; have i1 := F.c1; have i2 := F.c2; have i3 := F.c3
    refine bodyPost_ret (v := .tuple #[.agg #[.slice none 0 0, .slice none 0 0, .slice none 0 0, .slice none 0 0], .bool false]) ?_ rfl ⟨none, none, none, none, 0, 0, 0, 0, by rw [HE.out]; rfl, ?_, ?_⟩
    · simp [results, Try.results56, go_sem, i0, i1, i2, i3]
    · rw [HE.out]; exact (Four.none _ w.heap.size).mono (Nat.le_refl _) (by have := FO.size; have := L0.size; omega)
    · exact L0.trans (FO.below (by omega) L0.size)
  have HS : Hid (∀ k : Int, (kindL l0 l1 l2 l3 k).length ≤ 12) := fun k => kind_small h1 k
  have HE : Hid (asnB l0 l1 l2 l3 = true) := h1
  have zR := R0.lt
  have O3 := VRow.new w1 (.slice none 0 0) (.slice none 0 0) (.slice none 0 0) (.slice none 0 0) 88 (fun _ => .slice none 0 0) rfl rfl rfl rfl
  have al : Below w1.heap.size w1 (w1.alloc (.cells #[.slice none 0 0, .slice none 0 0, .slice none 0 0, .slice none 0 0] 88)) := (Below.refl _ _).alloc (Nat.le_refl _) _
  replace A0 := A0.below al A0.lt; replace R0 := R0.below al R0.lt; replace L0 := L0.trans (al.mono L0.size)
  clear al
  have za : (w1.alloc (.cells #[.slice none 0 0, .slice none 0 0, .slice none 0 0, .slice none 0 0] 88)).heap.size = w1.heap.size + 1 := by simp
  clear A0c0 A0c1 A0c2 A0c3
  have A0c0 := A0.c0; have A0c1 := A0.c1; have A0c2 := A0.c2; have A0c3 := A0.c3
  go_wp2_with fail
  clear A0c0 A0c1 A0c2 A0c3
  refine (listsOf_any _ _ _ _ _ ⟨_, _, _, rfl⟩ ⟨_, _, _, rfl⟩ ⟨_, _, _, rfl⟩ ⟨_, _, _, rfl⟩).mono ?_
  rintro e w3 ⟨rfl, hb⟩
  replace A0 := A0.below hb A0.lt; replace R0 := R0.below hb R0.lt; replace L0 := L0.trans (hb.mono L0.size)
  have O4 := O3.below hb O3.1
  have zx := hb.size
  rw [za] at zx
  clear hb O3 A0
  have HI : Hid (∀ (q : Nat) (w : World), q < 4 → (Instr.index 88 (.agg #[.slice a0 l0.length c0, .slice a1 l1.length c1, .slice a2 l2.length c2, .slice a3 l3.length c3]) (.int .i64 (q : Int))).run Try.prog w = .ok (.slice (kindO a0 a1 a2 a3 (q : Int)) (kindL l0 l1 l2 l3 (q : Int)).length (kindB c0 c1 c2 c3 (q : Int))) w) := fun q w hq => idx_any a0 a1 a2 a3 l0 l1 l2 l3 c0 c1 c2 c3 w q hq
  have HK3 : Hid (∀ k : Int, PRow w3 (kindO a0 a1 a2 a3 k) (kindL l0 l1 l2 l3 k) ∧ (∀ p, (kindO a0 a1 a2 a3 k) = some p → (kindL l0 l1 l2 l3 k) ≠ [] → p.block < w.heap.size)) := fun k => ⟨(HK.out k).1.below L0 (Nat.le_refl _), (HK.out k).1.lt⟩
  have zw := L0.size
  clear za
  generalize w1.heap.size = O at *
  go_wp2
  go_loopw [13] (fun x wr => ∃ q : Nat, q ≤ 4 ∧ x = .int .i64 q ∧ ∃ V H, VRow wr O V ∧ FilC (fun j => sortP (kindL l0 l1 l2 l3 (j : Int))) w3.heap.size wr V H q ∧ Out O (O + 1) w3 wr) (fun x _ => 4 - (intOf x).toNat)
  case atStart => exact ⟨0, Nat.zero_le _, rfl, _, _, O4, FilC.start _ _ _, Out.refl _ _ _⟩
  case round =>
    obtain ⟨q, hq, rfl, V, H, hV, hF, hO⟩ := hrel
    by_cases hlt : q < 4
    · obtain ⟨rl, nl, zl⟩ := HK.out q
      obtain ⟨rk, bl⟩ := HK3.out q
      have hs12 := HS.out (q : Int)
      have hidx := fun w => HI.out q w hlt
      replace rk := rk.out2 hO (fun p h1 h2 => by have := bl p h1 h2; omega)
      have HFS : Hid (∀ (w' : World) (a : Option Addr) (c : Nat), Out O (O + 1) wr w' → RowIn w' wr.heap.size w'.heap.size a (sortP (kindL l0 l1 l2 l3 (q : Int))).length (sortP (kindL l0 l1 l2 l3 (q : Int))) → CapZ a (sortP (kindL l0 l1 l2 l3 (q : Int))).length c → ∃ H', FilC (fun j => sortP (kindL l0 l1 l2 l3 (j : Int))) w3.heap.size w' (fun j => if j = q then .slice a (sortP (kindL l0 l1 l2 l3 (q : Int))).length c else V j) H' (q + 1)) := fun w' a c h1 h2 h3 => ⟨_, FilC.step (c := c) hF (by omega) h1 h2 h3⟩
      have dO := (hV.2 q hlt).1; have eO := (hV.2 q hlt).2
      have hS : O < wr.heap.size := hV.1
      have hq4 : (q : Int) < 4 := by omega
      have hq0 : (0 : Int) ≤ (q : Int) := by omega
      have HSL : Hid ((sortP (kindL l0 l1 l2 l3 (q : Int))).length = (kindL l0 l1 l2 l3 (q : Int)).length) := sortP_length _
      clear hF rl
      generalize hGG : (kindL l0 l1 l2 l3 (q : Int)) = lq at *
      have HGG : Hid ((kindL l0 l1 l2 l3 (q : Int)) = lq) := hGG
      clear hGG
      generalize (kindB c0 c1 c2 c3 (q : Int)) = cc at *
      generalize (kindO a0 a1 a2 a3 (q : Int)) = aq at *
      go_wp2_with fail
      refine (copy_cap _ _ _ lq _ rfl (by omega) (by exact rk) zl.1).mono ?_
      rintro e w4 ⟨a, cq, rfl, hr, hz, hb⟩
      have hV4 := hV.below hb hV.1
      have cO := (hV4.2 q hlt).1; have fO := (hV4.2 q hlt).2
      have hV5 := hV4.put q (.slice a lq.length cq)
      have cO5 : (w4.setCell ⟨O, q, none⟩ (.slice a lq.length cq)).cell? ⟨O, q, none⟩ = some (.slice a lq.length cq) := by simpa using (hV5.2 q hlt).1
      have hz4 := hb.size
      have hB4 : Below O w4 (w4.setCell ⟨O, q, none⟩ (.slice a lq.length cq)) := Below.set (Below.refl _ _) _ _ (Nat.le_refl _) _
      have hO4 : Out O (O + 1) wr (w4.setCell ⟨O, q, none⟩ (.slice a lq.length cq)) := (Out.ofBelow hb).trans (Out.set O q w4 _)
      have hr5 := hr.out (Out.set O q w4 (.slice a lq.length cq)) (.inr (by omega))
      clear hV4 hr
      go_wp2_with fail
      refine (sortRow_any (wz := wr) a cq lq wr.heap.size hs12 (by simpa using hr5) (by simpa using hz4)).mono ?_
      rintro e w6 ⟨rfl, hr6, hb6, hk6⟩
      have hO6 := hO4.andBelow hb6 (Nat.le_refl _)
      have hV6 := hV5.below hb6 hS
      obtain ⟨H', hF'⟩ := HFS.out _ a cq hO6 (by rw [HSL.out]; exact hr6) (by rw [HSL.out]; exact hz)
      rw [HSL.out] at hF'
      have HF' := (show Hid _ from hF')
      have HV6 := (show Hid _ from hV6)
      have HO6 := (show Hid (Out O (O + 1) w3 w6) from hO.trans hO6)
      clear hF' hr6 hr5 hb6 hk6 hV6 hV5 hV HFS hO4 hO6 hO hb cO cO5 dO eO fO hz hB4 rk
      go_wp2
      go_roundw
      case rel => exact ⟨q + 1, by omega, by go_num, _, H', HV6.out, HF'.out, HO6.out⟩
      case measure => simp [intOf]; omega
    · obtain rfl : q = 4 := by omega
      obtain ⟨a0', a1', a2', a3', e0, e1, e2, e3, x0, x1, x2, x3, u0, u1, u2, u3, T⟩ := hF.done hV
      have R4 := R0.out hO (.inl (by omega))
      have L4 := L0.trans (hO.below (by have := L0.size; omega) L0.size)
      have zM := hO.size
      have zL := L0.size
      clear hF hV hO HK HK3 R0 L0 HI HS u0 u1 u2 u3
      try dsimp only at x0 x1 x2 x3 T
      have s0 : sortP (kindL l0 l1 l2 l3 ((0 : Nat) : Int)) = sortP l0 := rfl
      have s1 : sortP (kindL l0 l1 l2 l3 ((1 : Nat) : Int)) = sortP l1 := rfl
      have s2 : sortP (kindL l0 l1 l2 l3 ((2 : Nat) : Int)) = sortP l2 := rfl
      have s3 : sortP (kindL l0 l1 l2 l3 ((3 : Nat) : Int)) = sortP l3 := rfl
      rw [s0] at x0 T; rw [s1] at x1 T; rw [s2] at x2 T; rw [s3] at x3 T
      clear s0 s1 s2 s3
      obtain ⟨v0, hv0⟩ : ∃ x, sortP l0 = x := ⟨_, rfl⟩
      obtain ⟨v1, hv1⟩ : ∃ x, sortP l1 = x := ⟨_, rfl⟩
      obtain ⟨v2, hv2⟩ : ∃ x, sortP l2 = x := ⟨_, rfl⟩
      obtain ⟨v3, hv3⟩ : ∃ x, sortP l3 = x := ⟨_, rfl⟩
      rw [hv0] at x0 T; rw [hv1] at x1 T; rw [hv2] at x2 T; rw [hv3] at x3 T
      have HX0 : Hid (okL true (sortP l0) = v0) := hv0
      have HX1 : Hid (okL true (sortP l1) = v1) := hv1
      have HX2 : Hid (okL true (sortP l2) = v2) := hv2
      have HX3 : Hid (okL true (sortP l3) = v3) := hv3
      clear hv0 hv1 hv2 hv3
      go_wp2_with fail
      refine (asnOf_any _ _ _ _ _ _ _ _ _ _ _ _ _).mono ?_
      rintro e w5 ⟨rfl, hb⟩
      have R5 := R4.below hb R4.lt
      have L5 := L4.trans (hb.mono L4.size)
      have zz := hb.size
      replace T := T.below hb (Nat.le_refl _)
      clear hb R4 L4 x0 x1 x2 x3
      obtain ⟨F, FO⟩ := R5.fill (.slice a0' v0.length e0) (.slice a1' v1.length e1) (.slice a2' v2.length e2) (.slice a3' v3.length e3)
      have j0' := R5.c0; have j1' := R5.c1; have j2' := R5.c2; have j3' := R5.c3
      have g0 := R5.f0; have g1 := R5.f1; have g2 := R5.f2; have g3 := R5.f3
      go_wp2
      have i0 := F.c0; have i1 := F.c1; have i2 := F.c2; have i3 := F.c3
      have fz := FO.size
      refine bodyPost_ret (v := .tuple #[.agg #[.slice a0' v0.length e0, .slice a1' v1.length e1, .slice a2' v2.length e2, .slice a3' v3.length e3], .bool true]) ?_ rfl ⟨a0', a1', a2', a3', e0, e1, e2, e3, by rw [HE.out, HX0.out, HX1.out, HX2.out, HX3.out], ?_, ?_⟩
      · simp [results, Try.results56, go_sem, i0, i1, i2, i3]
      · rw [HE.out, HX0.out, HX1.out, HX2.out, HX3.out]; exact (T.out FO (.inr (by omega))).mono (by omega) (by omega)
      · exact L5.trans (FO.below (by omega) L5.size)

end Go.Proofs.Ytfplloabkceaoaa
