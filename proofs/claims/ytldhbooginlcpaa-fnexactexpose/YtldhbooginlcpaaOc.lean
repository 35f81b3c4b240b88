/-
  The contract of impl.ownCopy.
-/
import Derived.Test.YtldhbooginlcpaaWti
namespace Go.Proofs.Ytldhbooginlcpaa
open Go.RowKit
set_option linter.unusedVariables false

set_option maxRecDepth 20000 in
set_option maxHeartbeats 4000000 in
theorem ownCopy_any (a0 a1 a2 a3 : Option Addr) (c0 c1 c2 c3 : Nat) (l0 l1 l2 l3 : List (Int × Int)) (w : World) (n0 : l0.length ≤ 1048576) (n1 : l1.length ≤ 1048576) (n2 : l2.length ≤ 1048576) (n3 : l3.length ≤ 1048576) (r0 : PRow w a0 l0) (r1 : PRow w a1 l1) (r2 : PRow w a2 l2) (r3 : PRow w a3 l3) (z0 : CapZ a0 l0.length c0) (z1 : CapZ a1 l1.length c1) (z2 : CapZ a2 l2.length c2) (z3 : CapZ a3 l3.length c3) :
    Calls Try.prog 158 #[.agg #[.slice a0 l0.length c0, .slice a1 l1.length c1, .slice a2 l2.length c2, .slice a3 l3.length c3]] w fun e w' => ∃ p0 p1 p2 p3 q0 q1 q2 q3, e = .returned (.agg #[.slice p0 l0.length q0, .slice p1 l1.length q1, .slice p2 l2.length q2, .slice p3 l3.length q3]) ∧ Four w' w.heap.size w'.heap.size p0 p1 p2 p3 l0.length l1.length l2.length l3.length l0 l1 l2 l3 ∧ (CapZ p0 l0.length q0 ∧ CapZ p1 l1.length q1 ∧ CapZ p2 l2.length q2 ∧ CapZ p3 l3.length q3) ∧ Below w.heap.size w w' := by
  have A0 := (Box.new w (.slice a0 l0.length c0) (.slice a1 l1.length c1) (.slice a2 l2.length c2) (.slice a3 l3.length c3) 28).alloc (.cells #[.slice none 0 0, .slice none 0 0, .slice none 0 0, .slice none 0 0] 28)
  have R0 := Box.new (w.alloc (.cells #[.slice a0 l0.length c0, .slice a1 l1.length c1, .slice a2 l2.length c2, .slice a3 l3.length c3] 28)) (.slice none 0 0) (.slice none 0 0) (.slice none 0 0) (.slice none 0 0) 28
  have L0 : Below w.heap.size w ((w.alloc (.cells #[.slice a0 l0.length c0, .slice a1 l1.length c1, .slice a2 l2.length c2, .slice a3 l3.length c3] 28)).alloc (.cells #[.slice none 0 0, .slice none 0 0, .slice none 0 0, .slice none 0 0] 28)) := ((Below.refl _ _).alloc (Nat.le_refl _) _).alloc (by simp) _
  rw [World.size_alloc] at R0
  have HK : Hid (∀ k : Int, PRow w (kindO a0 a1 a2 a3 k) (kindL l0 l1 l2 l3 k) ∧ (kindL l0 l1 l2 l3 k).length ≤ 1048576 ∧ CapZ (kindO a0 a1 a2 a3 k) (kindL l0 l1 l2 l3 k).length (kindB c0 c1 c2 c3 k)) := kind_prow r0 r1 r2 r3 n0 n1 n2 n3 z0 z1 z2 z3
  clear r0 r1 r2 r3 z0 z1 z2 z3
  go_enter Try.func158, Try.ntmps158
  have A0c0 := A0.c0; have A0c1 := A0.c1; have A0c2 := A0.c2; have A0c3 := A0.c3
  go_wp2_with fail
  clear A0c0 A0c1 A0c2 A0c3
  refine (listsOf_any _ _ _ _ _ ⟨_, _, _, rfl⟩ ⟨_, _, _, rfl⟩ ⟨_, _, _, rfl⟩ ⟨_, _, _, rfl⟩).mono ?_
  rintro e wx ⟨rfl, hb⟩
  have zR0 := R0.lt
  replace R0 := R0.below hb R0.lt; replace L0 := L0.trans (hb.mono L0.size)
  have zx := hb.size
  clear hb A0
  have V1 := VRow.new wx (.slice a0 l0.length c0) (.slice a1 l1.length c1) (.slice a2 l2.length c2) (.slice a3 l3.length c3) 81 (fun j => .slice (kindO a0 a1 a2 a3 j) (kindL l0 l1 l2 l3 j).length (kindB c0 c1 c2 c3 j)) rfl rfl rfl rfl
  have al : Below wx.heap.size wx (wx.alloc (.cells #[.slice a0 l0.length c0, .slice a1 l1.length c1, .slice a2 l2.length c2, .slice a3 l3.length c3] 81)) := (Below.refl _ _).alloc (Nat.le_refl _) _
  have zO : wx.heap.size < (wx.alloc (.cells #[.slice a0 l0.length c0, .slice a1 l1.length c1, .slice a2 l2.length c2, .slice a3 l3.length c3] 81)).heap.size := by simp
  have zR : w.heap.size + 1 < wx.heap.size := Nat.lt_of_lt_of_le zR0 zx
  replace R0 := R0.below al R0.lt; replace L0 := L0.trans (al.mono L0.size)
  clear al zx zR0
  go_upto_region 3 with fail
  generalize wx.alloc (.cells #[.slice a0 l0.length c0, .slice a1 l1.length c1, .slice a2 l2.length c2, .slice a3 l3.length c3] 81) = w3 at *
  generalize wx.heap.size = O at *
  go_loopw [7] (fun x wr => ∃ q : Nat, q ≤ 4 ∧ x = .int .i64 q ∧ ∃ V H, VRow wr O V ∧ (∀ j, q ≤ j → j < 4 → V j = .slice (kindO a0 a1 a2 a3 (j : Int)) (kindL l0 l1 l2 l3 (j : Int)).length (kindB c0 c1 c2 c3 (j : Int))) ∧ FilC (fun j => kindL l0 l1 l2 l3 (j : Int)) w3.heap.size wr V H q ∧ Out O (O + 1) w3 wr) (fun x _ => 4 - (intOf x).toNat)
  case atStart => exact ⟨0, Nat.zero_le _, rfl, _, _, V1, fun j _ _ => rfl, FilC.start _ _ _, Out.refl _ _ _⟩
  case round =>
    clear V1
    obtain ⟨q, hq, rfl, V, H, hV, hE, hF, hO⟩ := hrel
    by_cases hlt : q < 4
    · obtain ⟨rk, nk, zk⟩ := HK.out q
      have bO : Below w.heap.size w wr := L0.trans (hO.below (by omega) L0.size)
      replace rk := rk.below bO (Nat.le_refl _)
      have hc := (hV.2 q hlt).1
      rw [hE q (Nat.le_refl _) hlt] at hc
      have HST : Hid (∀ (w' : World) (a : Option Addr) (c : Nat), Out O (O + 1) wr w' → RowIn w' wr.heap.size w'.heap.size a (kindL l0 l1 l2 l3 (q : Int)).length (kindL l0 l1 l2 l3 (q : Int)) → CapZ a (kindL l0 l1 l2 l3 (q : Int)).length c → ∃ H', FilC (fun j => kindL l0 l1 l2 l3 (j : Int)) w3.heap.size w' (fun j => if j = q then .slice a (kindL l0 l1 l2 l3 (q : Int)).length c else V j) H' (q + 1)) := fun w' a c ho hr hz => ⟨_, hF.step zO ho hr hz⟩
      have HE2 : Hid (∀ (v : Value) j, q + 1 ≤ j → j < 4 → (if j = q then v else V j) = .slice (kindO a0 a1 a2 a3 (j : Int)) (kindL l0 l1 l2 l3 (j : Int)).length (kindB c0 c1 c2 c3 (j : Int))) := fun v j h1 h2 => by rw [if_neg (by omega)]; exact hE j (by omega) h2
      clear hF hE bO
      have hq4 : (q : Int) < 4 := by omega
      have hS : O < wr.heap.size := hV.1
      generalize (kindL l0 l1 l2 l3 (q : Int)) = lq at *
      generalize (kindB c0 c1 c2 c3 (q : Int)) = cc at *
      generalize (kindO a0 a1 a2 a3 (q : Int)) = aq at *
      go_wp2_with fail
      refine (copy_cap _ _ _ lq _ rfl (by omega) rk zk.1).mono ?_
      rintro e w4 ⟨a, cq, rfl, hr, hz, hb⟩
      clear hc
      have hV4 := hV.below hb hV.1
      have cO := (hV4.2 q hlt).1; have fO := (hV4.2 q hlt).2
      have hO4 : Out O (O + 1) wr (w4.setCell ⟨O, q, none⟩ (.slice a lq.length cq)) := (Out.ofBelow hb).trans (Out.set O q w4 _)
      have HV5 : Hid (VRow (w4.setCell ⟨O, q, none⟩ (.slice a lq.length cq)) O (fun j => if j = q then .slice a lq.length cq else V j)) := hV4.put q (.slice a lq.length cq)
      have hr5 := hr.out (Out.set O q w4 (.slice a lq.length cq)) (.inr (by omega))
      obtain ⟨H', hF'⟩ := HST.out _ a cq hO4 (by simpa using hr5) hz
      have HF' := (show Hid (FilC (fun j => kindL l0 l1 l2 l3 (j : Int)) w3.heap.size (w4.setCell ⟨O, q, none⟩ (.slice a lq.length cq)) (fun j => if j = q then .slice a lq.length cq else V j) H' (q + 1)) from hF')
      have HO5 : Hid (Out O (O + 1) w3 (w4.setCell ⟨O, q, none⟩ (.slice a lq.length cq))) := hO.trans hO4
      clear hF' hr hr5 hb hV4 hV HST hO4 hO
      go_wp2
      go_roundw
      case rel => exact ⟨q + 1, by omega, by go_num, _, H', HV5.out, HE2.out _, HF'.out, HO5.out⟩
      case measure => simp [intOf]; omega
    · obtain rfl : q = 4 := by omega
      obtain ⟨a0', a1', a2', a3', e0, e1, e2, e3, x0, x1, x2, x3, u0, u1, u2, u3, T⟩ := hF.done hV
      have R4 := R0.out hO (.inl (by omega))
      have L4 := L0.trans (hO.below (by omega) L0.size)
      have zM := hO.size
      have zL := L0.size
      clear hF hV hE hO HK R0 L0
      try dsimp only at x0 x1 x2 x3 T u0 u1 u2 u3
      have s0 : kindL l0 l1 l2 l3 ((0 : Nat) : Int) = l0 := rfl
      have s1 : kindL l0 l1 l2 l3 ((1 : Nat) : Int) = l1 := rfl
      have s2 : kindL l0 l1 l2 l3 ((2 : Nat) : Int) = l2 := rfl
      have s3 : kindL l0 l1 l2 l3 ((3 : Nat) : Int) = l3 := rfl
      rw [s0] at x0 T u0; rw [s1] at x1 T u1; rw [s2] at x2 T u2; rw [s3] at x3 T u3
      clear s0 s1 s2 s3
      go_wp2_with fail
      refine (asnOf_any _ _ _ _ _ _ _ _ _ _ _ _ _).mono ?_
      rintro e w5 ⟨rfl, hb⟩
      have R5 := R4.below hb R4.lt
      have L5 := L4.trans (hb.mono L4.size)
      have zz := hb.size
      replace T := T.below hb (Nat.le_refl _)
      clear hb R4 L4 x0 x1 x2 x3
      obtain ⟨F, FO⟩ := R5.fill (.slice a0' l0.length e0) (.slice a1' l1.length e1) (.slice a2' l2.length e2) (.slice a3' l3.length e3)
      have j0' := R5.c0; have j1' := R5.c1; have j2' := R5.c2; have j3' := R5.c3
      have g0 := R5.f0; have g1 := R5.f1; have g2 := R5.f2; have g3 := R5.f3
      go_wp2
      have i0 := F.c0; have i1 := F.c1; have i2 := F.c2; have i3 := F.c3
      have fz := FO.size
      refine bodyPost_ret (v := .agg #[.slice a0' l0.length e0, .slice a1' l1.length e1, .slice a2' l2.length e2, .slice a3' l3.length e3]) ?_ rfl ⟨a0', a1', a2', a3', e0, e1, e2, e3, rfl, ?_, ?_, ?_⟩
      · simp [results, Try.results158, go_sem, i0, i1, i2, i3]
      · exact (T.out FO (.inr (by omega))).mono (by omega) (by omega)
      · exact ⟨u0, u1, u2, u3⟩
      · exact L5.trans (FO.below (by omega) L5.size)

end Go.Proofs.Ytldhbooginlcpaa
