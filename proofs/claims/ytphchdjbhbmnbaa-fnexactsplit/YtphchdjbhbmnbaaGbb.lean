/-
  Plain lemmas and contracts of functions for the other texts of this seat: Wn, Oc, Sp1, Sq.
-/
import Derived.Test.YtphchdjbhbmnbaaGaj
import Derived.Test.YtphchdjbhbmnbaaGad
import Derived.Test.YtphchdjbhbmnbaaGba
import Derived.Deep.DeepCutAuto
import Derived.Deep.RegionHeld3
import Derived.Test.YtphchdjbhbmnbaaGab
namespace Go.Proofs.Ytphchdjbhbmnbaa
open Go.RowKit
set_option linter.unusedVariables false

set_option maxRecDepth 20000 in
set_option maxHeartbeats 2000000 in
theorem withNothing_any (a0 a1 a2 a3 : Option Addr) (c0 c1 c2 c3 : Nat) (l0 l1 l2 l3 : List (Int × Int)) (x y : Int) (w : World) (n0 : l0.length ≤ 1048576) (r0 : PRow w a0 l0) (z0 : a0 = none → c0 = 0) :
    Calls Try.prog 174 #[.agg #[.slice a0 l0.length c0, .slice a1 l1.length c1, .slice a2 l2.length c2, .slice a3 l3.length c3], .agg #[.int .i64 x, .int .i64 y]] w fun e w' => ∃ p0 q0, e = .returned (.agg #[.slice p0 (l0.length + 1) q0, .slice a1 l1.length c1, .slice a2 l2.length c2, .slice a3 l3.length c3]) ∧ RowIn w' w.heap.size w'.heap.size p0 (l0.length + 1) (l0 ++ [(x, y)]) ∧ (p0 = none → q0 = 0) ∧ Below w.heap.size w w' := by
  have A0 := ((Box.new w (.slice a0 l0.length c0) (.slice a1 l1.length c1) (.slice a2 l2.length c2) (.slice a3 l3.length c3) 28).alloc (.cells #[.int .i64 x, .int .i64 y] 69)).alloc (.cells #[.slice none 0 0, .slice none 0 0, .slice none 0 0, .slice none 0 0] 28)
  have P0 := (PBox.new (w.alloc (.cells #[.slice a0 l0.length c0, .slice a1 l1.length c1, .slice a2 l2.length c2, .slice a3 l3.length c3] 28)) x y 69).below ((Below.refl _ _).alloc (Nat.le_refl _) (.cells #[.slice none 0 0, .slice none 0 0, .slice none 0 0, .slice none 0 0] 28)) (by simp)
  have R0 := Box.new ((w.alloc (.cells #[.slice a0 l0.length c0, .slice a1 l1.length c1, .slice a2 l2.length c2, .slice a3 l3.length c3] 28)).alloc (.cells #[.int .i64 x, .int .i64 y] 69)) (.slice none 0 0) (.slice none 0 0) (.slice none 0 0) (.slice none 0 0) 28
  have L0 : Below w.heap.size w (((w.alloc (.cells #[.slice a0 l0.length c0, .slice a1 l1.length c1, .slice a2 l2.length c2, .slice a3 l3.length c3] 28)).alloc (.cells #[.int .i64 x, .int .i64 y] 69)).alloc (.cells #[.slice none 0 0, .slice none 0 0, .slice none 0 0, .slice none 0 0] 28)) := (((Below.refl _ _).alloc (Nat.le_refl _) _).alloc (by simp) _).alloc (by simp; omega) _
  rw [World.size_alloc] at P0
  rw [World.size_alloc, World.size_alloc] at R0
  have A0c0 := A0.c0
  have d0 := P0.c0; have d1 := P0.c1
  go_enter Try.func174, Try.ntmps174
  go_upto_region 1 with fail
  replace r0 := r0.below L0 (Nat.le_refl _)
  generalize ((w.alloc (.cells #[.slice a0 l0.length c0, .slice a1 l1.length c1, .slice a2 l2.length c2, .slice a3 l3.length c3] 28)).alloc (.cells #[.int .i64 x, .int .i64 y] 69)).alloc (.cells #[.slice none 0 0, .slice none 0 0, .slice none 0 0, .slice none 0 0] 28) = wB at *
  have zB := R0.lt
  go_wp2_with fail
  have K8 := own_pair wB x y
  have al : Below wB.heap.size wB (wB.alloc (.cells #[.int .i64 x, .int .i64 y] 69)) := (Below.refl _ _).alloc (Nat.le_refl _) _
  refine (behind_any a0 (some ⟨wB.heap.size, 0, none⟩) l0.length 1 c0 1 l0 [(x, y)] _ rfl rfl (by omega) (r0.below al (Nat.le_refl _)) K8.row z0 (fun e => by cases e)).mono ?_
  rintro e w1 ⟨p0, q0, rfl, hr, hz, hb⟩
  clear A0c0 d0 d1
  replace A0 := (A0.below al A0.lt).below hb (Nat.lt_of_lt_of_le A0.lt al.size)
  replace R0 := (R0.below al R0.lt).below hb (Nat.lt_of_lt_of_le R0.lt al.size)
  replace L0 := (L0.trans (al.mono L0.size)).trans (hb.mono (Nat.le_trans L0.size al.size))
  replace hr := hr.mono (show w.heap.size + 3 ≤ (wB.alloc (.cells #[.int .i64 x, .int .i64 y] 69)).heap.size by simp; omega) (Nat.le_refl _)
  have z1 := hr.2
  clear hb al K8 P0 r0 z1
  have A0c0 := A0.c0; have f0 := A0.f0
  go_upto_region 2 with fail
  have ho := Out.set w.heap.size 0 w1 (.slice p0 (l0.length + 1) q0)
  have sA := A0.lt
  replace R0 := R0.out ho (.inr (by omega))
  replace A0 := A0.set0 (.slice p0 (l0.length + 1) q0)
  replace L0 := L0.trans (ho.below (Nat.le_refl _) L0.size)
  replace hr := hr.out ho (.inr (by omega))
  have ae : w.heap.size ≤ w1.heap.size := by omega
  have hsz : (w1.setCell ⟨w.heap.size, 0, none⟩ (.slice p0 (l0.length + 1) q0)).heap.size = w1.heap.size := by simp
  rw [← hsz] at hr
  clear ho f0 A0c0 hsz
  generalize w1.setCell ⟨w.heap.size, 0, none⟩ (.slice p0 (l0.length + 1) q0) = w2 at *
  have A0c0 := A0.c0; have A0c1 := A0.c1; have A0c2 := A0.c2; have A0c3 := A0.c3
  obtain ⟨F, FO⟩ := R0.fill (.slice p0 (l0.length + 1) q0) (.slice a1 l1.length c1) (.slice a2 l2.length c2) (.slice a3 l3.length c3)
  have j0' := R0.c0; have j1' := R0.c1; have j2' := R0.c2; have j3' := R0.c3
  have g0 := R0.f0; have g1 := R0.f1; have g2 := R0.f2; have g3 := R0.f3
  have sR := R0.lt
  go_wp2
  have i0 := F.c0; have i1 := F.c1; have i2 := F.c2; have i3 := F.c3
  refine bodyPost_ret (v := .agg #[.slice p0 (l0.length + 1) q0, .slice a1 l1.length c1, .slice a2 l2.length c2, .slice a3 l3.length c3]) ?_ rfl ⟨p0, q0, rfl, ?_, hz, ?_⟩
  · simp [results, Try.results174, go_sem, i0, i1, i2, i3]
  · exact (hr.out FO (.inr (by omega))).mono (by omega) FO.size
  · exact L0.trans (FO.below (by omega) L0.size)

end Go.Proofs.Ytphchdjbhbmnbaa
namespace Go.Proofs.Ytphchdjbhbmnbaa
open Go.RowKit
set_option linter.unusedVariables false

set_option maxRecDepth 20000 in
set_option maxHeartbeats 4000000 in
theorem ownCopy_any (a0 a1 a2 a3 : Option Addr) (c0 c1 c2 c3 : Nat) (l0 l1 l2 l3 : List (Int × Int)) (w : World) (n0 : l0.length ≤ 1048576) (n1 : l1.length ≤ 1048576) (n2 : l2.length ≤ 1048576) (n3 : l3.length ≤ 1048576) (r0 : PRow w a0 l0) (r1 : PRow w a1 l1) (r2 : PRow w a2 l2) (r3 : PRow w a3 l3) (z0 : CapZ a0 l0.length c0) (z1 : CapZ a1 l1.length c1) (z2 : CapZ a2 l2.length c2) (z3 : CapZ a3 l3.length c3) :
    Calls Try.prog 176 #[.agg #[.slice a0 l0.length c0, .slice a1 l1.length c1, .slice a2 l2.length c2, .slice a3 l3.length c3]] w fun e w' => ∃ p0 p1 p2 p3 q0 q1 q2 q3, e = .returned (.agg #[.slice p0 l0.length q0, .slice p1 l1.length q1, .slice p2 l2.length q2, .slice p3 l3.length q3]) ∧ Four w' w.heap.size w'.heap.size p0 p1 p2 p3 l0.length l1.length l2.length l3.length l0 l1 l2 l3 ∧ (CapZ p0 l0.length q0 ∧ CapZ p1 l1.length q1 ∧ CapZ p2 l2.length q2 ∧ CapZ p3 l3.length q3) ∧ Below w.heap.size w w' := by
  have A0 := (Box.new w (.slice a0 l0.length c0) (.slice a1 l1.length c1) (.slice a2 l2.length c2) (.slice a3 l3.length c3) 28).alloc (.cells #[.slice none 0 0, .slice none 0 0, .slice none 0 0, .slice none 0 0] 28)
  have R0 := Box.new (w.alloc (.cells #[.slice a0 l0.length c0, .slice a1 l1.length c1, .slice a2 l2.length c2, .slice a3 l3.length c3] 28)) (.slice none 0 0) (.slice none 0 0) (.slice none 0 0) (.slice none 0 0) 28
  have L0 : Below w.heap.size w ((w.alloc (.cells #[.slice a0 l0.length c0, .slice a1 l1.length c1, .slice a2 l2.length c2, .slice a3 l3.length c3] 28)).alloc (.cells #[.slice none 0 0, .slice none 0 0, .slice none 0 0, .slice none 0 0] 28)) := ((Below.refl _ _).alloc (Nat.le_refl _) _).alloc (by simp) _
  rw [World.size_alloc] at R0
  have HK : Hid (∀ k : Int, PRow w (kindO a0 a1 a2 a3 k) (kindL l0 l1 l2 l3 k) ∧ (kindL l0 l1 l2 l3 k).length ≤ 1048576 ∧ CapZ (kindO a0 a1 a2 a3 k) (kindL l0 l1 l2 l3 k).length (kindB c0 c1 c2 c3 k)) := kind_prow r0 r1 r2 r3 n0 n1 n2 n3 z0 z1 z2 z3
  clear r0 r1 r2 r3 z0 z1 z2 z3
  go_enter Try.func176, Try.ntmps176
  have A0c0 := A0.c0; have A0c1 := A0.c1; have A0c2 := A0.c2; have A0c3 := A0.c3
  go_wp2_with fail
  clear A0c0 A0c1 A0c2 A0c3
  refine (listsOf_any _ _ _ _ _ ⟨_, _, _, rfl⟩ ⟨_, _, _, rfl⟩ ⟨_, _, _, rfl⟩ ⟨_, _, _, rfl⟩).mono ?_
  rintro e wx ⟨rfl, hb⟩
  have zR0 := R0.lt
  replace R0 := R0.below hb R0.lt; replace L0 := L0.trans (hb.mono L0.size)
  have zx := hb.size
  clear hb A0
  have V1 := VRow.new wx (.slice a0 l0.length c0) (.slice a1 l1.length c1) (.slice a2 l2.length c2) (.slice a3 l3.length c3) 88 (fun j => .slice (kindO a0 a1 a2 a3 j) (kindL l0 l1 l2 l3 j).length (kindB c0 c1 c2 c3 j)) rfl rfl rfl rfl
  have al : Below wx.heap.size wx (wx.alloc (.cells #[.slice a0 l0.length c0, .slice a1 l1.length c1, .slice a2 l2.length c2, .slice a3 l3.length c3] 88)) := (Below.refl _ _).alloc (Nat.le_refl _) _
  have zO : wx.heap.size < (wx.alloc (.cells #[.slice a0 l0.length c0, .slice a1 l1.length c1, .slice a2 l2.length c2, .slice a3 l3.length c3] 88)).heap.size := by simp
  have zR : w.heap.size + 1 < wx.heap.size := Nat.lt_of_lt_of_le zR0 zx
  replace R0 := R0.below al R0.lt; replace L0 := L0.trans (al.mono L0.size)
  clear al zx zR0
  go_upto_region 3 with fail
  generalize wx.alloc (.cells #[.slice a0 l0.length c0, .slice a1 l1.length c1, .slice a2 l2.length c2, .slice a3 l3.length c3] 88) = w3 at *
  generalize wx.heap.size = O at *
  go_loopw [7] (fun x wr => ∃ q : Nat, q ≤ 4 ∧ x = .int .i64 q ∧ ∃ V H, VRow wr O V ∧ (∀ j, q ≤ j → j < 4 → V j = .slice (kindO a0 a1 a2 a3 (j : Int)) (kindL l0 l1 l2 l3 (j : Int)).length (kindB c0 c1 c2 c3 (j : Int))) ∧ FilC (fun j => kindL l0 l1 l2 l3 (j : Int)) w3.heap.size wr V H q ∧ Out O (O + 1) w3 wr) (fun x _ => 4 - (intOf x).toNat)
  case atStart => exact ⟨0, Nat.zero_le _, rfl, _, _, V1, fun j _ _ => rfl, FilC.start _ _ _, Out.refl _ _ _⟩
  case round =>
    clear V1
    obtain ⟨q, hq, rfl, V, H, hV, hE, hF, hO⟩ := hrel
    by_cases hlt : q < 4
    · obtain ⟨rk, nk, zk⟩ := HK.out q
      have bO : Below w.heap.size w wr := L0.trans (hO.below (by omega) L0.size)
      replace rk := rk.below bO (Nat.le_refl _)
      have hc := (hV.2 q hlt).1
      rw [hE q (Nat.le_refl _) hlt] at hc
      have HST : Hid (∀ (w' : World) (a : Option Addr) (c : Nat), Out O (O + 1) wr w' → RowIn w' wr.heap.size w'.heap.size a (kindL l0 l1 l2 l3 (q : Int)).length (kindL l0 l1 l2 l3 (q : Int)) → CapZ a (kindL l0 l1 l2 l3 (q : Int)).length c → ∃ H', FilC (fun j => kindL l0 l1 l2 l3 (j : Int)) w3.heap.size w' (fun j => if j = q then .slice a (kindL l0 l1 l2 l3 (q : Int)).length c else V j) H' (q + 1)) := fun w' a c ho hr hz => ⟨_, hF.step zO ho hr hz⟩
      have HE2 : Hid (∀ (v : Value) j, q + 1 ≤ j → j < 4 → (if j = q then v else V j) = .slice (kindO a0 a1 a2 a3 (j : Int)) (kindL l0 l1 l2 l3 (j : Int)).length (kindB c0 c1 c2 c3 (j : Int))) := fun v j h1 h2 => by rw [if_neg (by omega)]; exact hE j (by omega) h2
      clear hF hE bO
      have hq4 : (q : Int) < 4 := by omega
      have hS : O < wr.heap.size := hV.1
      generalize (kindL l0 l1 l2 l3 (q : Int)) = lq at *
      generalize (kindB c0 c1 c2 c3 (q : Int)) = cc at *
      generalize (kindO a0 a1 a2 a3 (q : Int)) = aq at *
      go_wp2_with fail
      refine (copy_cap _ _ _ lq _ rfl (by omega) rk zk.1).mono ?_
      rintro e w4 ⟨a, cq, rfl, hr, hz, hb⟩
      clear hc
      have hV4 := hV.below hb hV.1
      have cO := (hV4.2 q hlt).1; have fO := (hV4.2 q hlt).2
      have hO4 : Out O (O + 1) wr (w4.setCell ⟨O, q, none⟩ (.slice a lq.length cq)) := (Out.ofBelow hb).trans (Out.set O q w4 _)
      have HV5 : Hid (VRow (w4.setCell ⟨O, q, none⟩ (.slice a lq.length cq)) O (fun j => if j = q then .slice a lq.length cq else V j)) := hV4.put q (.slice a lq.length cq)
      have hr5 := hr.out (Out.set O q w4 (.slice a lq.length cq)) (.inr (by omega))
      obtain ⟨H', hF'⟩ := HST.out _ a cq hO4 (by simpa using hr5) hz
      have HF' := (show Hid (FilC (fun j => kindL l0 l1 l2 l3 (j : Int)) w3.heap.size (w4.setCell ⟨O, q, none⟩ (.slice a lq.length cq)) (fun j => if j = q then .slice a lq.length cq else V j) H' (q + 1)) from hF')
      have HO5 : Hid (Out O (O + 1) w3 (w4.setCell ⟨O, q, none⟩ (.slice a lq.length cq))) := hO.trans hO4
      clear hF' hr hr5 hb hV4 hV HST hO4 hO
      go_wp2
      go_roundw
      case rel => exact ⟨q + 1, by omega, by go_num, _, H', HV5.out, HE2.out _, HF'.out, HO5.out⟩
      case measure => simp [intOf]; omega
    · obtain rfl : q = 4 := by omega
      obtain ⟨a0', a1', a2', a3', e0, e1, e2, e3, x0, x1, x2, x3, u0, u1, u2, u3, T⟩ := hF.done hV
      have R4 := R0.out hO (.inl (by omega))
      have L4 := L0.trans (hO.below (by omega) L0.size)
      have zM := hO.size
      have zL := L0.size
      clear hF hV hE hO HK R0 L0
      try dsimp only at x0 x1 x2 x3 T u0 u1 u2 u3
      have s0 : kindL l0 l1 l2 l3 ((0 : Nat) : Int) = l0 := rfl
      have s1 : kindL l0 l1 l2 l3 ((1 : Nat) : Int) = l1 := rfl
      have s2 : kindL l0 l1 l2 l3 ((2 : Nat) : Int) = l2 := rfl
      have s3 : kindL l0 l1 l2 l3 ((3 : Nat) : Int) = l3 := rfl
      rw [s0] at x0 T u0; rw [s1] at x1 T u1; rw [s2] at x2 T u2; rw [s3] at x3 T u3
      clear s0 s1 s2 s3
      go_wp2_with fail
      refine (asnOf_any _ _ _ _ _ _ _ _ _ _ _ _ _).mono ?_
      rintro e w5 ⟨rfl, hb⟩
      have R5 := R4.below hb R4.lt
      have L5 := L4.trans (hb.mono L4.size)
      have zz := hb.size
      replace T := T.below hb (Nat.le_refl _)
      clear hb R4 L4 x0 x1 x2 x3
      obtain ⟨F, FO⟩ := R5.fill (.slice a0' l0.length e0) (.slice a1' l1.length e1) (.slice a2' l2.length e2) (.slice a3' l3.length e3)
      have j0' := R5.c0; have j1' := R5.c1; have j2' := R5.c2; have j3' := R5.c3
      have g0 := R5.f0; have g1 := R5.f1; have g2 := R5.f2; have g3 := R5.f3
      go_wp2
      have i0 := F.c0; have i1 := F.c1; have i2 := F.c2; have i3 := F.c3
      have fz := FO.size
      refine bodyPost_ret (v := .agg #[.slice a0' l0.length e0, .slice a1' l1.length e1, .slice a2' l2.length e2, .slice a3' l3.length e3]) ?_ rfl ⟨a0', a1', a2', a3', e0, e1, e2, e3, rfl, ?_, ?_, ?_⟩
      · simp [results, Try.results176, go_sem, i0, i1, i2, i3]
      · exact (T.out FO (.inr (by omega))).mono (by omega) (by omega)
      · exact ⟨u0, u1, u2, u3⟩
      · exact L5.trans (FO.below (by omega) L5.size)

end Go.Proofs.Ytphchdjbhbmnbaa
namespace Go.Proofs.Ytphchdjbhbmnbaa
open Go.RowKit
set_option linter.unusedVariables false

/-- l[i:i+1], anywhere -/
theorem cut_oneP (b off n c i : Nat) (hi : i < n) (hn : n ≤ c) (w : World) : (Instr.slice 26 (.slice (some ⟨b, off, none⟩) n c) (some (.int .i64 i)) (some (.int .i64 ((i : Int) + 1))) none).run Try.prog w = .ok (.slice (some ⟨b, off + i * 2, none⟩) 1 (c - i)) w := by
  have h0 : (0 : Int) ≤ i := by omega
  have h1 : (i : Int) ≤ (i : Int) + 1 := by omega
  have h2 : ((i : Int) + 1) ≤ c := by omega
  rw [run_slice_lh (P := Try.prog) (w := w) 26 (some ⟨b, off, none⟩) n c (by kernel_rfl) .i64 .i64 i ((i : Int) + 1) h0 h1 h2]
  have e : ¬ c = i := by omega
  simp [sliced, go_sem, addr_add, e]
theorem one_rowP {w : World} {b off k : Nat} {l : List (Int × Int)} (h : PRow w (some ⟨b, off, none⟩) l) (hk : k < l.length) : PRow w (some ⟨b, off + k * 2, none⟩) [l.getD k (0, 0)] := by
  rcases h with h | ⟨b', off', h, h1, h2⟩
  · rw [h] at hk; simp at hk
  · injection h with h; injection h with hb ho; subst hb; subst ho
    refine .inr ⟨b, off + k * 2, rfl, h1, fun j hj => ?_⟩
    obtain rfl : j = 0 := by simpa using hj
    simpa using h2 k hk

theorem PRow.outP {lo hi : Nat} {w w' : World} {b off : Nat} {l : List (Int × Int)} (h : PRow w (some ⟨b, off, none⟩) l) (ho : Out lo hi w w') (hr : b < lo ∨ hi ≤ b) : PRow w' (some ⟨b, off, none⟩) l := by
  rcases h with h | ⟨b', off', e, hlt, hc⟩
  · exact .inl h
  · injection e with e; injection e with e1 e2; subst e1; subst e2
    have e : ∀ o, w'.cell? ⟨b, o, none⟩ = w.cell? ⟨b, o, none⟩ := fun o => World.cell?_of_block (w := w) (ho.block b hlt hr)
    refine .inr ⟨b, off, rfl, Nat.lt_of_lt_of_le hlt ho.size, fun i hi => ?_⟩
    rw [e, e]; exact hc i hi
theorem Four.drop0 {w : World} {lo hi n0 n1 n2 n3 : Nat} {a0 a1 a2 a3 : Option Addr} {l0 l1 l2 l3 : List (Int × Int)} (h : Four w lo hi a0 a1 a2 a3 n0 n1 n2 n3 l0 l1 l2 l3) : Four w lo hi Option.none a1 a2 a3 0 n1 n2 n3 [] l1 l2 l3 := by
  obtain ⟨s0, t0, s1, t1, s2, t2, s3, t3, ⟨p0, q0, r0⟩, h1, h2, h3, d⟩ := h
  exact ⟨s0, t0, s1, t1, s2, t2, s3, t3, ⟨p0, q0, rfl, .inl rfl⟩, h1, h2, h3, d⟩
theorem Four.drop1 {w : World} {lo hi n0 n1 n2 n3 : Nat} {a0 a1 a2 a3 : Option Addr} {l0 l1 l2 l3 : List (Int × Int)} (h : Four w lo hi a0 a1 a2 a3 n0 n1 n2 n3 l0 l1 l2 l3) : Four w lo hi a0 Option.none a2 a3 n0 0 n2 n3 l0 [] l2 l3 := by
  obtain ⟨s0, t0, s1, t1, s2, t2, s3, t3, h0, ⟨p1, q1, r1⟩, h2, h3, d⟩ := h
  exact ⟨s0, t0, s1, t1, s2, t2, s3, t3, h0, ⟨p1, q1, rfl, .inl rfl⟩, h2, h3, d⟩
abbrev SJ (A Z Y b s : Nat) (v x0 x1 x2 x3 y0 y1 y2 y3 e f : Value) (W : World) : Prop := W.cell? ⟨A, 3, none⟩ = some v ∧ W.cell? ⟨Z, 0, none⟩ = some x0 ∧ W.cell? ⟨Z, 1, none⟩ = some x1 ∧ W.cell? ⟨Z, 2, none⟩ = some x2 ∧ W.cell? ⟨Z, 3, none⟩ = some x3 ∧ W.cell? ⟨Y, 0, none⟩ = some y0 ∧ W.cell? ⟨Y, 1, none⟩ = some y1 ∧ W.cell? ⟨Y, 2, none⟩ = some y2 ∧ W.cell? ⟨Y, 3, none⟩ = some y3 ∧ W.cell? ⟨b, s, none⟩ = some e ∧ W.cell? ⟨b, s + 1, none⟩ = some f
theorem SJ.of {A Z Y b s : Nat} {v x0 x1 x2 x3 y0 y1 y2 y3 e f : Value} {W u : World} (h : SJ A Z Y b s v x0 x1 x2 x3 y0 y1 y2 y3 e f W) (hc : ∀ B o, B = A ∨ B = Z ∨ B = Y ∨ B = b → u.cell? ⟨B, o, none⟩ = W.cell? ⟨B, o, none⟩) : SJ A Z Y b s v x0 x1 x2 x3 y0 y1 y2 y3 e f u := by
  obtain ⟨h0, h1, h2, h3, h4, h5, h6, h7, h8, h9, h10⟩ := h
  refine ⟨?_, ?_, ?_, ?_, ?_, ?_, ?_, ?_, ?_, ?_, ?_⟩ <;> rw [hc _ _ (by simp)] <;> assumption

set_option linter.unusedSimpArgs false in
set_option maxRecDepth 20000 in
set_option maxHeartbeats 4000000 in
theorem iSplit_yes (a0 a1 a2 a3 : Option Addr) (c0 c1 c2 c3 : Nat) (l0 l1 l2 l3 : List (Int × Int)) (k : Nat) (w : World) (n0 : l0.length ≤ 1048576) (n1 : l1.length ≤ 1048576) (n2 : l2.length ≤ 1048576) (n3 : l3.length ≤ 1048576) (r0 : PRow w a0 l0) (r1 : PRow w a1 l1) (r2 : PRow w a2 l2) (r3 : PRow w a3 l3) (z0 : CapZ a0 l0.length c0) (z1 : CapZ a1 l1.length c1) (z2 : CapZ a2 l2.length c2) (z3 : CapZ a3 l3.length c3) (hB : roomB l0 l1 l2 l3 = true) (hk : k < l3.length) :
    Calls Try.prog 96 #[.agg #[.slice a0 l0.length c0, .slice a1 l1.length c1, .slice a2 l2.length c2, .slice a3 l3.length c3], .int .i64 k] w fun e w' => ∃ p0 p1 p2 p3 q0 q1 q2 q3 u0 u1 u2 u3 v0 v1 v2 v3 m1 m2 m3, e = .returned (.tuple #[.agg #[.slice p0 (l0.length + 1) q0, .slice p1 l1.length q1, .slice p2 l2.length q2, .slice p3 (k + (l3.length - (k + 1))) q3], .agg #[.slice u0 l0.length v0, .slice u1 (l1.length + 1) v1, .slice u2 l2.length v2, .slice u3 l3.length v3], .bool true]) ∧ (w.heap.size ≤ m1 ∧ m1 ≤ m2 ∧ m2 ≤ m3 ∧ m3 ≤ w'.heap.size) ∧ Four w' w.heap.size m1 none p1 p2 p3 0 l1.length l2.length (k + (l3.length - (k + 1))) [] l1 l2 (l3.take k ++ l3.drop (k + 1)) ∧ Four w' m1 m2 u0 none u2 u3 l0.length 0 l2.length l3.length l0 [] l2 l3 ∧ RowIn w' m2 m3 u1 (l1.length + 1) (l1 ++ [l3.getD k (0, 0)]) ∧ RowIn w' m3 w'.heap.size p0 (l0.length + 1) (l0 ++ [l3.getD k (0, 0)]) ∧ Below w.heap.size w w' := by
  have hb3 : Hid (∀ b off, a3 = some ⟨b, off, none⟩ → b < w.heap.size) := by
    intro b off h
    rcases r3 with hh | ⟨b', off', hh, h1, _⟩
    · rw [hh] at hk; simp at hk
    · rw [h] at hh; injection hh with hh; injection hh with h2 _; omega
  have A0 := ((Box.new w (.slice a0 l0.length c0) (.slice a1 l1.length c1) (.slice a2 l2.length c2) (.slice a3 l3.length c3) 28).alloc (.cells #[.slice none 0 0, .slice none 0 0, .slice none 0 0, .slice none 0 0] 28)).alloc (.cells #[.slice none 0 0, .slice none 0 0, .slice none 0 0, .slice none 0 0] 28)
  have R0 := (Box.new (w.alloc (.cells #[.slice a0 l0.length c0, .slice a1 l1.length c1, .slice a2 l2.length c2, .slice a3 l3.length c3] 28)) (.slice none 0 0) (.slice none 0 0) (.slice none 0 0) (.slice none 0 0) 28).alloc (.cells #[.slice none 0 0, .slice none 0 0, .slice none 0 0, .slice none 0 0] 28)
  have Y0 := Box.new ((w.alloc (.cells #[.slice a0 l0.length c0, .slice a1 l1.length c1, .slice a2 l2.length c2, .slice a3 l3.length c3] 28)).alloc (.cells #[.slice none 0 0, .slice none 0 0, .slice none 0 0, .slice none 0 0] 28)) (.slice none 0 0) (.slice none 0 0) (.slice none 0 0) (.slice none 0 0) 28
  have L0 : Below w.heap.size w (((w.alloc (.cells #[.slice a0 l0.length c0, .slice a1 l1.length c1, .slice a2 l2.length c2, .slice a3 l3.length c3] 28)).alloc (.cells #[.slice none 0 0, .slice none 0 0, .slice none 0 0, .slice none 0 0] 28)).alloc (.cells #[.slice none 0 0, .slice none 0 0, .slice none 0 0, .slice none 0 0] 28)) := (((Below.refl _ _).alloc (Nat.le_refl _) _).alloc (by simp) _).alloc (by simp; omega) _
  rw [World.size_alloc] at R0 Y0
  rw [World.size_alloc] at Y0
  have A0c0 := A0.c0; have A0c1 := A0.c1; have A0c2 := A0.c2; have A0c3 := A0.c3
  go_enter Try.func96, Try.ntmps96
  go_upto_region 1 with fail
  replace r0 := r0.below L0 (Nat.le_refl _); replace r1 := r1.below L0 (Nat.le_refl _); replace r2 := r2.below L0 (Nat.le_refl _); replace r3 := r3.below L0 (Nat.le_refl _)
  generalize (((w.alloc (.cells #[.slice a0 l0.length c0, .slice a1 l1.length c1, .slice a2 l2.length c2, .slice a3 l3.length c3] 28)).alloc (.cells #[.slice none 0 0, .slice none 0 0, .slice none 0 0, .slice none 0 0] 28)).alloc (.cells #[.slice none 0 0, .slice none 0 0, .slice none 0 0, .slice none 0 0] 28)) = wB at *
  go_wp2_with fail
  refine (hasRoom_any _ _ _ _ _ _ _ _ l0 l1 l2 l3 _ n0 n1 n2 n3 r0 r1 r2 r3).mono ?_
  rintro e w1 ⟨rfl, hb⟩
  clear A0c0 A0c1 A0c2 A0c3
  replace A0 := A0.below hb A0.lt; replace R0 := R0.below hb R0.lt; replace Y0 := Y0.below hb Y0.lt; replace L0 := L0.trans (hb.mono L0.size)
  replace r0 := r0.below hb (Nat.le_refl _); replace r1 := r1.below hb (Nat.le_refl _); replace r2 := r2.below hb (Nat.le_refl _); replace r3 := r3.below hb (Nat.le_refl _)
  clear hb
  have hw : wthB l0 l1 l2 l3 3 (k : Int) = true := by
    rw [wth3]
    have h : asnB l0 l1 l2 l3 = true := by unfold roomB at hB; simp only [Bool.and_eq_true] at hB; exact hB.1.1
    rw [h, decide_eq_true (by omega)]; rfl
  rw [hB]
  have A0c0 := A0.c0; have A0c1 := A0.c1; have A0c2 := A0.c2; have A0c3 := A0.c3
  clear hB
  go_wp2_with fail
  refine (iWithout3_yes a0 a1 a2 a3 c0 c1 c2 c3 l0 l1 l2 l3 k _ n0 n1 n2 n3 r0 r1 r2 r3 z0 z1 z2 z3 hw hk).mono ?_
  rintro e w2 ⟨p0, p1, p2, p3, q0, q1, q2, q3, rfl, T, ⟨y0, y1, y2, y3⟩, hb⟩
  clear A0c0 A0c1 A0c2 A0c3 hw
  have al : Below w2.heap.size w2 (w2.alloc (.cells #[.slice p0 l0.length q0, .slice p1 l1.length q1, .slice p2 l2.length q2, .slice p3 (k + (l3.length - (k + 1))) q3] 28)) := (Below.refl _ _).alloc (Nat.le_refl _) _
  have X7 := Box.new w2 (.slice p0 l0.length q0) (.slice p1 l1.length q1) (.slice p2 l2.length q2) (.slice p3 (k + (l3.length - (k + 1))) q3) 28
  have zl0 := L0.size
  have zy1 := Y0.lt
  have zA1 := A0.lt
  have zb := hb.size
  have zx : w2.heap.size < (w2.alloc (.cells #[.slice p0 l0.length q0, .slice p1 l1.length q1, .slice p2 l2.length q2, .slice p3 (k + (l3.length - (k + 1))) q3] 28)).heap.size := by simp
  replace A0 := (A0.below hb A0.lt).below al (by omega); replace R0 := (R0.below hb R0.lt).below al (by omega); replace Y0 := (Y0.below hb Y0.lt).below al (by omega); replace L0 := (L0.trans (hb.mono L0.size)).trans (al.mono (Nat.le_trans L0.size hb.size))
  replace r0 := r0.below hb (Nat.le_refl _); replace r1 := r1.below hb (Nat.le_refl _); replace r2 := r2.below hb (Nat.le_refl _); replace r3 := r3.below hb (Nat.le_refl _)
  replace r0 := r0.below al (Nat.le_refl _); replace r1 := r1.below al (Nat.le_refl _); replace r2 := r2.below al (Nat.le_refl _); replace r3 := r3.below al (Nat.le_refl _)
  replace T := (T.below al (Nat.le_refl _)).mono (show w.heap.size + 3 ≤ _ by omega) (Nat.le_refl _)
  have zy : w.heap.size + 3 ≤ w2.heap.size := by omega
  clear hb al zl0 zy1 zA1 zb
  go_upto_region 4 with fail
  generalize w2.alloc (.cells #[.slice p0 l0.length q0, .slice p1 l1.length q1, .slice p2 l2.length q2, .slice p3 (k + (l3.length - (k + 1))) q3] 28) = w3 at *
  generalize w2.heap.size = Z7 at *
  have A0c0 := A0.c0; have A0c1 := A0.c1; have A0c2 := A0.c2; have A0c3 := A0.c3
  go_wp2_with fail
  refine (ownCopy_any a0 a1 a2 a3 c0 c1 c2 c3 l0 l1 l2 l3 _ n0 n1 n2 n3 r0 r1 r2 r3 z0 z1 z2 z3).mono ?_
  rintro e w4 ⟨u0, u1, u2, u3, v0, v1, v2, v3, rfl, U, ⟨x0, x1, x2, x3⟩, hb⟩
  clear A0c0 A0c1 A0c2 A0c3
  have al : Below w4.heap.size w4 (w4.alloc (.cells #[.slice u0 l0.length v0, .slice u1 l1.length v1, .slice u2 l2.length v2, .slice u3 l3.length v3] 28)) := (Below.refl _ _).alloc (Nat.le_refl _) _
  have X9 := Box.new w4 (.slice u0 l0.length v0) (.slice u1 l1.length v1) (.slice u2 l2.length v2) (.slice u3 l3.length v3) 28
  have zb := hb.size
  have zx9 : w4.heap.size < (w4.alloc (.cells #[.slice u0 l0.length v0, .slice u1 l1.length v1, .slice u2 l2.length v2, .slice u3 l3.length v3] 28)).heap.size := by simp
  replace A0 := (A0.below hb A0.lt).below al (by omega); replace R0 := (R0.below hb R0.lt).below al (by omega); replace Y0 := (Y0.below hb Y0.lt).below al (by omega); replace L0 := (L0.trans (hb.mono L0.size)).trans (al.mono (Nat.le_trans L0.size hb.size))
  replace X7 := (X7.below hb (by omega)).below al (by omega)
  replace r0 := r0.below hb (Nat.le_refl _); replace r1 := r1.below hb (Nat.le_refl _); replace r2 := r2.below hb (Nat.le_refl _); replace r3 := r3.below hb (Nat.le_refl _)
  replace r0 := r0.below al (Nat.le_refl _); replace r1 := r1.below al (Nat.le_refl _); replace r2 := r2.below al (Nat.le_refl _); replace r3 := r3.below al (Nat.le_refl _)
  replace T := (T.below hb (by omega)).below al (by omega)
  replace U := U.below al (Nat.le_refl _)
  clear hb al
  go_upto_region 7 with fail
  generalize w4.alloc (.cells #[.slice u0 l0.length v0, .slice u1 l1.length v1, .slice u2 l2.length v2, .slice u3 l3.length v3] 28) = w5 at *
  generalize w4.heap.size = Z9 at *
  generalize hM1 : w3.heap.size = M1 at *
  clear hM1
  obtain ⟨b, off, rfl⟩ : ∃ b off, a3 = some ⟨b, off, none⟩ := by
    rcases r3 with h | ⟨b, off, h, h1, h2⟩
    · rw [h] at hk; simp at hk
    · exact ⟨b, off, h⟩
  have hbw := hb3.out b off rfl
  clear hb3
  have rs := one_rowP r3 hk
  have hx : ∀ w : World, (Instr.slice 26 (.slice (some ⟨b, off, none⟩) l3.length c3) (some (.int .i64 k)) (some (.int .i64 ((k : Int) + 1))) none).run Try.prog w = .ok (.slice (some ⟨b, off + k * 2, none⟩) 1 (c3 - k)) w := fun w => cut_oneP _ _ _ _ _ hk z3.2 w
  have hwr : IntKind.i64.wrap ((k : Int) + 1) = (k : Int) + 1 := by rw [IntKind.wrap_i64]; omega
  have hb0 : Below w5.heap.size w5 w5.drew := (Below.refl _ _).drew
  have hc1 : w5.drew.cell? ⟨Z9, 1, none⟩ = some (.slice u1 l1.length v1) := X9.c1
  have hc3 : w5.drew.cell? ⟨w.heap.size, 3, none⟩ = some (.slice (some ⟨b, off, none⟩) l3.length c3) := A0.c3
  have ru : PRow w5 u1 l1 := U.seen.2.1.row
  go_cut [] (fun wz => ∃ d y, Box wz Z9 (.slice u0 l0.length v0) (.slice d (l1.length + 1) y) (.slice u2 l2.length v2) (.slice u3 l3.length v3) ∧ RowIn wz w5.heap.size wz.heap.size d (l1.length + 1) (l1 ++ [l3.getD k (0, 0)]) ∧ Out Z9 (Z9 + 1) w5 wz)
  case first =>
    refine wp_region_held_drew (S := fun W => W.cell? ⟨w.heap.size, 3, none⟩ = some (.slice (some ⟨b, off, none⟩) l3.length c3)) (by kernel_rfl) hc3 (fun _ => ?_)
    refine wpAnyH_take (i := 0) (v := .pointer (some ⟨Z9, 1, none⟩)) rfl (by kernel_rfl) (by kernel_rfl) (by kernel_rfl) (fun _ _ _ h => h) (Or.inl ⟨by rfl, ?_⟩) hc3 ?_
    · intro w2 hSw; go_simp
    simp only [Act.put, List.setIfInBounds_toArray, List.set_cons_zero, List.set_cons_succ]
    refine wpAnyH_take (i := 2) (v := .pointer (some ⟨w.heap.size, 3, none⟩)) rfl (by kernel_rfl) (by kernel_rfl) (by kernel_rfl) (fun _ _ _ h => h) (Or.inl ⟨by rfl, ?_⟩) hc3 ?_
    · intro w2 hSw; go_simp
    simp only [Act.put, List.setIfInBounds_toArray, List.set_cons_zero, List.set_cons_succ]
    refine wpAnyH_take (i := 3) (v := .slice (some ⟨b, off, none⟩) l3.length c3) rfl (by kernel_rfl) (by kernel_rfl) (by kernel_rfl) (fun _ _ _ h => h) (Or.inl ⟨by rfl, ?_⟩) hc3 ?_
    · intro w2 hSw; go_simp
    simp only [Act.put, List.setIfInBounds_toArray, List.set_cons_zero, List.set_cons_succ]
    refine wpAnyH_take (i := 4) (v := .int .i64 k) rfl (by kernel_rfl) (by kernel_rfl) (by kernel_rfl) (fun _ _ _ h => h) (Or.inl ⟨by rfl, ?_⟩) hc3 ?_
    · intro w2 hSw; go_simp
    simp only [Act.put, List.setIfInBounds_toArray, List.set_cons_zero, List.set_cons_succ]
    refine wpAnyH_take (i := 5) (v := .int .i64 k) rfl (by kernel_rfl) (by kernel_rfl) (by kernel_rfl) (fun _ _ _ h => h) (Or.inl ⟨by rfl, ?_⟩) hc3 ?_
    · intro w2 hSw; go_simp
    simp only [Act.put, List.setIfInBounds_toArray, List.set_cons_zero, List.set_cons_succ]
    refine wpAnyH_take (i := 6) (v := .int .i64 ((k : Int) + 1)) rfl (by kernel_rfl) (by kernel_rfl) (by kernel_rfl) (fun _ _ _ h => h) (Or.inl ⟨by rfl, ?_⟩) hc3 ?_
    · intro w2 hSw; go_simp
    simp only [Act.put, List.setIfInBounds_toArray, List.set_cons_zero, List.set_cons_succ]
    refine wpAnyH_ready (rs := [1, 7]) (by kernel_rfl) (by simp) ?_
    refine AllReadyH.cons rfl (fun K hK' => ?_) (AllReadyH.cons rfl (fun K hK' => ?_) AllReadyH.nil)
    · rw [if_pos (by rfl)]
      go_simp
      refine hK'.out _ _ hc3 (fun _ => ?_)
      clear hK' K
      refine wpAnyH_ready (rs := [7]) (by kernel_rfl) (by simp) ?_
      refine AllReadyH.cons rfl (fun K hK' => ?_) AllReadyH.nil
      rw [if_pos (by rfl)]
      go_simp
      refine hK'.out _ _ hc3 (fun _ => ?_)
      clear hK' K
      refine wpAnyH_ready (rs := [8]) (by kernel_rfl) (by simp) ?_
      refine AllReadyH.cons rfl (fun K hK' => ?_) AllReadyH.nil
      rw [if_pos (by rfl)]
      go_simp
      refine (behind_cap u1 (some ⟨b, off + k * 2, none⟩) l1.length 1 v1 (c3 - k) l1 [l3.getD k (0, 0)] _ rfl rfl (by omega) (ru.below hb0 (Nat.le_refl _)) (rs.below hb0 (Nat.le_refl _)) x1.1 (by intro e; cases e)).mono ?_
      rintro e w6 ⟨d, y, rfl, hr, hz, hb⟩
      replace hb := hb0.trans hb
      have B9 := X9.below hb X9.lt
      have cO : w6.cell? ⟨Z9, 1, none⟩ = some (.slice u1 l1.length v1) := B9.c1
      have cA : w6.cell? ⟨w.heap.size, 3, none⟩ = some (.slice (some ⟨b, off, none⟩) l3.length c3) := (A0.below hb A0.lt).c3
      have f1 := B9.f1
      have cA2 : (w6.setCell ⟨Z9, 1, none⟩ (.slice d (l1.length + 1) y)).cell? ⟨w.heap.size, 3, none⟩ = some (.slice (some ⟨b, off, none⟩) l3.length c3) := by rw [World.cell?_setCell_other _ _ _ _ (by intro h; injection h with h1; omega)]; exact cA
      refine hK'.out _ _ cA (fun _ => ?_)
      clear hK' K
      refine wpAnyH_take (i := 9) (v := .pointer (some ⟨Z9, 1, none⟩)) rfl (by kernel_rfl) (by kernel_rfl) (by kernel_rfl) (fun _ _ _ h => h) (Or.inl ⟨by rfl, ?_⟩) cA ?_
      · intro w2 hSw; go_simp
      simp only [Act.put, List.setIfInBounds_toArray, List.set_cons_zero, List.set_cons_succ]
      refine wpAnyH_ready (rs := [10]) (by kernel_rfl) (by simp) ?_
      refine AllReadyH.cons rfl (fun K hK' => ?_) AllReadyH.nil
      rw [if_pos (by rfl)]
      try go_simp
      refine hK'.out _ _ cA2 (fun _ => ?_)
      clear hK' K
      refine wpAnyH_done (by kernel_rfl) ?_ _
      try simp only [List.getElem_toArray, List.getElem_cons_succ, List.getElem_cons_zero, Act.put, List.setIfInBounds_toArray, List.set_cons_zero, List.set_cons_succ]
      go_wp2_with fail
      go_meet
      exact ⟨d, y, B9.set1 _, by simpa using hr.out (Out.set Z9 1 w6 (.slice d (l1.length + 1) y)) (.inr (by simp; omega)), (Out.ofBelow (hi := Z9 + 1) (lo := Z9) (by simpa using hb)).trans (Out.set Z9 1 w6 _)⟩
    · rw [if_pos (by rfl)]
      go_simp
      refine hK'.out _ _ hc3 (fun _ => ?_)
      clear hK' K
      refine wpAnyH_ready (rs := [1]) (by kernel_rfl) (by simp) ?_
      refine AllReadyH.cons rfl (fun K hK' => ?_) AllReadyH.nil
      rw [if_pos (by rfl)]
      go_simp
      refine hK'.out _ _ hc3 (fun _ => ?_)
      clear hK' K
      refine wpAnyH_ready (rs := [8]) (by kernel_rfl) (by simp) ?_
      refine AllReadyH.cons rfl (fun K hK' => ?_) AllReadyH.nil
      rw [if_pos (by rfl)]
      go_simp
      refine (behind_cap u1 (some ⟨b, off + k * 2, none⟩) l1.length 1 v1 (c3 - k) l1 [l3.getD k (0, 0)] _ rfl rfl (by omega) (ru.below hb0 (Nat.le_refl _)) (rs.below hb0 (Nat.le_refl _)) x1.1 (by intro e; cases e)).mono ?_
      rintro e w6 ⟨d, y, rfl, hr, hz, hb⟩
      replace hb := hb0.trans hb
      have B9 := X9.below hb X9.lt
      have cO : w6.cell? ⟨Z9, 1, none⟩ = some (.slice u1 l1.length v1) := B9.c1
      have cA : w6.cell? ⟨w.heap.size, 3, none⟩ = some (.slice (some ⟨b, off, none⟩) l3.length c3) := (A0.below hb A0.lt).c3
      have f1 := B9.f1
      have cA2 : (w6.setCell ⟨Z9, 1, none⟩ (.slice d (l1.length + 1) y)).cell? ⟨w.heap.size, 3, none⟩ = some (.slice (some ⟨b, off, none⟩) l3.length c3) := by rw [World.cell?_setCell_other _ _ _ _ (by intro h; injection h with h1; omega)]; exact cA
      refine hK'.out _ _ cA (fun _ => ?_)
      clear hK' K
      refine wpAnyH_take (i := 9) (v := .pointer (some ⟨Z9, 1, none⟩)) rfl (by kernel_rfl) (by kernel_rfl) (by kernel_rfl) (fun _ _ _ h => h) (Or.inl ⟨by rfl, ?_⟩) cA ?_
      · intro w2 hSw; go_simp
      simp only [Act.put, List.setIfInBounds_toArray, List.set_cons_zero, List.set_cons_succ]
      refine wpAnyH_ready (rs := [10]) (by kernel_rfl) (by simp) ?_
      refine AllReadyH.cons rfl (fun K hK' => ?_) AllReadyH.nil
      rw [if_pos (by rfl)]
      try go_simp
      refine hK'.out _ _ cA2 (fun _ => ?_)
      clear hK' K
      refine wpAnyH_done (by kernel_rfl) ?_ _
      try simp only [List.getElem_toArray, List.getElem_cons_succ, List.getElem_cons_zero, Act.put, List.setIfInBounds_toArray, List.set_cons_zero, List.set_cons_succ]
      go_wp2_with fail
      go_meet
      exact ⟨d, y, B9.set1 _, by simpa using hr.out (Out.set Z9 1 w6 (.slice d (l1.length + 1) y)) (.inr (by simp; omega)), (Out.ofBelow (hi := Z9 + 1) (lo := Z9) (by simpa using hb)).trans (Out.set Z9 1 w6 _)⟩
  case rest =>
    obtain ⟨d, y, B9, hr, ho⟩ := hcut
    rename World => w6
    clear hx hwr hb0 hc1 hc3 ru rs
    have zs := ho.size
    replace A0 := A0.out ho (.inl (by omega)); replace R0 := R0.out ho (.inl (by omega)); replace Y0 := Y0.out ho (.inl (by omega)); replace X7 := X7.out ho (.inl (by omega)); replace L0 := L0.trans (ho.below (by omega) L0.size)
    replace T := T.out ho (.inl (by omega)); replace U := U.out ho (.inl (by omega))
    clear X9
    replace r3 := PRow.outP r3 ho (.inl (by omega))
    have s0 : w6.cell? ⟨b, off + k * 2, none⟩ = some (.int .i64 (l3.getD k (0, 0)).1) ∧ w6.cell? ⟨b, off + k * 2 + 1, none⟩ = some (.int .i64 (l3.getD k (0, 0)).2) := by
      rcases r3 with h | ⟨b', off', h, h1, h2⟩
      · rw [h] at hk; simp at hk
      · injection h with h; injection h with hb ho; subst hb; subst ho
        exact h2 k hk
    have rp : PRow w6 p0 l0 := T.seen.1.row
    have hS0 : SJ w.heap.size Z7 Z9 b (off + k * 2) (.slice (some ⟨b, off, none⟩) l3.length c3) (.slice p0 l0.length q0) (.slice p1 l1.length q1) (.slice p2 l2.length q2) (.slice p3 (k + (l3.length - (k + 1))) q3) (.slice u0 l0.length v0) (.slice d (l1.length + 1) y) (.slice u2 l2.length v2) (.slice u3 l3.length v3) (.int .i64 (l3.getD k (0, 0)).1) (.int .i64 (l3.getD k (0, 0)).2) w6.drew := ⟨A0.c3, X7.c0, X7.c1, X7.c2, X7.c3, B9.c0, B9.c1, B9.c2, B9.c3, s0.1, s0.2⟩
    generalize hsg : l3.getD k (0, 0) = sg at *
    have HSG : Hid (l3.getD k (0, 0) = sg) := hsg
    clear hsg
    have hkl : (k : Int) < (l3.length : Int) := by omega
    go_upto_region 8 with fail
    refine wp_region_held_drew (S := fun W => SJ w.heap.size Z7 Z9 b (off + k * 2) (.slice (some ⟨b, off, none⟩) l3.length c3) (.slice p0 l0.length q0) (.slice p1 l1.length q1) (.slice p2 l2.length q2) (.slice p3 (k + (l3.length - (k + 1))) q3) (.slice u0 l0.length v0) (.slice d (l1.length + 1) y) (.slice u2 l2.length v2) (.slice u3 l3.length v3) (.int .i64 sg.1) (.int .i64 sg.2) W) (by kernel_rfl) hS0 (fun _ => ?_)
    refine wpAnyH_take (i := 0) (v := .agg #[.slice p0 l0.length q0, .slice p1 l1.length q1, .slice p2 l2.length q2, .slice p3 (k + (l3.length - (k + 1))) q3]) rfl (by kernel_rfl) (by kernel_rfl) (by kernel_rfl) (fun _ _ _ h => h) (Or.inl ⟨by rfl, ?_⟩) hS0 ?_
    · intro w2 hSw; obtain ⟨m0, m1, m2, m3, m4, m5, m6, m7, m8, m9, m10⟩ := hSw; go_simp
    simp only [Act.put, List.setIfInBounds_toArray, List.set_cons_zero, List.set_cons_succ]
    refine wpAnyH_take (i := 1) (v := .pointer (some ⟨w.heap.size, 3, none⟩)) rfl (by kernel_rfl) (by kernel_rfl) (by kernel_rfl) (fun _ _ _ h => h) (Or.inl ⟨by rfl, ?_⟩) hS0 ?_
    · intro w2 hSw; obtain ⟨m0, m1, m2, m3, m4, m5, m6, m7, m8, m9, m10⟩ := hSw; go_simp
    simp only [Act.put, List.setIfInBounds_toArray, List.set_cons_zero, List.set_cons_succ]
    refine wpAnyH_take (i := 2) (v := .slice (some ⟨b, off, none⟩) l3.length c3) rfl (by kernel_rfl) (by kernel_rfl) (by kernel_rfl) (fun _ _ _ h => h) (Or.inl ⟨by rfl, ?_⟩) hS0 ?_
    · intro w2 hSw; obtain ⟨m0, m1, m2, m3, m4, m5, m6, m7, m8, m9, m10⟩ := hSw; go_simp
    simp only [Act.put, List.setIfInBounds_toArray, List.set_cons_zero, List.set_cons_succ]
    refine wpAnyH_take (i := 3) (v := .int .i64 k) rfl (by kernel_rfl) (by kernel_rfl) (by kernel_rfl) (fun _ _ _ h => h) (Or.inl ⟨by rfl, ?_⟩) hS0 ?_
    · intro w2 hSw; obtain ⟨m0, m1, m2, m3, m4, m5, m6, m7, m8, m9, m10⟩ := hSw; go_simp
    simp only [Act.put, List.setIfInBounds_toArray, List.set_cons_zero, List.set_cons_succ]
    refine wpAnyH_take (i := 4) (v := .pointer (some ⟨b, off + k * 2, none⟩)) rfl (by kernel_rfl) (by kernel_rfl) (by kernel_rfl) (fun _ _ _ h => h) (Or.inl ⟨by rfl, ?_⟩) hS0 ?_
    · intro w2 hSw; obtain ⟨m0, m1, m2, m3, m4, m5, m6, m7, m8, m9, m10⟩ := hSw; go_simp
    simp only [Act.put, List.setIfInBounds_toArray, List.set_cons_zero, List.set_cons_succ]
    refine wpAnyH_take (i := 5) (v := .agg #[.int .i64 sg.1, .int .i64 sg.2]) rfl (by kernel_rfl) (by kernel_rfl) (by kernel_rfl) (fun _ _ _ h => h) (Or.inl ⟨by rfl, ?_⟩) hS0 ?_
    · intro w2 hSw; obtain ⟨m0, m1, m2, m3, m4, m5, m6, m7, m8, m9, m10⟩ := hSw; go_simp
    simp only [Act.put, List.setIfInBounds_toArray, List.set_cons_zero, List.set_cons_succ]
    refine wpAnyH_take (i := 7) (v := .agg #[.slice u0 l0.length v0, .slice d (l1.length + 1) y, .slice u2 l2.length v2, .slice u3 l3.length v3]) rfl (by kernel_rfl) (by kernel_rfl) (by kernel_rfl) (fun _ _ _ h => h) (Or.inl ⟨by rfl, ?_⟩) hS0 ?_
    · intro w2 hSw; obtain ⟨m0, m1, m2, m3, m4, m5, m6, m7, m8, m9, m10⟩ := hSw; go_simp
    simp only [Act.put, List.setIfInBounds_toArray, List.set_cons_zero, List.set_cons_succ]
    refine wpAnyH_ready (rs := [6]) (by kernel_rfl) (by simp) ?_
    refine AllReadyH.cons rfl (fun K hK' => ?_) AllReadyH.nil
    rw [if_pos (by rfl)]
    go_simp
    have e3 : (l3.take k ++ l3.drop (k + 1)).length = k + (l3.length - (k + 1)) := by simp; omega
    have WC := withNothing_any p0 p1 p2 p3 q0 q1 q2 q3 l0 l1 l2 (l3.take k ++ l3.drop (k + 1)) sg.1 sg.2 w6.drew n0 (rp.below ((Below.refl _ _).drew) (Nat.le_refl _)) y0.1
    rw [e3] at WC
    refine WC.mono ?_
    clear WC e3
    rintro e w7 ⟨p9, q9, rfl, hr9, hz9, hb9⟩
    have hz1 := A0.lt
    have hz2 := X7.lt
    have hz3 := B9.lt
    have hz4 : b < w6.heap.size := Nat.lt_of_lt_of_le hbw L0.size
    have k7 := SJ.of hS0 (u := w7) (fun B o h => hb9.cell (p := ⟨B, o, none⟩) (by show B < w6.heap.size; rcases h with rfl | rfl | rfl | rfl <;> assumption))
    refine hK'.out _ _ k7 (fun _ => ?_)
    clear hK' K
    have hb := ((Below.refl w6.heap.size w6).drew).trans hb9
    have s9 : w6.heap.size ≤ w7.heap.size := hb9.size
    replace hr9 : RowIn w7 w6.heap.size w7.heap.size p9 (l0.length + 1) (l0 ++ [sg]) := hr9
    have R7 := R0.below hb R0.lt; have Y7 := Y0.below hb Y0.lt
    have L7 := L0.trans (hb.mono L0.size)
    replace T := T.below hb (by omega); replace U := U.below hb (by omega); replace hr := hr.below hb (Nat.le_refl _)
    clear hb hb9 R0 Y0 L0 A0 X7 B9 rp hS0 s0 r0 r1 r2 r3
    have j0' := R7.c0; have j1' := R7.c1; have j2' := R7.c2; have j3' := R7.c3
    have g0 := R7.f0; have g1 := R7.f1; have g2 := R7.f2; have g3 := R7.f3
    obtain ⟨F, FO⟩ := R7.fill (.slice p9 (l0.length + 1) q9) (.slice p1 l1.length q1) (.slice p2 l2.length q2) (.slice p3 (k + (l3.length - (k + 1))) q3)
    have Y8 := Y7.out FO (.inr (by omega))
    have hd7 : Z7 < w7.heap.size := Nat.lt_of_lt_of_le hz2 s9
    have hd9 : Z9 < w7.heap.size := Nat.lt_of_lt_of_le hz3 s9
    have hdb : b < w7.heap.size := Nat.lt_of_lt_of_le hz4 s9
    have hda : w.heap.size < w7.heap.size := Nat.lt_of_lt_of_le hz1 s9
    have he7 : w.heap.size + 1 + 1 + 1 ≤ Z7 := zy
    have he9 : w.heap.size + 1 + 1 + 1 ≤ Z9 := by omega
    have heb : b < w.heap.size + 1 := by omega
    have k8 := SJ.of k7 (fun B o h => World.cell?_of_block (a := ⟨B, o, none⟩) (FO.block B (by rcases h with rfl | rfl | rfl | rfl <;> assumption) (by rcases h with rfl | rfl | rfl | rfl <;> first | exact .inl (Nat.lt_succ_self _) | exact .inr (Nat.le_of_succ_le he7) | exact .inr (Nat.le_of_succ_le he9) | exact .inl heb)))
    have t8 := FO.size
    have L8 := L7.trans (FO.below (by omega) L7.size)
    have T8 := T.out FO (.inr (by omega)); have U8 := U.out FO (.inr (by omega)); have hr8 := hr.out FO (.inr (by omega)); have h98 := hr9.out FO (.inr (by omega))
    clear T U hr hr9 L7 Y7 hz1 hz2 hz3 hz4
    refine wpAnyH_ready (rs := [8]) (by kernel_rfl) (by simp) ?_
    refine AllReadyH.cons rfl (fun K hK' => ?_) AllReadyH.nil
    rw [if_pos (by rfl)]
    try go_simp
    refine hK'.out _ _ k8 (fun _ => ?_)
    clear hK' K g0 g1 g2 g3 j0' j1' j2' j3' FO R7 k7
    generalize (((w7.setCell ⟨w.heap.size + 1, 0, none⟩ (.slice p9 (l0.length + 1) q9)).setCell ⟨w.heap.size + 1, 1, none⟩ (.slice p1 l1.length q1)).setCell ⟨w.heap.size + 1, 2, none⟩ (.slice p2 l2.length q2)).setCell ⟨w.heap.size + 1, 3, none⟩ (.slice p3 (k + (l3.length - (k + 1))) q3) = w8 at *
    have j0' := Y8.c0; have j1' := Y8.c1; have j2' := Y8.c2; have j3' := Y8.c3
    have g0 := Y8.f0; have g1 := Y8.f1; have g2 := Y8.f2; have g3 := Y8.f3
    obtain ⟨G, GO⟩ := Y8.fill (.slice u0 l0.length v0) (.slice d (l1.length + 1) y) (.slice u2 l2.length v2) (.slice u3 l3.length v3)
    have k9 := SJ.of k8 (fun B o h => World.cell?_of_block (a := ⟨B, o, none⟩) (GO.block B (by rcases h with rfl | rfl | rfl | rfl <;> first | exact Nat.lt_of_lt_of_le hda t8 | exact Nat.lt_of_lt_of_le hd7 t8 | exact Nat.lt_of_lt_of_le hd9 t8 | exact Nat.lt_of_lt_of_le hdb t8) (by rcases h with rfl | rfl | rfl | rfl <;> first | exact .inl (Nat.lt_succ_of_lt (Nat.lt_succ_self _)) | exact .inr he7 | exact .inr he9 | exact .inl (Nat.lt_succ_of_lt heb))))
    have t9 := GO.size
    have L9 := L8.trans (GO.below (by omega) L8.size)
    have F9 := F.out GO (.inl (Nat.lt_succ_self _))
    have T9 := T8.out GO (.inr (by omega)); have U9 := U8.out GO (.inr (by omega)); have hr9 := hr8.out GO (.inr (by omega)); have h99 := h98.out GO (.inr (by omega))
    clear T8 U8 hr8 h98 L8 F
    refine wpAnyH_ready (rs := [9]) (by kernel_rfl) (by simp) ?_
    refine AllReadyH.cons rfl (fun K hK' => ?_) AllReadyH.nil
    rw [if_pos (by rfl)]
    try go_simp
    refine hK'.out _ _ k9 (fun _ => ?_)
    clear hK' K g0 g1 g2 g3 j0' j1' j2' j3' GO Y8 k8
    generalize (((w8.setCell ⟨w.heap.size + 1 + 1, 0, none⟩ (.slice u0 l0.length v0)).setCell ⟨w.heap.size + 1 + 1, 1, none⟩ (.slice d (l1.length + 1) y)).setCell ⟨w.heap.size + 1 + 1, 2, none⟩ (.slice u2 l2.length v2)).setCell ⟨w.heap.size + 1 + 1, 3, none⟩ (.slice u3 l3.length v3) = w9 at *
    refine wpAnyH_ready (rs := [10]) (by kernel_rfl) (by simp) ?_
    refine AllReadyH.cons rfl (fun K hK' => ?_) AllReadyH.nil
    rw [if_pos (by rfl)]
    try go_simp
    refine hK'.out _ _ k9 (fun _ => ?_)
    clear hK' K k9
    refine wpAnyH_done (by kernel_rfl) ?_ _
    try simp only [List.getElem_toArray, List.getElem_cons_succ, List.getElem_cons_zero, Act.put, List.setIfInBounds_toArray, List.set_cons_zero, List.set_cons_succ]
    have i0 := F9.c0; have i1 := F9.c1; have i2 := F9.c2; have i3 := F9.c3
    have k0 := G.c0; have k1 := G.c1; have k2 := G.c2; have k3 := G.c3
    go_wp2
    refine bodyPost_ret (v := .tuple #[.agg #[.slice p9 (l0.length + 1) q9, .slice p1 l1.length q1, .slice p2 l2.length q2, .slice p3 (k + (l3.length - (k + 1))) q3], .agg #[.slice u0 l0.length v0, .slice d (l1.length + 1) y, .slice u2 l2.length v2, .slice u3 l3.length v3], .bool true]) ?_ rfl ⟨p9, p1, p2, p3, q9, q1, q2, q3, u0, d, u2, u3, v0, y, v2, v3, Z7, Z9, w6.heap.size, rfl, ⟨Nat.le_trans (Nat.le_add_right _ 3) zy, Nat.le_trans (Nat.le_of_lt zx) zb, Nat.le_trans (Nat.le_of_lt zx9) zs, Nat.le_trans s9 (Nat.le_trans t8 t9)⟩, ?_, ?_, ?_, ?_, L9⟩
    · simp [results, Try.results96, go_sem, i0, i1, i2, i3, k0, k1, k2, k3]
    · exact T9.drop0.mono (Nat.le_trans (by omega) (Nat.le_refl (w.heap.size + 3))) (Nat.le_refl _)
    · exact U9.drop1.mono (Nat.le_of_lt zx) (Nat.le_refl _)
    · rw [HSG.out]; exact hr9.mono (Nat.le_of_lt zx9) (Nat.le_refl _)
    · rw [HSG.out]; exact h99.mono (Nat.le_refl _) (Nat.le_trans t8 t9)

end Go.Proofs.Ytphchdjbhbmnbaa
namespace Go.Proofs.Ytphchdjbhbmnbaa
open Go.RowKit
set_option linter.unusedVariables false

/-- What Split answers first. -/
def spU (l0 l1 l2 l3 : List (Int × Int)) (i : Int) : A4 := if splB l0 l1 l2 l3 i = true then (l0 ++ [l3.getD i.toNat (0, 0)], l1, l2, l3.take i.toNat ++ l3.drop (i.toNat + 1)) else ([], [], [], [])
/-- What Split answers next. -/
def spX (l0 l1 l2 l3 : List (Int × Int)) (i : Int) : A4 := if splB l0 l1 l2 l3 i = true then (l0, l1 ++ [l3.getD i.toNat (0, 0)], l2, l3) else ([], [], [], [])
/-- Four rows, the first of them behind a gap. -/
def G0 (w : World) (lo m1 m3 hi : Nat) (a0 a1 a2 a3 : Option Addr) (n0 n1 n2 n3 : Nat) (l0 l1 l2 l3 : List (Int × Int)) : Prop := Four w lo m1 none a1 a2 a3 0 n1 n2 n3 [] l1 l2 l3 ∧ RowIn w m3 hi a0 n0 l0 ∧ lo ≤ m1 ∧ m1 ≤ m3 ∧ m3 ≤ hi
theorem G0.below {B lo m1 m3 hi n0 n1 n2 n3 : Nat} {w w' : World} {a0 a1 a2 a3 : Option Addr} {l0 l1 l2 l3 : List (Int × Int)} (h : G0 w lo m1 m3 hi a0 a1 a2 a3 n0 n1 n2 n3 l0 l1 l2 l3) (hb : Below B w w') (hr : hi ≤ B) : G0 w' lo m1 m3 hi a0 a1 a2 a3 n0 n1 n2 n3 l0 l1 l2 l3 := by
  obtain ⟨h1, h2, h3, h4, h5⟩ := h
  exact ⟨h1.below hb (by omega), h2.below hb hr, h3, h4, h5⟩
theorem G0.out {lo' hi' lo m1 m3 hi n0 n1 n2 n3 : Nat} {w w' : World} {a0 a1 a2 a3 : Option Addr} {l0 l1 l2 l3 : List (Int × Int)} (h : G0 w lo m1 m3 hi a0 a1 a2 a3 n0 n1 n2 n3 l0 l1 l2 l3) (hb : Out lo' hi' w w') (hr : hi ≤ lo' ∨ hi' ≤ lo) : G0 w' lo m1 m3 hi a0 a1 a2 a3 n0 n1 n2 n3 l0 l1 l2 l3 := by
  obtain ⟨h1, h2, h3, h4, h5⟩ := h
  exact ⟨h1.out hb (by omega), h2.out hb (by omega), h3, h4, h5⟩
theorem G0.gap {lo m1 m3 hi n0 n1 n2 n3 : Nat} {w w' : World} {a0 a1 a2 a3 : Option Addr} {l0 l1 l2 l3 : List (Int × Int)} (h : G0 w lo m1 m3 hi a0 a1 a2 a3 n0 n1 n2 n3 l0 l1 l2 l3) (hb : Out m1 m3 w w') : G0 w' lo m1 m3 hi a0 a1 a2 a3 n0 n1 n2 n3 l0 l1 l2 l3 := by
  obtain ⟨h1, h2, h3, h4, h5⟩ := h
  exact ⟨h1.out hb (.inl (Nat.le_refl _)), h2.out hb (.inr (Nat.le_refl _)), h3, h4, h5⟩
theorem G0.four {lo m1 m3 hi n0 n1 n2 n3 : Nat} {w : World} {a0 a1 a2 a3 : Option Addr} {l0 l1 l2 l3 : List (Int × Int)} (h : G0 w lo m1 m3 hi a0 a1 a2 a3 n0 n1 n2 n3 l0 l1 l2 l3) : Four w lo hi a0 a1 a2 a3 n0 n1 n2 n3 l0 l1 l2 l3 := by
  obtain ⟨⟨s0, t0, s1, t1, s2, t2, s3, t3, ⟨p0, q0, r0⟩, ⟨p1, q1, r1⟩, ⟨p2, q2, r2⟩, ⟨p3, q3, r3⟩, d01, d02, d03, d12, d13, d23⟩, h2, h3, h4, h5⟩ := h
  exact ⟨m3, hi, s1, t1, s2, t2, s3, t3, ⟨by omega, Nat.le_refl _, h2⟩, ⟨p1, by omega, r1⟩, ⟨p2, by omega, r2⟩, ⟨p3, by omega, r3⟩, .inr (by omega), .inr (by omega), .inr (by omega), d12, d13, d23⟩

theorem sSpl {b0 b1 b2 b3 : Nat} {l0 l1 l2 l3 : List (Int × Int)} {i : Int} {w : World} (n0 : l0.length ≤ 1048576) (n1 : l1.length ≤ 1048576) (n2 : l2.length ≤ 1048576) (n3 : l3.length ≤ 1048576) (o0 : Own w b0 l0.length l0 l0.length) (o1 : Own w b1 l1.length l1 l1.length) (o2 : Own w b2 l2.length l2 l2.length) (o3 : Own w b3 l3.length l3 l3.length) :
    Calls Try.prog 95 #[.agg #[.slice (some ⟨b0, 0, none⟩) l0.length l0.length, .slice (some ⟨b1, 0, none⟩) l1.length l1.length, .slice (some ⟨b2, 0, none⟩) l2.length l2.length, .slice (some ⟨b3, 0, none⟩) l3.length l3.length], .int .i64 i] w fun e w' => ∃ p0 p1 p2 p3 q0 q1 q2 q3 u0 u1 u2 u3 v0 v1 v2 v3, e = .returned (.tuple #[.agg #[.slice p0 (spU l0 l1 l2 l3 i).1.length q0, .slice p1 (spU l0 l1 l2 l3 i).2.1.length q1, .slice p2 (spU l0 l1 l2 l3 i).2.2.1.length q2, .slice p3 (spU l0 l1 l2 l3 i).2.2.2.length q3], .agg #[.slice u0 (spX l0 l1 l2 l3 i).1.length v0, .slice u1 (spX l0 l1 l2 l3 i).2.1.length v1, .slice u2 (spX l0 l1 l2 l3 i).2.2.1.length v2, .slice u3 (spX l0 l1 l2 l3 i).2.2.2.length v3], .bool (splB l0 l1 l2 l3 i)]) ∧ Seen w' w.heap.size w'.heap.size p0 p1 p2 p3 (spU l0 l1 l2 l3 i).1.length (spU l0 l1 l2 l3 i).2.1.length (spU l0 l1 l2 l3 i).2.2.1.length (spU l0 l1 l2 l3 i).2.2.2.length (spU l0 l1 l2 l3 i).1 (spU l0 l1 l2 l3 i).2.1 (spU l0 l1 l2 l3 i).2.2.1 (spU l0 l1 l2 l3 i).2.2.2 ∧ Seen w' w.heap.size w'.heap.size u0 u1 u2 u3 (spX l0 l1 l2 l3 i).1.length (spX l0 l1 l2 l3 i).2.1.length (spX l0 l1 l2 l3 i).2.2.1.length (spX l0 l1 l2 l3 i).2.2.2.length (spX l0 l1 l2 l3 i).1 (spX l0 l1 l2 l3 i).2.1 (spX l0 l1 l2 l3 i).2.2.1 (spX l0 l1 l2 l3 i).2.2.2 ∧ Below w.heap.size w w' := by
  by_cases h : splB l0 l1 l2 l3 i = true
  · have h' := h
    unfold splB at h'
    simp only [Bool.and_eq_true, decide_eq_true_eq] at h'
    obtain ⟨hB, hi0, hi1⟩ := h'
    obtain ⟨k, rfl⟩ := Int.eq_ofNat_of_zero_le hi0
    have hk : k < l3.length := by omega
    have hU : spU l0 l1 l2 l3 (k : Int) = (l0 ++ [l3.getD k (0, 0)], l1, l2, l3.take k ++ l3.drop (k + 1)) := by unfold spU; rw [if_pos h, Int.toNat_natCast]
    have hX : spX l0 l1 l2 l3 (k : Int) = (l0, l1 ++ [l3.getD k (0, 0)], l2, l3) := by unfold spX; rw [if_pos h, Int.toNat_natCast]
    have e1 : (l0 ++ [l3.getD k (0, 0)]).length = l0.length + 1 := by simp
    have e2 : (l1 ++ [l3.getD k (0, 0)]).length = l1.length + 1 := by simp
    have e3 : (l3.take k ++ l3.drop (k + 1)).length = k + (l3.length - (k + 1)) := by rw [List.length_append, List.length_take, List.length_drop]; omega
    rw [hU, hX, h]
    dsimp only
    rw [e1, e2, e3]
    exact (sSplit_yes b0 b1 b2 b3 _ _ _ _ l0 l1 l2 l3 k w n0 n1 n2 n3 o0 o1 o2 o3 (Nat.le_refl _) hB hk).mono fun _ _ h => h
  · replace h : splB l0 l1 l2 l3 i = false := by simpa using h
    have hU : spU l0 l1 l2 l3 i = ([], [], [], []) := by unfold spU; rw [if_neg (by rw [h]; decide)]
    have hX : spX l0 l1 l2 l3 i = ([], [], [], []) := by unfold spX; rw [if_neg (by rw [h]; decide)]
    rw [hU, hX, h]
    exact (sSplit_no _ _ _ _ _ _ _ _ l0 l1 l2 l3 i w n0 n1 n2 n3 o0.row o1.row o2.row o3.row h).mono fun _ _ ⟨he, hb⟩ => ⟨none, none, none, none, 0, 0, 0, 0, none, none, none, none, 0, 0, 0, 0, he, Seen.none _ _ _, Seen.none _ _ _, hb⟩


theorem iSpl {b0 b1 b2 b3 : Nat} {l0 l1 l2 l3 : List (Int × Int)} {i : Int} {w : World} (n0 : l0.length ≤ 1048576) (n1 : l1.length ≤ 1048576) (n2 : l2.length ≤ 1048576) (n3 : l3.length ≤ 1048576) (o0 : Own w b0 l0.length l0 l0.length) (o1 : Own w b1 l1.length l1 l1.length) (o2 : Own w b2 l2.length l2 l2.length) (o3 : Own w b3 l3.length l3 l3.length) :
    Calls Try.prog 96 #[.agg #[.slice (some ⟨b0, 0, none⟩) l0.length l0.length, .slice (some ⟨b1, 0, none⟩) l1.length l1.length, .slice (some ⟨b2, 0, none⟩) l2.length l2.length, .slice (some ⟨b3, 0, none⟩) l3.length l3.length], .int .i64 i] w fun e w' => ∃ p0 p1 p2 p3 q0 q1 q2 q3 u0 u1 u2 u3 v0 v1 v2 v3 m1 m3, e = .returned (.tuple #[.agg #[.slice p0 (spU l0 l1 l2 l3 i).1.length q0, .slice p1 (spU l0 l1 l2 l3 i).2.1.length q1, .slice p2 (spU l0 l1 l2 l3 i).2.2.1.length q2, .slice p3 (spU l0 l1 l2 l3 i).2.2.2.length q3], .agg #[.slice u0 (spX l0 l1 l2 l3 i).1.length v0, .slice u1 (spX l0 l1 l2 l3 i).2.1.length v1, .slice u2 (spX l0 l1 l2 l3 i).2.2.1.length v2, .slice u3 (spX l0 l1 l2 l3 i).2.2.2.length v3], .bool (splB l0 l1 l2 l3 i)]) ∧ (w.heap.size ≤ m1 ∧ m1 ≤ m3 ∧ m3 ≤ w'.heap.size) ∧ G0 w' w.heap.size m1 m3 w'.heap.size p0 p1 p2 p3 (spU l0 l1 l2 l3 i).1.length (spU l0 l1 l2 l3 i).2.1.length (spU l0 l1 l2 l3 i).2.2.1.length (spU l0 l1 l2 l3 i).2.2.2.length (spU l0 l1 l2 l3 i).1 (spU l0 l1 l2 l3 i).2.1 (spU l0 l1 l2 l3 i).2.2.1 (spU l0 l1 l2 l3 i).2.2.2 ∧ Four w' m1 m3 u0 u1 u2 u3 (spX l0 l1 l2 l3 i).1.length (spX l0 l1 l2 l3 i).2.1.length (spX l0 l1 l2 l3 i).2.2.1.length (spX l0 l1 l2 l3 i).2.2.2.length (spX l0 l1 l2 l3 i).1 (spX l0 l1 l2 l3 i).2.1 (spX l0 l1 l2 l3 i).2.2.1 (spX l0 l1 l2 l3 i).2.2.2 ∧ Below w.heap.size w w' := by
  by_cases h : splB l0 l1 l2 l3 i = true
  · have h' := h
    unfold splB at h'
    simp only [Bool.and_eq_true, decide_eq_true_eq] at h'
    obtain ⟨hB, hi0, hi1⟩ := h'
    obtain ⟨k, rfl⟩ := Int.eq_ofNat_of_zero_le hi0
    have hk : k < l3.length := by omega
    have hU : spU l0 l1 l2 l3 (k : Int) = (l0 ++ [l3.getD k (0, 0)], l1, l2, l3.take k ++ l3.drop (k + 1)) := by unfold spU; rw [if_pos h, Int.toNat_natCast]
    have hX : spX l0 l1 l2 l3 (k : Int) = (l0, l1 ++ [l3.getD k (0, 0)], l2, l3) := by unfold spX; rw [if_pos h, Int.toNat_natCast]
    have e1 : (l0 ++ [l3.getD k (0, 0)]).length = l0.length + 1 := by simp
    have e2 : (l1 ++ [l3.getD k (0, 0)]).length = l1.length + 1 := by simp
    have e3 : (l3.take k ++ l3.drop (k + 1)).length = k + (l3.length - (k + 1)) := by rw [List.length_append, List.length_take, List.length_drop]; omega
    rw [hU, hX, h]
    dsimp only
    rw [e1, e2, e3]
    refine (iSplit_yes _ _ _ _ _ _ _ _ l0 l1 l2 l3 k w n0 n1 n2 n3 o0.row o1.row o2.row o3.row ⟨(fun e => by cases e), Nat.le_refl _⟩ ⟨(fun e => by cases e), Nat.le_refl _⟩ ⟨(fun e => by cases e), Nat.le_refl _⟩ ⟨(fun e => by cases e), Nat.le_refl _⟩ hB hk).mono ?_
    rintro e w' ⟨p0, p1, p2, p3, q0, q1, q2, q3, u0, u1, u2, u3, v0, v1, v2, v3, m1, m2, m3, rfl, ⟨g1, g2, g3, g4⟩, F, ⟨s0, t0, s1, t1, s2, t2, s3, t3, ⟨x0, y0, z0⟩, ⟨x1, y1, z1⟩, ⟨x2, y2, z2⟩, ⟨x3, y3, z3⟩, d01, d02, d03, d12, d13, d23⟩, U, R, hb⟩
    exact ⟨p0, p1, p2, p3, q0, q1, q2, q3, u0, u1, u2, u3, v0, v1, v2, v3, m1, m3, rfl, ⟨g1, by omega, g4⟩, ⟨F, R, g1, by omega, g4⟩, ⟨s0, t0, m2, m3, s2, t2, s3, t3, ⟨x0, by omega, z0⟩, ⟨by omega, Nat.le_refl _, U⟩, ⟨x2, by omega, z2⟩, ⟨x3, by omega, z3⟩, .inl (by omega), d02, d03, .inr (by omega), .inr (by omega), d23⟩, hb⟩
  · replace h : splB l0 l1 l2 l3 i = false := by simpa using h
    have hU : spU l0 l1 l2 l3 i = ([], [], [], []) := by unfold spU; rw [if_neg (by rw [h]; decide)]
    have hX : spX l0 l1 l2 l3 i = ([], [], [], []) := by unfold spX; rw [if_neg (by rw [h]; decide)]
    rw [hU, hX, h]
    exact (iSplit_no _ _ _ _ _ _ _ _ l0 l1 l2 l3 i w n0 n1 n2 n3 o0.row o1.row o2.row o3.row ⟨(fun e => by cases e), Nat.le_refl _⟩ ⟨(fun e => by cases e), Nat.le_refl _⟩ ⟨(fun e => by cases e), Nat.le_refl _⟩ ⟨(fun e => by cases e), Nat.le_refl _⟩ h).mono fun _ w' ⟨he, hb⟩ => ⟨none, none, none, none, 0, 0, 0, 0, none, none, none, none, 0, 0, 0, 0, w.heap.size, w.heap.size, he, ⟨Nat.le_refl _, Nat.le_refl _, hb.size⟩, ⟨Four.none _ _, ⟨rfl, .inl rfl⟩, Nat.le_refl _, Nat.le_refl _, hb.size⟩, Four.none _ _, hb⟩

theorem sp_le (l0 l1 l2 l3 : List (Int × Int)) (i : Int) : ((spU l0 l1 l2 l3 i).1.length ≤ 13 ∧ (spU l0 l1 l2 l3 i).2.1.length ≤ 13 ∧ (spU l0 l1 l2 l3 i).2.2.1.length ≤ 13 ∧ (spU l0 l1 l2 l3 i).2.2.2.length ≤ 13) ∧ ((spX l0 l1 l2 l3 i).1.length ≤ 13 ∧ (spX l0 l1 l2 l3 i).2.1.length ≤ 13 ∧ (spX l0 l1 l2 l3 i).2.2.1.length ≤ 13 ∧ (spX l0 l1 l2 l3 i).2.2.2.length ≤ 13) := by
  by_cases h : splB l0 l1 l2 l3 i = true
  · unfold spU spX
    rw [if_pos h, if_pos h]
    unfold splB roomB asnB at h
    simp only [Bool.and_eq_true, decide_eq_true_eq] at h
    dsimp only
    rw [List.length_append, List.length_append, List.length_append, List.length_take, List.length_drop]
    simp only [List.length_cons, List.length_nil]
    omega
  · unfold spU spX
    rw [if_neg h, if_neg h]
    simp

/-- Marks on the first answer: the rows in the gap stay as they are. -/
theorem markAsn_gap {lo m1 m3 hi n0 n1 n2 n3 : Nat} {a0 a1 a2 a3 : Option Addr} {c0 c1 c2 c3 : Nat} {l0 l1 l2 l3 : List (Int × Int)} {k : Int} {w : World} {x0 x1 x2 x3 : Option Addr} {e0 e1 e2 e3 : Nat} {k0 k1 k2 k3 : List (Int × Int)}
    (hk0 : 0 ≤ k) (hk : k ≤ 33554432) (b0 : n0 ≤ 2097152) (b1 : n1 ≤ 2097152) (b2 : n2 ≤ 2097152) (b3 : n3 ≤ 2097152) (hs : hi ≤ w.heap.size) (h : G0 w lo m1 m3 hi a0 a1 a2 a3 n0 n1 n2 n3 l0 l1 l2 l3) (X : Four w m1 m3 x0 x1 x2 x3 e0 e1 e2 e3 k0 k1 k2 k3) :
    Calls Try.prog 44 #[.agg #[.slice a0 n0 c0, .slice a1 n1 c1, .slice a2 n2 c2, .slice a3 n3 c3], .int .i64 k] w fun e w' => e = .returned (.int .i64 (k + 2 * (n0 : Int) + 2 * (n1 : Int) + 2 * (n2 : Int) + 2 * (n3 : Int))) ∧ G0 w' lo m1 m3 hi a0 a1 a2 a3 n0 n1 n2 n3 (marks k n0) (marks (k + 2 * (n0 : Int)) n1) (marks (k + 2 * (n0 : Int) + 2 * (n1 : Int)) n2) (marks (k + 2 * (n0 : Int) + 2 * (n1 : Int) + 2 * (n2 : Int)) n3) ∧ Four w' m1 m3 x0 x1 x2 x3 e0 e1 e2 e3 k0 k1 k2 k3 ∧ Out lo hi w w' := by
  obtain ⟨⟨s0, t0, s1, t1, s2, t2, s3, t3, ⟨p0, q0, r0⟩, ⟨p1, q1, r1⟩, ⟨p2, q2, r2⟩, ⟨p3, q3, r3⟩, d01, d02, d03, d12, d13, d23⟩, r0', g1, g2, g3⟩ := h
  have B0 := Box.new w (.slice a0 n0 c0) (.slice a1 n1 c1) (.slice a2 n2 c2) (.slice a3 n3 c3) 28
  have L : Below w.heap.size w (w.alloc (.cells #[.slice a0 n0 c0, .slice a1 n1 c1, .slice a2 n2 c2, .slice a3 n3 c3] 28)) := (Below.refl _ _).alloc (Nat.le_refl _) _
  have O0 : Out lo hi w (w.alloc (.cells #[.slice a0 n0 c0, .slice a1 n1 c1, .slice a2 n2 c2, .slice a3 n3 c3] 28)) := Out.ofBelow L
  replace r0' := r0'.below L (by omega); replace r1 := r1.below L (by omega); replace r2 := r2.below L (by omega); replace r3 := r3.below L (by omega); replace X := X.below L (by omega)
  clear L r0
  go_enter Try.func44, Try.ntmps44
  go_wp2_with fail
  refine (markPairS_any m3 hi _ _ _ _ _ _ (by omega) (by omega) (by omega) (by exact r0')).mono ?_
  rintro e w1 ⟨rfl, u0, ho⟩
  replace B0 := B0.out ho (by omega); replace O0 := O0.trans (ho.mono (by omega) (by omega)); replace X := X.out ho (by omega)
  replace r1 := r1.out ho (by omega); replace r2 := r2.out ho (by omega); replace r3 := r3.out ho (by omega)
  clear ho r0'
  have x := B0.c1
  go_wp2_with fail
  clear x
  refine (markPairS_any s1 t1 _ _ _ _ _ _ (by omega) (by omega) (by omega) (by exact r1)).mono ?_
  rintro e w2 ⟨rfl, u1, ho⟩
  replace B0 := B0.out ho (by omega); replace O0 := O0.trans (ho.mono (by omega) (by omega)); replace X := X.out ho (by omega)
  replace u0 := u0.out ho (by omega); replace r2 := r2.out ho (by omega); replace r3 := r3.out ho (by omega)
  clear ho r1
  have x := B0.c2
  go_wp2_with fail
  clear x
  refine (markPairS_any s2 t2 _ _ _ _ _ _ (by omega) (by omega) (by omega) (by exact r2)).mono ?_
  rintro e w3 ⟨rfl, u2, ho⟩
  replace B0 := B0.out ho (by omega); replace O0 := O0.trans (ho.mono (by omega) (by omega)); replace X := X.out ho (by omega)
  replace u0 := u0.out ho (by omega); replace u1 := u1.out ho (by omega); replace r3 := r3.out ho (by omega)
  clear ho r2
  have x := B0.c3
  go_wp2_with fail
  clear x
  refine (markPairS_any s3 t3 _ _ _ _ _ _ (by omega) (by omega) (by omega) (by exact r3)).mono ?_
  rintro e w4 ⟨rfl, u3, ho⟩
  replace O0 := O0.trans (ho.mono (by omega) (by omega)); replace X := X.out ho (by omega)
  replace u0 := u0.out ho (by omega); replace u1 := u1.out ho (by omega); replace u2 := u2.out ho (by omega)
  clear ho r3 B0
  go_wp2
  go_ret
  exact ⟨rfl, ⟨⟨s0, t0, s1, t1, s2, t2, s3, t3, ⟨p0, q0, ⟨rfl, .inl rfl⟩⟩, ⟨p1, q1, u1⟩, ⟨p2, q2, u2⟩, ⟨p3, q3, u3⟩, d01, d02, d03, d12, d13, d23⟩, u0, g1, g2, g3⟩, X, O0⟩

end Go.Proofs.Ytphchdjbhbmnbaa
