/-
  The contracts of Members.
-/
import Derived.Test.YtiolgbckichneaaMb
import Derived.Test.YtiolgbckichneaaAl
namespace Go.Proofs.Ytiolgbckichneaa
open Go.RowKit
def membersA (l0 l1 l2 l3 : List (Int × Int)) (x : Int) : List Int := if (asnB l0 l1 l2 l3 && tok x) = true then membersV (clsV l0) ((clsV l0).getD x.toNat 0) else []
theorem membersA_le (l0 l1 l2 l3 : List (Int × Int)) (x : Int) : (membersA l0 l1 l2 l3 x).length ≤ 1048576 := by
  unfold membersA
  split
  · have := membersK_le (clsV l0) ((clsV l0).getD x.toNat 0) 16
    unfold membersV
    omega
  · exact Nat.zero_le _

set_option maxRecDepth 3000 in
set_option maxHeartbeats 1000000 in
theorem sMembers_any (a0 a1 a2 a3 : Option Addr) (c0 c1 c2 c3 : Nat) (l0 l1 l2 l3 : List (Int × Int)) (x : Int) (w : World)
    (n0 : l0.length ≤ 1048576) (n1 : l1.length ≤ 1048576) (n2 : l2.length ≤ 1048576) (n3 : l3.length ≤ 1048576)
    (r0 : PRow w a0 l0) (r1 : PRow w a1 l1) (r2 : PRow w a2 l2) (r3 : PRow w a3 l3) :
    Calls Try.prog 44 #[.agg #[.slice a0 l0.length c0, .slice a1 l1.length c1, .slice a2 l2.length c2, .slice a3 l3.length c3], .int .i64 x] w fun e w' => ∃ a cq, e = .returned (.slice a (membersA l0 l1 l2 l3 x).length cq) ∧ IntIn w' w.heap.size w'.heap.size a (membersA l0 l1 l2 l3 x).length (membersA l0 l1 l2 l3 x) ∧ Below w.heap.size w w' := by
  have B0 := Box.new w (.slice a0 l0.length c0) (.slice a1 l1.length c1) (.slice a2 l2.length c2) (.slice a3 l3.length c3) 28
  have L0 : Below w.heap.size w (w.alloc (.cells #[.slice a0 l0.length c0, .slice a1 l1.length c1, .slice a2 l2.length c2, .slice a3 l3.length c3] 28)) := (Below.refl _ _).alloc (Nat.le_refl _) _
  go_enter Try.func44, Try.ntmps44
  go_wp2_with fail
  refine (sAsnOk_any _ _ _ _ _ _ _ _ _ _ _ _ _ n0 n1 n2 n3 (by exact r0.below L0 (Nat.le_refl _)) (by exact r1.below L0 (Nat.le_refl _)) (by exact r2.below L0 (Nat.le_refl _)) (by exact r3.below L0 (Nat.le_refl _))).mono ?_
  rintro e w1 ⟨rfl, hb⟩
  have B1 := B0.below hb B0.lt; have L1 := L0.trans (hb.mono L0.size)
  clear hb B0 L0
  cases ha : asnB l0 l1 l2 l3
  · have HE : Hid (membersA l0 l1 l2 l3 x = []) := by unfold Hid membersA; rw [ha]; rfl
    go_wp2
    go_ret
    rw [HE.out]
    exact ⟨none, 0, rfl, ⟨rfl, .inl rfl⟩, L1⟩
  go_wp2_with fail
  refine (sTermOk_any x _).mono ?_
  rintro e wz ⟨rfl, rfl⟩
  cases hx : tok x
  · have HE : Hid (membersA l0 l1 l2 l3 x = []) := by unfold Hid membersA; rw [ha, hx]; rfl
    go_wp2
    go_ret
    rw [HE.out]
    exact ⟨none, 0, rfl, ⟨rfl, .inl rfl⟩, L1⟩
  have HE : Hid (membersA l0 l1 l2 l3 x = membersV (clsV l0) ((clsV l0).getD x.toNat 0)) := by unfold Hid membersA; rw [ha, hx]; rfl
  have ht := asnB_toks ha
  have HC := (Cls.all ht.1).1
  replace HC : Hid ((clsV l0).length = 16) := HC
  have hxx := tok_iff.1 hx
  obtain ⟨x, rfl⟩ := Int.eq_ofNat_of_zero_le hxx.1
  rw [Int.toNat_natCast] at HE
  obtain ⟨hx0, hx1⟩ := hxx
  clear hx ha
  have x0 := B1.c0; have x1 := B1.c1; have x2 := B1.c2; have x3 := B1.c3
  go_wp2_with fail
  refine (l3classes_any _ _ _ _ _ _ _ _ _ _ _ _ _ n0 ht.1 (by exact r0.below L1 (Nat.le_refl _))).mono ?_
  rintro e w2 ⟨b, cp, rfl, hbb, O, hb⟩
  have L2 := L1.trans (hb.mono L1.size)
  clear hb B1 L1 x0 x1 x2 x3
  generalize clsV l0 = c at *
  have HU : Hid (w2.cell? ⟨b, x, none⟩ = some (.int .i64 (c.getD x 0))) := O.2.2 x (by omega)
  generalize c.getD x 0 = u at *
  obtain ⟨i0, hi, hz0, hz1, hz2⟩ := Try.i3
  go_wp2_with fail
  go_loopw [5, 7] (fun v i wr => ∃ k : Nat, k ≤ 16 ∧ i = .int .i64 k ∧ wr.ownsRow w2.heap.size 3 1 v (membersK c u k).length (ic (membersK c u k)) ∧ Below w2.heap.size w2 wr) (fun _ i _ => 16 - (intOf i).toNat)
  case atStart => exact ⟨0, by omega, rfl, World.ownsRow_nil _ _ _ _, Below.refl _ _⟩
  case round =>
    obtain ⟨k, hk, rfl, hown, hbw⟩ := hrel
    have eu : wr.cell? ⟨b, x, none⟩ = some (.int .i64 u) := by rw [hbw.cell (p := ⟨b, x, none⟩) O.1]; exact HU.out
    by_cases hlt : k < 16
    · have ev : wr.cell? ⟨b, k, none⟩ = some (.int .i64 (c.getD k 0)) := by rw [hbw.cell (p := ⟨b, k, none⟩) O.1]; exact O.2.2 k hlt
      have hkn : (k : Int) < 16 := by omega
      have hk0 : (0 : Int) ≤ (k : Int) := by omega
      have hle := membersK_le c u k
      have HF := membersK_succ c u k
      generalize c.getD k 0 = z at *
      replace HF : Hid (membersK c u (k + 1) = membersK c u k ++ if z = u then [(k : Int)] else []) := HF
      go_wp2_with fail
      have hS0 : Below w2.heap.size w2 wr.drew ∧ wr.drew.ownsRow w2.heap.size 3 1 u5 (membersK c u k).length (ic (membersK c u k)) ∧ wr.drew.cell? ⟨b, x, none⟩ = some (.int .i64 u) ∧ wr.drew.cell? ⟨b, k, none⟩ = some (.int .i64 z) := ⟨hbw.drew, hown.drew, eu, ev⟩
      go_region_held3 (fun w' => Below w2.heap.size w2 w' ∧ w'.ownsRow w2.heap.size 3 1 u5 (membersK c u k).length (ic (membersK c u k)) ∧ w'.cell? ⟨b, x, none⟩ = some (.int .i64 u) ∧ w'.cell? ⟨b, k, none⟩ = some (.int .i64 z))
        (first | exact hS0 | assumption | (refine ⟨?_, ?_, ?_, ?_⟩ <;> assumption))
        (fail)
      replace hown := hS0.2.1
      replace hbw := hS0.1
      clear hS0 eu ev
      generalize wr.drew = wd at *
      by_cases hf : z = u
      · have HF2 : Hid (membersK c u (k + 1) = membersK c u k ++ [(k : Int)]) := by unfold Hid; rw [HF.out, if_pos hf]
        clear HF
        generalize membersK c u k = ls at *
        go_wp2_with (at_builtin; refine wpList_append_own _ rfl _ _ 39 rfl w2.heap.size 3 i0 (.int .i64 0) 1 8 Try.underlying39 hi hz0 hz1 hz2 rfl (by decide) _ _ _ rfl (hown.alloc _) ⟨wd.heap.size, 0, none⟩ 1 1 [.int .i64 k] rfl rfl ?c1 ?c2 ?c3 ?c4 ?c5 ?_)
        case c1 =>
          intro j u hj
          match j, hj with
          | 0, hj => simp at hj; subst hj; simp [Addr.add]
        case c2 => intro u hu; simp at hu; subst hu; rfl
        case c3 => unfold maxLen; omega
        case c4 => omega
        case c5 => have := hbw.size; simp; omega
        · intro v' w4 hown' hg hiff
          have hb2 := (hbw.alloc hbw.size _).grown hg (Nat.le_trans hbw.size (by simp)) (by intro q hq; exact (hown.lt q hq).1)
          clear hiff hg hown hbw
          go_wp2
          first
            | (go_roundw
               case rel => exact ⟨k + 1, by omega, by go_num, by rw [HF2.out]; simpa [ic] using hown', hb2⟩
               case measure => simp [intOf]; omega)
            | ((repeat apply Exists.intro); exact ⟨⟨k + 1, by omega, by go_num, by rw [HF2.out]; simpa [ic] using hown', hb2⟩, rfl⟩)
      · have HF2 : Hid (membersK c u (k + 1) = membersK c u k) := by unfold Hid; rw [HF.out, if_neg hf, List.append_nil]
        clear HF
        go_wp2
        go_roundw
        case rel => exact ⟨k + 1, by omega, by go_num, by rw [HF2.out]; exact hown, hbw⟩
        case measure => simp [intOf]; omega
    · have hown2 := hown
      rw [show k = 16 by omega] at hown2
      have hge : ¬ ((k : Int) < 16) := by omega
      clear hown
      obtain ⟨a, cq, rfl, hr⟩ := IntIn.ofOwns hown2
      have L3 := L2.trans (hbw.mono L2.size)
      go_wp2
      go_ret
      rw [HE.out]
      exact ⟨a, ⟨cq, rfl⟩, hr.mono L2.size (Nat.le_refl _), L3⟩

set_option maxRecDepth 3000 in
set_option maxHeartbeats 1000000 in
theorem iMembers_any (a0 a1 a2 a3 : Option Addr) (c0 c1 c2 c3 : Nat) (l0 l1 l2 l3 : List (Int × Int)) (x : Int) (w : World)
    (n0 : l0.length ≤ 1048576) (n1 : l1.length ≤ 1048576) (n2 : l2.length ≤ 1048576) (n3 : l3.length ≤ 1048576)
    (r0 : PRow w a0 l0) (r1 : PRow w a1 l1) (r2 : PRow w a2 l2) (r3 : PRow w a3 l3) :
    Calls Try.prog 45 #[.agg #[.slice a0 l0.length c0, .slice a1 l1.length c1, .slice a2 l2.length c2, .slice a3 l3.length c3], .int .i64 x] w fun e w' => ∃ a cq, e = .returned (.slice a (membersA l0 l1 l2 l3 x).length cq) ∧ IntIn w' w.heap.size w'.heap.size a (membersA l0 l1 l2 l3 x).length (membersA l0 l1 l2 l3 x) ∧ Below w.heap.size w w' := by
  have B0 := Box.new w (.slice a0 l0.length c0) (.slice a1 l1.length c1) (.slice a2 l2.length c2) (.slice a3 l3.length c3) 28
  have L0 : Below w.heap.size w (w.alloc (.cells #[.slice a0 l0.length c0, .slice a1 l1.length c1, .slice a2 l2.length c2, .slice a3 l3.length c3] 28)) := (Below.refl _ _).alloc (Nat.le_refl _) _
  go_enter Try.func45, Try.ntmps45
  go_wp2_with fail
  refine (iAsnOk_any _ _ _ _ _ _ _ _ _ _ _ _ _ n0 n1 n2 n3 (by exact r0.below L0 (Nat.le_refl _)) (by exact r1.below L0 (Nat.le_refl _)) (by exact r2.below L0 (Nat.le_refl _)) (by exact r3.below L0 (Nat.le_refl _))).mono ?_
  rintro e w1 ⟨rfl, hb⟩
  have B1 := B0.below hb B0.lt; have L1 := L0.trans (hb.mono L0.size)
  clear hb B0 L0
  cases ha : asnB l0 l1 l2 l3
  · have HE : Hid (membersA l0 l1 l2 l3 x = []) := by unfold Hid membersA; rw [ha]; rfl
    go_wp2
    go_ret
    rw [HE.out]
    exact ⟨none, 0, rfl, ⟨rfl, .inl rfl⟩, L1⟩
  go_wp2_with fail
  refine (iTermOk_any x _).mono ?_
  rintro e wz ⟨rfl, rfl⟩
  cases hx : tok x
  · have HE : Hid (membersA l0 l1 l2 l3 x = []) := by unfold Hid membersA; rw [ha, hx]; rfl
    go_wp2
    go_ret
    rw [HE.out]
    exact ⟨none, 0, rfl, ⟨rfl, .inl rfl⟩, L1⟩
  have HE : Hid (membersA l0 l1 l2 l3 x = membersV (clsV l0) ((clsV l0).getD x.toNat 0)) := by unfold Hid membersA; rw [ha, hx]; rfl
  have ht := asnB_toks ha
  have HC := (Cls.all ht.1).1
  replace HC : Hid ((clsV l0).length = 16) := HC
  have hxx := tok_iff.1 hx
  obtain ⟨x, rfl⟩ := Int.eq_ofNat_of_zero_le hxx.1
  rw [Int.toNat_natCast] at HE
  obtain ⟨hx0, hx1⟩ := hxx
  clear hx ha
  have x0 := B1.c0; have x1 := B1.c1; have x2 := B1.c2; have x3 := B1.c3
  go_wp2_with fail
  refine (classesOf_any _ _ _ _ _ _ _ _ _ _ _ _ _ n0 ht.1 (by exact r0.below L1 (Nat.le_refl _))).mono ?_
  rintro e w2 ⟨rfl, hb⟩
  have L2 := L1.trans (hb.mono L1.size)
  clear hb B1 L1 x0 x1 x2 x3
  unfold aV
  dsimp only
  iterate 4 go_step
  have Z := OwnI.zeros w2 67
  refine ws67 rfl (.tmp 5) (.tmp 15) rfl _ rfl (clsV l0) _ rfl Z HC.out rfl ?_
  have C := Z.setAll HC.out
  have L3 := Below.setCells w2.heap.size L2.size (ic (clsV l0)) 0 _ (L2.alloc L2.size (.cells z16 67))
  clear Z L2
  generalize (w2.alloc (.cells z16 67)).setCells w2.heap.size 0 (ic (clsV l0)) = w3 at *
  have eu := C.2.2 x (by omega)
  generalize (clsV l0).getD x 0 = u at *
  have hq := C.1
  go_wp2_with fail
  have hS0 : Below w.heap.size w w3.drew ∧ w3.drew.rangeAt w2.heap.size 0 (ic (clsV l0)) ∧ w3.drew.cell? ⟨w2.heap.size, x, none⟩ = some (.int .i64 u) := ⟨L3.drew, C.drew.range HC.out, eu⟩
  have u67 := Try.underlying67
  have i67 : (Try.prog.info? 67).map (·.size) = some (ic (clsV l0)).length := by rw [ic_length, HC.out]; kernel_rfl
  clear C eu L3
  go_region_held3 (fun w' => Below w.heap.size w w' ∧ w'.rangeAt w2.heap.size 0 (ic (clsV l0)) ∧ w'.cell? ⟨w2.heap.size, x, none⟩ = some (.int .i64 u))
    (first | exact hS0 | assumption | (refine ⟨?_, ?_, ?_⟩ <;> assumption))
    (first
      | (go_at_call 88; refine (members_any (clsV l0) u HC.out _).mono ?_; rintro e u0 ⟨ag, cg, rfl, G, h0⟩; have k0 : Below w.heap.size w u0 ∧ u0.rangeAt w2.heap.size 0 (ic (clsV l0)) ∧ u0.cell? ⟨w2.heap.size, x, none⟩ = some (.int .i64 u) := ⟨hS0.1.trans (h0.mono hS0.1.size), fun j v hv => (by rw [h0.cell (p := ⟨w2.heap.size, _, none⟩) (by simpa using hq)]; exact hS0.2.1 j v hv), (by rw [h0.cell (p := ⟨w2.heap.size, _, none⟩) (by simpa using hq)]; exact hS0.2.2)⟩))
  all_goals
    have s0 := hS0.1.size
    go_wp2
    go_ret
    rw [HE.out]
    exact ⟨ag, cg, rfl, G.mono s0 (Nat.le_refl _), k0.1⟩
end Go.Proofs.Ytiolgbckichneaa
