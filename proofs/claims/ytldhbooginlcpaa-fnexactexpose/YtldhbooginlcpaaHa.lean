/-
  The contracts of HeadAt.
-/
import Derived.Test.YtldhbooginlcpaaIx
import Derived.Test.YtldhbooginlcpaaHs
namespace Go.Proofs.Ytldhbooginlcpaa
open Go.RowKit
theorem keepH {q x b : Nat} {z : List Value} {v y0 y1 y2 y3 : Value} {w w1 w2 : World}
    (h : Below w.heap.size w w1 ∧ w1.rangeAt q 0 z ∧ w1.cell? ⟨q, x, none⟩ = some v ∧ w1.cell? ⟨b, 0, none⟩ = some y0 ∧ w1.cell? ⟨b, 1, none⟩ = some y1 ∧ w1.cell? ⟨b, 2, none⟩ = some y2 ∧ w1.cell? ⟨b, 3, none⟩ = some y3)
    (hb : Below w1.heap.size w1 w2) (h1 : q < w1.heap.size) (h2 : b < w1.heap.size) :
    Below w.heap.size w w2 ∧ w2.rangeAt q 0 z ∧ w2.cell? ⟨q, x, none⟩ = some v ∧ w2.cell? ⟨b, 0, none⟩ = some y0 ∧ w2.cell? ⟨b, 1, none⟩ = some y1 ∧ w2.cell? ⟨b, 2, none⟩ = some y2 ∧ w2.cell? ⟨b, 3, none⟩ = some y3 := by
  obtain ⟨a1, a2, a3, a4, a5, a6, a7⟩ := h
  refine ⟨a1.trans (hb.mono a1.size), fun j v hv => ?_, ?_, ?_, ?_, ?_, ?_⟩
  · rw [hb.cell (p := ⟨q, _, none⟩) h1]; exact a2 j v hv
  · rw [hb.cell (p := ⟨q, _, none⟩) h1]; exact a3
  · rw [hb.cell (p := ⟨b, _, none⟩) h2]; exact a4
  · rw [hb.cell (p := ⟨b, _, none⟩) h2]; exact a5
  · rw [hb.cell (p := ⟨b, _, none⟩) h2]; exact a6
  · rw [hb.cell (p := ⟨b, _, none⟩) h2]; exact a7
def headAtA (l0 l1 l2 l3 : List (Int × Int)) (x : Int) : Int := if (asnB l0 l1 l2 l3 && tok x) = true then idxV (headsV (clsV l0) l2 l3) ((clsV l0).getD x.toNat 0) else -1

set_option maxRecDepth 3000 in
set_option maxHeartbeats 1000000 in
theorem sHeadAt_any (a0 a1 a2 a3 : Option Addr) (c0 c1 c2 c3 : Nat) (l0 l1 l2 l3 : List (Int × Int)) (x : Int) (w : World)
    (n0 : l0.length ≤ 1048576) (n1 : l1.length ≤ 1048576) (n2 : l2.length ≤ 1048576) (n3 : l3.length ≤ 1048576)
    (r0 : PRow w a0 l0) (r1 : PRow w a1 l1) (r2 : PRow w a2 l2) (r3 : PRow w a3 l3) :
    Calls Try.prog 72 #[.agg #[.slice a0 l0.length c0, .slice a1 l1.length c1, .slice a2 l2.length c2, .slice a3 l3.length c3], .int .i64 x] w fun e w' => e = .returned (.int .i64 (headAtA l0 l1 l2 l3 x)) ∧ Below w.heap.size w w' := by
  have B0 := Box.new w (.slice a0 l0.length c0) (.slice a1 l1.length c1) (.slice a2 l2.length c2) (.slice a3 l3.length c3) 28
  have L0 : Below w.heap.size w (w.alloc (.cells #[.slice a0 l0.length c0, .slice a1 l1.length c1, .slice a2 l2.length c2, .slice a3 l3.length c3] 28)) := (Below.refl _ _).alloc (Nat.le_refl _) _
  go_enter Try.func72, Try.ntmps72
  go_wp2_with fail
  refine (sAsnOk_any _ _ _ _ _ _ _ _ _ _ _ _ _ n0 n1 n2 n3 (by exact r0.below L0 (Nat.le_refl _)) (by exact r1.below L0 (Nat.le_refl _)) (by exact r2.below L0 (Nat.le_refl _)) (by exact r3.below L0 (Nat.le_refl _))).mono ?_
  rintro e w1 ⟨rfl, hb⟩
  have B1 := B0.below hb B0.lt; have L1 := L0.trans (hb.mono L0.size)
  clear hb B0 L0
  cases ha : asnB l0 l1 l2 l3
  · have HE : Hid (headAtA l0 l1 l2 l3 x = -1) := by unfold Hid headAtA; rw [ha]; rfl
    go_wp2
    go_ret
    exact ⟨by rw [HE.out]; rfl, L1⟩
  go_wp2_with fail
  refine (sTermOk_any x _).mono ?_
  rintro e wz ⟨rfl, rfl⟩
  cases hx : tok x
  · have HE : Hid (headAtA l0 l1 l2 l3 x = -1) := by unfold Hid headAtA; rw [ha, hx]; rfl
    go_wp2
    go_ret
    exact ⟨by rw [HE.out]; rfl, L1⟩
  have HE : Hid (headAtA l0 l1 l2 l3 x = idxV (headsV (clsV l0) l2 l3) ((clsV l0).getD x.toNat 0)) := by unfold Hid headAtA; rw [ha, hx]; rfl
  have ht := asnB_tokA ha
  have HLE : Hid ((headsV (clsV l0) l2 l3).length ≤ 1048576) := by have := headsA_le l0 l1 l2 l3; unfold headsA at this; rw [if_pos ha] at this; exact this
  have HC := (Cls.all ht.1).1
  replace HC : Hid ((clsV l0).length = 16) := HC
  have hxx := tok_iff.1 hx
  obtain ⟨x, rfl⟩ := Int.eq_ofNat_of_zero_le hxx.1
  rw [Int.toNat_natCast] at HE
  obtain ⟨hx0, hx1⟩ := hxx
  clear hx ha
  have x0 := B1.c0; have x1 := B1.c1; have x2 := B1.c2; have x3 := B1.c3
  go_wp2_with fail
  refine (l3classes_any _ _ _ _ _ _ _ _ _ _ _ _ _ n0 ht.1 (by exact r0.below L1 (Nat.le_refl _))).mono ?_
  rintro e w2 ⟨b, cp, rfl, hbb, O, hb⟩
  have L2 := L1.trans (hb.mono L1.size)
  have B2 := B1.below hb B1.lt
  clear hb B1 L1 x0 x1 x2 x3
  generalize clsV l0 = c at *
  have x0 := B2.c0; have x1 := B2.c1; have x2 := B2.c2; have x3 := B2.c3
  go_wp2_with fail
  refine (l3heads_any _ _ _ _ _ _ _ _ _ _ _ _ b cp c HC.out _ n2 n3 ht.2.2.1 ht.2.2.2 (by exact r2.below L2 (Nat.le_refl _)) (by exact r3.below L2 (Nat.le_refl _)) (by exact O)).mono ?_
  rintro e w3 ⟨ag, cg, rfl, G, hb⟩
  have O3 := O.below hb O.1
  have L3 := L2.trans (hb.mono L2.size)
  clear hb B2 L2 x0 x1 x2 x3 O
  have eu := O3.2.2 x (by omega)
  generalize c.getD x 0 = u at *
  generalize hh : headsV c l2 l3 = hs at *
  clear hh
  obtain ⟨_, hr⟩ := G
  have hn := HLE.out
  generalize hn2 : hs.length = n at *
  replace hn2 : Hid (hs.length = n) := hn2
  go_wp2_with fail
  go_loopw [7] (fun i wr => ∃ k : Nat, k ≤ n ∧ i = .int .i64 k ∧ Hid (∀ j, j < k → ¬ hs.getD j 0 = u) ∧ Below w3.heap.size w3 wr) (fun i _ => n - (intOf i).toNat)
  case atStart => exact ⟨0, Nat.zero_le _, rfl, fun j hj => absurd hj (Nat.not_lt_zero _), Below.refl _ _⟩
  case round =>
    obtain ⟨k, hk, rfl, HM, hbw⟩ := hrel
    by_cases hlt : k < n
    · rcases hr with h0 | ⟨bh, rfl, _, _, OH⟩
      · omega
      have ev : wr.cell? ⟨bh, k, none⟩ = some (.int .i64 (hs.getD k 0)) := by rw [hbw.cell (p := ⟨bh, k, none⟩) OH.1]; exact OH.2.2 k hlt
      have eu2 : wr.cell? ⟨b, x, none⟩ = some (.int .i64 u) := by rw [hbw.cell (p := ⟨b, x, none⟩) O3.1]; exact eu
      have hkn : (k : Int) < (n : Int) := by omega
      have hk0 : (0 : Int) ≤ (k : Int) := by omega
      have HHIT : Hid (hs.getD k 0 = u → idxV hs u = (k : Int)) := fun e => (idx_hit (by have := hn2.out; omega) HM.out e).1
      have HM2 : Hid (¬ hs.getD k 0 = u → ∀ j, j < k + 1 → ¬ hs.getD j 0 = u) := by
        intro hf j hj
        by_cases e : j = k
        · subst e; exact hf
        · exact HM.out j (by omega)
      generalize hs.getD k 0 = z at *
      go_wp2_with fail
      have hS0 : Below w3.heap.size w3 wr.drew ∧ wr.drew.cell? ⟨bh, k, none⟩ = some (.int .i64 z) ∧ wr.drew.cell? ⟨b, x, none⟩ = some (.int .i64 u) := ⟨hbw.drew, ev, eu2⟩
      go_region_held3 (fun w' => Below w3.heap.size w3 w' ∧ w'.cell? ⟨bh, k, none⟩ = some (.int .i64 z) ∧ w'.cell? ⟨b, x, none⟩ = some (.int .i64 u))
        (first | exact hS0 | assumption | (refine ⟨?_, ?_, ?_⟩ <;> assumption))
        (fail)
      replace hbw := hS0.1
      clear hS0 ev eu2
      generalize wr.drew = wd at *
      by_cases hf : z = u
      · have HV := HHIT.out hf
        replace HV : Hid (idxV hs u = (k : Int)) := HV
        have L4 := L3.trans (hbw.mono L3.size)
        go_wp2
        go_ret
        exact ⟨by rw [HE.out, HV.out]; rfl, L4⟩
      · have HM3 : Hid (∀ j, j < k + 1 → ¬ hs.getD j 0 = u) := HM2.out hf
        go_wp2
        go_roundw
        case rel => exact ⟨k + 1, by omega, by go_num, HM3, hbw⟩
        case measure => simp [intOf]; omega
    · have HV : Hid (idxV hs u = -1) := (idx_none (fun j hj => HM.out j (by have := hn2.out; omega))).1
      have hge : ¬ ((k : Int) < (n : Int)) := by omega
      have L4 := L3.trans (hbw.mono L3.size)
      go_wp2
      go_ret
      exact ⟨by rw [HE.out, HV.out]; rfl, L4⟩

set_option maxRecDepth 3000 in
set_option maxHeartbeats 1000000 in
theorem iHeadAt_any (a0 a1 a2 a3 : Option Addr) (c0 c1 c2 c3 : Nat) (l0 l1 l2 l3 : List (Int × Int)) (x : Int) (w : World)
    (n0 : l0.length ≤ 1048576) (n1 : l1.length ≤ 1048576) (n2 : l2.length ≤ 1048576) (n3 : l3.length ≤ 1048576)
    (r0 : PRow w a0 l0) (r1 : PRow w a1 l1) (r2 : PRow w a2 l2) (r3 : PRow w a3 l3) :
    Calls Try.prog 73 #[.agg #[.slice a0 l0.length c0, .slice a1 l1.length c1, .slice a2 l2.length c2, .slice a3 l3.length c3], .int .i64 x] w fun e w' => e = .returned (.int .i64 (headAtA l0 l1 l2 l3 x)) ∧ Below w.heap.size w w' := by
  have B0 := Box.new w (.slice a0 l0.length c0) (.slice a1 l1.length c1) (.slice a2 l2.length c2) (.slice a3 l3.length c3) 28
  have L0 : Below w.heap.size w (w.alloc (.cells #[.slice a0 l0.length c0, .slice a1 l1.length c1, .slice a2 l2.length c2, .slice a3 l3.length c3] 28)) := (Below.refl _ _).alloc (Nat.le_refl _) _
  go_enter Try.func73, Try.ntmps73
  go_wp2_with fail
  refine (iAsnOk_any _ _ _ _ _ _ _ _ _ _ _ _ _ n0 n1 n2 n3 (by exact r0.below L0 (Nat.le_refl _)) (by exact r1.below L0 (Nat.le_refl _)) (by exact r2.below L0 (Nat.le_refl _)) (by exact r3.below L0 (Nat.le_refl _))).mono ?_
  rintro e w1 ⟨rfl, hb⟩
  have B1 := B0.below hb B0.lt; have L1 := L0.trans (hb.mono L0.size)
  clear hb B0 L0
  cases ha : asnB l0 l1 l2 l3
  · have HE : Hid (headAtA l0 l1 l2 l3 x = -1) := by unfold Hid headAtA; rw [ha]; rfl
    go_wp2
    go_ret
    exact ⟨by rw [HE.out]; rfl, L1⟩
  go_wp2_with fail
  refine (iTermOk_any x _).mono ?_
  rintro e wz ⟨rfl, rfl⟩
  cases hx : tok x
  · have HE : Hid (headAtA l0 l1 l2 l3 x = -1) := by unfold Hid headAtA; rw [ha, hx]; rfl
    go_wp2
    go_ret
    exact ⟨by rw [HE.out]; rfl, L1⟩
  have HE : Hid (headAtA l0 l1 l2 l3 x = idxV (headsV (clsV l0) l2 l3) ((clsV l0).getD x.toNat 0)) := by unfold Hid headAtA; rw [ha, hx]; rfl
  have ht := asnB_tokA ha
  have HLE : Hid ((headsV (clsV l0) l2 l3).length ≤ 1048576) := by have := headsA_le l0 l1 l2 l3; unfold headsA at this; rw [if_pos ha] at this; exact this
  have HC := (Cls.all ht.1).1
  replace HC : Hid ((clsV l0).length = 16) := HC
  have hxx := tok_iff.1 hx
  obtain ⟨x, rfl⟩ := Int.eq_ofNat_of_zero_le hxx.1
  rw [Int.toNat_natCast] at HE
  obtain ⟨hx0, hx1⟩ := hxx
  clear hx ha
  have x0 := B1.c0; have x1 := B1.c1; have x2 := B1.c2; have x3 := B1.c3
  go_wp2_with fail
  refine (classesOf_any _ _ _ _ _ _ _ _ _ _ _ _ _ n0 ht.1 (by exact r0.below L1 (Nat.le_refl _))).mono ?_
  rintro e w2 ⟨rfl, hb⟩
  have L2 := L1.trans (hb.mono L1.size)
  have B2 := B1.below hb B1.lt
  clear hb B1 L1 x0 x1 x2 x3
  unfold aV
  dsimp only
  iterate 4 go_step
  have Z := OwnI.zeros w2 95
  refine ws67 rfl (.tmp 5) (.tmp 15) rfl _ rfl (clsV l0) _ rfl Z HC.out rfl ?_
  have C := Z.setAll HC.out
  have L3 := Below.setCells w2.heap.size L2.size (ic (clsV l0)) 0 _ (L2.alloc L2.size (.cells z16 95))
  have L23 := Below.setCells w2.heap.size (Nat.le_refl _) (ic (clsV l0)) 0 _ ((Below.refl w2.heap.size w2).alloc (Nat.le_refl _) (.cells z16 95))
  have B3 := B2.below L23 B2.lt
  have sb := B2.lt
  clear Z L2 L23 B2
  generalize (w2.alloc (.cells z16 95)).setCells w2.heap.size 0 (ic (clsV l0)) = w3 at *
  have eu := C.2.2 x (by omega)
  generalize clsV l0 = c at *
  generalize c.getD x 0 = u at *
  have hq := C.1
  generalize w2.heap.size = q at *
  go_wp2_with fail
  have hS0 : Below w.heap.size w w3.drew ∧ w3.drew.rangeAt q 0 (ic c) ∧ w3.drew.cell? ⟨q, x, none⟩ = some (.int .i64 u) ∧ w3.drew.cell? ⟨w.heap.size, 0, none⟩ = some (.slice a0 l0.length c0) ∧ w3.drew.cell? ⟨w.heap.size, 1, none⟩ = some (.slice a1 l1.length c1) ∧ w3.drew.cell? ⟨w.heap.size, 2, none⟩ = some (.slice a2 l2.length c2) ∧ w3.drew.cell? ⟨w.heap.size, 3, none⟩ = some (.slice a3 l3.length c3) := ⟨L3.drew, C.drew.range HC.out, eu, B3.c0, B3.c1, B3.c2, B3.c3⟩
  have u67 := Try.underlying95
  have i67 : (Try.prog.info? 95).map (·.size) = some (ic c).length := by rw [ic_length, HC.out]; kernel_rfl
  clear C eu L3 B3
  go_region_held3 (fun w' => Below w.heap.size w w' ∧ w'.rangeAt q 0 (ic c) ∧ w'.cell? ⟨q, x, none⟩ = some (.int .i64 u) ∧ w'.cell? ⟨w.heap.size, 0, none⟩ = some (.slice a0 l0.length c0) ∧ w'.cell? ⟨w.heap.size, 1, none⟩ = some (.slice a1 l1.length c1) ∧ w'.cell? ⟨w.heap.size, 2, none⟩ = some (.slice a2 l2.length c2) ∧ w'.cell? ⟨w.heap.size, 3, none⟩ = some (.slice a3 l3.length c3))
    (first | exact hS0 | assumption | (refine ⟨?_, ?_, ?_, ?_, ?_, ?_, ?_⟩ <;> assumption))
    (first
      | (go_at_call 141; refine (heads_any _ _ _ _ _ _ _ _ _ _ _ _ c HC.out _ n2 n3 ht.2.2.1 ht.2.2.2 (r2.below hS0.1 (Nat.le_refl _)) (r3.below hS0.1 (Nat.le_refl _))).mono ?_; rintro e u0 ⟨ag, cg, rfl, G, h0⟩; have k0 := keepH hS0 h0 (by simpa using hq) (by simp; omega))
      | (go_at_call 151; refine (index_any _ _ _ _ _ _ u _ HLE.out G).mono ?_; rintro e u1 ⟨rfl, rfl⟩))
  all_goals
    go_wp2
    go_ret
    exact ⟨by rw [HE.out]; rfl, k0.1⟩
end Go.Proofs.Ytldhbooginlcpaa
