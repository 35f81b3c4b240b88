/-
  Plain lemmas and contracts of functions for the other texts of this seat: Al, Hs, Hc, Ct, Am, Op.
-/
import Derived.Test.YtphchdjbhbmnbaaGac
import Derived.Test.YtphchdjbhbmnbaaGad
import Derived.Deep.QuietTactic
import Derived.BigQuiet
namespace Go.Proofs.Ytphchdjbhbmnbaa
open Go.RowKit
def alikeV (l0 l1 l2 l3 : List (Int × Int)) (x y : Int) : Bool := asnB l0 l1 l2 l3 && (tok x && (tok y && decide ((clsV l0).getD x.toNat 0 = (clsV l0).getD y.toNat 0)))
theorem tok_iff {x : Int} : tok x = true ↔ 0 ≤ x ∧ x < 16 := by simp [tok]
theorem asnB_tokA {l0 l1 l2 l3 : List (Int × Int)} (h : asnB l0 l1 l2 l3 = true) : toks l0 = true ∧ toks l1 = true ∧ toks l2 = true ∧ toks l3 = true := by
  unfold asnB at h
  simp only [Bool.and_eq_true] at h
  exact ⟨h.1.1.1.1.1.1, h.1.1.1.1.1.2, h.1.1.1.1.2, h.1.1.1.2⟩

set_option maxRecDepth 3000 in
set_option maxHeartbeats 1000000 in
theorem sAlike_any (a0 a1 a2 a3 : Option Addr) (c0 c1 c2 c3 : Nat) (l0 l1 l2 l3 : List (Int × Int)) (x y : Int) (w : World)
    (n0 : l0.length ≤ 1048576) (n1 : l1.length ≤ 1048576) (n2 : l2.length ≤ 1048576) (n3 : l3.length ≤ 1048576)
    (r0 : PRow w a0 l0) (r1 : PRow w a1 l1) (r2 : PRow w a2 l2) (r3 : PRow w a3 l3) :
    Calls Try.prog 64 #[.agg #[.slice a0 l0.length c0, .slice a1 l1.length c1, .slice a2 l2.length c2, .slice a3 l3.length c3], .int .i64 x, .int .i64 y] w fun e w' => e = .returned (.bool (alikeV l0 l1 l2 l3 x y)) ∧ Below w.heap.size w w' := by
  have B0 := Box.new w (.slice a0 l0.length c0) (.slice a1 l1.length c1) (.slice a2 l2.length c2) (.slice a3 l3.length c3) 28
  have L0 : Below w.heap.size w (w.alloc (.cells #[.slice a0 l0.length c0, .slice a1 l1.length c1, .slice a2 l2.length c2, .slice a3 l3.length c3] 28)) := (Below.refl _ _).alloc (Nat.le_refl _) _
  go_enter Try.func64, Try.ntmps64
  go_wp2_with fail
  refine (sAsnOk_any _ _ _ _ _ _ _ _ _ _ _ _ _ n0 n1 n2 n3 (by exact r0.below L0 (Nat.le_refl _)) (by exact r1.below L0 (Nat.le_refl _)) (by exact r2.below L0 (Nat.le_refl _)) (by exact r3.below L0 (Nat.le_refl _))).mono ?_
  rintro e w1 ⟨rfl, hb⟩
  have B1 := B0.below hb B0.lt; have L1 := L0.trans (hb.mono L0.size)
  clear hb B0 L0
  cases ha : asnB l0 l1 l2 l3
  · have HE : Hid (alikeV l0 l1 l2 l3 x y = false) := by unfold Hid alikeV; rw [ha]; rfl
    go_wp2
    go_ret
    exact ⟨by rw [HE.out]; rfl, L1⟩
  go_wp2_with fail
  refine (sTermOk_any x _).mono ?_
  rintro e wz ⟨rfl, rfl⟩
  cases hx : tok x
  · have HE : Hid (alikeV l0 l1 l2 l3 x y = false) := by unfold Hid alikeV; rw [ha, hx]; rfl
    go_wp2
    go_ret
    exact ⟨by rw [HE.out]; rfl, L1⟩
  go_wp2_with fail
  refine (sTermOk_any y _).mono ?_
  rintro e wz ⟨rfl, rfl⟩
  cases hy : tok y
  · have HE : Hid (alikeV l0 l1 l2 l3 x y = false) := by unfold Hid alikeV; rw [ha, hx, hy]; rfl
    go_wp2
    go_ret
    exact ⟨by rw [HE.out]; rfl, L1⟩
  have HE : Hid (alikeV l0 l1 l2 l3 x y = decide ((clsV l0).getD x.toNat 0 = (clsV l0).getD y.toNat 0)) := by unfold Hid alikeV; rw [ha, hx, hy]; simp
  have ht := (asnB_tokA ha).1
  have hxx := tok_iff.1 hx
  have hyy := tok_iff.1 hy
  obtain ⟨x, rfl⟩ := Int.eq_ofNat_of_zero_le hxx.1
  obtain ⟨y, rfl⟩ := Int.eq_ofNat_of_zero_le hyy.1
  rw [Int.toNat_natCast, Int.toNat_natCast] at HE
  obtain ⟨hx0, hx1⟩ := hxx
  obtain ⟨hy0, hy1⟩ := hyy
  clear hx hy ha
  have x0 := B1.c0; have x1 := B1.c1; have x2 := B1.c2; have x3 := B1.c3
  go_wp2_with fail
  refine (l3classes_any _ _ _ _ _ _ _ _ _ _ _ _ _ n0 ht (by exact r0.below L1 (Nat.le_refl _))).mono ?_
  rintro e w2 ⟨b, cp, rfl, hbb, O, hb⟩
  have L2 := L1.trans (hb.mono L1.size)
  clear hb B1 L1 x0 x1 x2 x3
  have eu := O.2.2 x (by omega)
  have ev := O.2.2 y (by omega)
  generalize (clsV l0).getD x 0 = u at *
  generalize (clsV l0).getD y 0 = v at *
  go_wp2_with fail
  have hS0 : Below w.heap.size w w2.drew ∧ w2.drew.cell? ⟨b, x, none⟩ = some (.int .i64 u) ∧ w2.drew.cell? ⟨b, y, none⟩ = some (.int .i64 v) := ⟨L2.drew, eu, ev⟩
  go_region_held3 (fun w' => Below w.heap.size w w' ∧ w'.cell? ⟨b, x, none⟩ = some (.int .i64 u) ∧ w'.cell? ⟨b, y, none⟩ = some (.int .i64 v))
    (first | exact hS0 | assumption | (refine ⟨?_, ?_, ?_⟩ <;> assumption))
    (fail)
  go_wp2
  go_ret
  exact ⟨by rw [HE.out]; rfl, hS0.1⟩

set_option maxRecDepth 3000 in
set_option maxHeartbeats 1000000 in
theorem iAlike_any (a0 a1 a2 a3 : Option Addr) (c0 c1 c2 c3 : Nat) (l0 l1 l2 l3 : List (Int × Int)) (x y : Int) (w : World)
    (n0 : l0.length ≤ 1048576) (n1 : l1.length ≤ 1048576) (n2 : l2.length ≤ 1048576) (n3 : l3.length ≤ 1048576)
    (r0 : PRow w a0 l0) (r1 : PRow w a1 l1) (r2 : PRow w a2 l2) (r3 : PRow w a3 l3) :
    Calls Try.prog 65 #[.agg #[.slice a0 l0.length c0, .slice a1 l1.length c1, .slice a2 l2.length c2, .slice a3 l3.length c3], .int .i64 x, .int .i64 y] w fun e w' => e = .returned (.bool (alikeV l0 l1 l2 l3 x y)) ∧ Below w.heap.size w w' := by
  have B0 := Box.new w (.slice a0 l0.length c0) (.slice a1 l1.length c1) (.slice a2 l2.length c2) (.slice a3 l3.length c3) 28
  have L0 : Below w.heap.size w (w.alloc (.cells #[.slice a0 l0.length c0, .slice a1 l1.length c1, .slice a2 l2.length c2, .slice a3 l3.length c3] 28)) := (Below.refl _ _).alloc (Nat.le_refl _) _
  go_enter Try.func65, Try.ntmps65
  go_wp2_with fail
  refine (iAsnOk_any _ _ _ _ _ _ _ _ _ _ _ _ _ n0 n1 n2 n3 (by exact r0.below L0 (Nat.le_refl _)) (by exact r1.below L0 (Nat.le_refl _)) (by exact r2.below L0 (Nat.le_refl _)) (by exact r3.below L0 (Nat.le_refl _))).mono ?_
  rintro e w1 ⟨rfl, hb⟩
  have B1 := B0.below hb B0.lt; have L1 := L0.trans (hb.mono L0.size)
  clear hb B0 L0
  cases ha : asnB l0 l1 l2 l3
  · have HE : Hid (alikeV l0 l1 l2 l3 x y = false) := by unfold Hid alikeV; rw [ha]; rfl
    go_wp2
    go_ret
    exact ⟨by rw [HE.out]; rfl, L1⟩
  go_wp2_with fail
  refine (iTermOk_any x _).mono ?_
  rintro e wz ⟨rfl, rfl⟩
  cases hx : tok x
  · have HE : Hid (alikeV l0 l1 l2 l3 x y = false) := by unfold Hid alikeV; rw [ha, hx]; rfl
    go_wp2
    go_ret
    exact ⟨by rw [HE.out]; rfl, L1⟩
  go_wp2_with fail
  refine (iTermOk_any y _).mono ?_
  rintro e wz ⟨rfl, rfl⟩
  cases hy : tok y
  · have HE : Hid (alikeV l0 l1 l2 l3 x y = false) := by unfold Hid alikeV; rw [ha, hx, hy]; rfl
    go_wp2
    go_ret
    exact ⟨by rw [HE.out]; rfl, L1⟩
  have HE : Hid (alikeV l0 l1 l2 l3 x y = decide ((clsV l0).getD x.toNat 0 = (clsV l0).getD y.toNat 0)) := by unfold Hid alikeV; rw [ha, hx, hy]; simp
  have ht := (asnB_tokA ha).1
  have hxx := tok_iff.1 hx
  have hyy := tok_iff.1 hy
  obtain ⟨x, rfl⟩ := Int.eq_ofNat_of_zero_le hxx.1
  obtain ⟨y, rfl⟩ := Int.eq_ofNat_of_zero_le hyy.1
  rw [Int.toNat_natCast, Int.toNat_natCast] at HE
  obtain ⟨hx0, hx1⟩ := hxx
  obtain ⟨hy0, hy1⟩ := hyy
  clear hx hy ha
  have x0 := B1.c0; have x1 := B1.c1; have x2 := B1.c2; have x3 := B1.c3
  go_wp2_with fail
  refine (classesOf_any _ _ _ _ _ _ _ _ _ _ _ _ _ n0 ht (by exact r0.below L1 (Nat.le_refl _))).mono ?_
  rintro e w2 ⟨rfl, hb⟩
  have L2 := L1.trans (hb.mono L1.size)
  clear hb B1 L1 x0 x1 x2 x3
  unfold aV
  have HC := (Cls.all ht).1
  dsimp only
  iterate 4 go_step
  have Z := OwnI.zeros w2 102
  refine ws67 rfl (.tmp 7) (.tmp 22) rfl _ rfl (clsV l0) _ rfl Z HC rfl ?_
  have C := Z.setAll HC
  have L3 := Below.setCells w2.heap.size L2.size (ic (clsV l0)) 0 _ (L2.alloc L2.size (.cells z16 102))
  clear Z L2
  generalize (w2.alloc (.cells z16 102)).setCells w2.heap.size 0 (ic (clsV l0)) = w3 at *
  have eu := C.2.2 x (by omega)
  have ev := C.2.2 y (by omega)
  generalize (clsV l0).getD x 0 = u at *
  generalize (clsV l0).getD y 0 = v at *
  clear HC C
  generalize w2.heap.size = b at *
  go_wp2_with fail
  have hS0 : Below w.heap.size w w3.drew ∧ w3.drew.cell? ⟨b, x, none⟩ = some (.int .i64 u) ∧ w3.drew.cell? ⟨b, y, none⟩ = some (.int .i64 v) := ⟨L3.drew, eu, ev⟩
  go_region_held3 (fun w' => Below w.heap.size w w' ∧ w'.cell? ⟨b, x, none⟩ = some (.int .i64 u) ∧ w'.cell? ⟨b, y, none⟩ = some (.int .i64 v))
    (first | exact hS0 | assumption | (refine ⟨?_, ?_, ?_⟩ <;> assumption))
    (fail)
  go_wp2
  go_ret
  exact ⟨by rw [HE.out]; rfl, hS0.1⟩
end Go.Proofs.Ytphchdjbhbmnbaa
namespace Go.Proofs.Ytphchdjbhbmnbaa
open Go.RowKit
def headsA (l0 l1 l2 l3 : List (Int × Int)) : List Int := if asnB l0 l1 l2 l3 = true then headsV (clsV l0) l2 l3 else []
theorem headsA_le (l0 l1 l2 l3 : List (Int × Int)) : (headsA l0 l1 l2 l3).length ≤ 1048576 := by
  unfold headsA
  split
  · rename_i h
    unfold asnB at h
    simp only [Bool.and_eq_true, decide_eq_true_eq] at h
    unfold headsV
    rw [List.length_append, headsOf_len, headsOf_len]
    omega
  · exact Nat.zero_le _
theorem keepB {q : Nat} {y0 y1 y2 y3 : Value} {w w1 w2 : World}
    (h : Below w.heap.size w w1 ∧ w1.cell? ⟨q, 0, none⟩ = some y0 ∧ w1.cell? ⟨q, 1, none⟩ = some y1 ∧ w1.cell? ⟨q, 2, none⟩ = some y2 ∧ w1.cell? ⟨q, 3, none⟩ = some y3)
    (hb : Below w1.heap.size w1 w2) (h2 : q < w1.heap.size) :
    Below w.heap.size w w2 ∧ w2.cell? ⟨q, 0, none⟩ = some y0 ∧ w2.cell? ⟨q, 1, none⟩ = some y1 ∧ w2.cell? ⟨q, 2, none⟩ = some y2 ∧ w2.cell? ⟨q, 3, none⟩ = some y3 := by
  obtain ⟨a1, a2, a3, a4, a5⟩ := h
  refine ⟨a1.trans (hb.mono a1.size), ?_, ?_, ?_, ?_⟩
  · rw [hb.cell (p := ⟨q, _, none⟩) h2]; exact a2
  · rw [hb.cell (p := ⟨q, _, none⟩) h2]; exact a3
  · rw [hb.cell (p := ⟨q, _, none⟩) h2]; exact a4
  · rw [hb.cell (p := ⟨q, _, none⟩) h2]; exact a5

set_option maxRecDepth 3000 in
set_option maxHeartbeats 1000000 in
theorem sHeads_any (a0 a1 a2 a3 : Option Addr) (c0 c1 c2 c3 : Nat) (l0 l1 l2 l3 : List (Int × Int)) (w : World)
    (n0 : l0.length ≤ 1048576) (n1 : l1.length ≤ 1048576) (n2 : l2.length ≤ 1048576) (n3 : l3.length ≤ 1048576)
    (r0 : PRow w a0 l0) (r1 : PRow w a1 l1) (r2 : PRow w a2 l2) (r3 : PRow w a3 l3) :
    Calls Try.prog 70 #[.agg #[.slice a0 l0.length c0, .slice a1 l1.length c1, .slice a2 l2.length c2, .slice a3 l3.length c3]] w fun e w' => ∃ a cq, e = .returned (.slice a (headsA l0 l1 l2 l3).length cq) ∧ IntIn w' w.heap.size w'.heap.size a (headsA l0 l1 l2 l3).length (headsA l0 l1 l2 l3) ∧ Below w.heap.size w w' := by
  have B0 := Box.new w (.slice a0 l0.length c0) (.slice a1 l1.length c1) (.slice a2 l2.length c2) (.slice a3 l3.length c3) 28
  have L0 : Below w.heap.size w (w.alloc (.cells #[.slice a0 l0.length c0, .slice a1 l1.length c1, .slice a2 l2.length c2, .slice a3 l3.length c3] 28)) := (Below.refl _ _).alloc (Nat.le_refl _) _
  go_enter Try.func70, Try.ntmps70
  go_wp2_with fail
  refine (sAsnOk_any _ _ _ _ _ _ _ _ _ _ _ _ _ n0 n1 n2 n3 (by exact r0.below L0 (Nat.le_refl _)) (by exact r1.below L0 (Nat.le_refl _)) (by exact r2.below L0 (Nat.le_refl _)) (by exact r3.below L0 (Nat.le_refl _))).mono ?_
  rintro e w1 ⟨rfl, hb⟩
  have B1 := B0.below hb B0.lt; have L1 := L0.trans (hb.mono L0.size)
  clear hb B0 L0
  cases ha : asnB l0 l1 l2 l3
  · have HE : Hid (headsA l0 l1 l2 l3 = []) := by unfold Hid headsA; rw [ha]; rfl
    go_wp2
    go_ret
    rw [HE.out]
    exact ⟨none, 0, rfl, ⟨rfl, .inl rfl⟩, L1⟩
  have HE : Hid (headsA l0 l1 l2 l3 = headsV (clsV l0) l2 l3) := by unfold Hid headsA; rw [ha]; rfl
  have ht := asnB_tokA ha
  have HC := (Cls.all ht.1).1
  replace HC : Hid ((clsV l0).length = 16) := HC
  clear ha
  have x0 := B1.c0; have x1 := B1.c1; have x2 := B1.c2; have x3 := B1.c3
  go_wp2_with fail
  have hS0 : Below w.heap.size w w1.drew ∧ w1.drew.cell? ⟨w.heap.size, 0, none⟩ = some (.slice a0 l0.length c0) ∧ w1.drew.cell? ⟨w.heap.size, 1, none⟩ = some (.slice a1 l1.length c1) ∧ w1.drew.cell? ⟨w.heap.size, 2, none⟩ = some (.slice a2 l2.length c2) ∧ w1.drew.cell? ⟨w.heap.size, 3, none⟩ = some (.slice a3 l3.length c3) := ⟨L1.drew, x0, x1, x2, x3⟩
  have hq := B1.lt
  clear B1 x0 x1 x2 x3
  go_region_held3 (fun w' => Below w.heap.size w w' ∧ w'.cell? ⟨w.heap.size, 0, none⟩ = some (.slice a0 l0.length c0) ∧ w'.cell? ⟨w.heap.size, 1, none⟩ = some (.slice a1 l1.length c1) ∧ w'.cell? ⟨w.heap.size, 2, none⟩ = some (.slice a2 l2.length c2) ∧ w'.cell? ⟨w.heap.size, 3, none⟩ = some (.slice a3 l3.length c3))
    (first | exact hS0 | assumption | (refine ⟨?_, ?_, ?_, ?_, ?_⟩ <;> assumption))
    (first
      | (go_at_call 151; refine (l3classes_any _ _ _ _ _ _ _ _ _ _ _ _ _ n0 ht.1 (r0.below hS0.1 (Nat.le_refl _))).mono ?_; rintro e u0 ⟨b, cp, rfl, hbb, O, h0⟩; have k0 := keepB hS0 h0 (by simpa using hq))
      | (go_at_call 163; refine (l3heads_any _ _ _ _ _ _ _ _ _ _ _ _ b cp (clsV l0) HC.out _ n2 n3 ht.2.2.1 ht.2.2.2 (r2.below k0.1 (Nat.le_refl _)) (r3.below k0.1 (Nat.le_refl _)) O).mono ?_; rintro e u1 ⟨ag, cg, rfl, G, h1⟩; have k1 := keepB k0 h1 (by have := h0.size; simp at this; omega)))
  all_goals
    have s0 := k0.1.size
    go_wp2
    go_ret
    rw [HE.out]
    exact ⟨ag, cg, rfl, G.mono s0 (Nat.le_refl _), k1.1⟩

set_option maxRecDepth 3000 in
set_option maxHeartbeats 1000000 in
theorem iHeads_any (a0 a1 a2 a3 : Option Addr) (c0 c1 c2 c3 : Nat) (l0 l1 l2 l3 : List (Int × Int)) (w : World)
    (n0 : l0.length ≤ 1048576) (n1 : l1.length ≤ 1048576) (n2 : l2.length ≤ 1048576) (n3 : l3.length ≤ 1048576)
    (r0 : PRow w a0 l0) (r1 : PRow w a1 l1) (r2 : PRow w a2 l2) (r3 : PRow w a3 l3) :
    Calls Try.prog 71 #[.agg #[.slice a0 l0.length c0, .slice a1 l1.length c1, .slice a2 l2.length c2, .slice a3 l3.length c3]] w fun e w' => ∃ a cq, e = .returned (.slice a (headsA l0 l1 l2 l3).length cq) ∧ IntIn w' w.heap.size w'.heap.size a (headsA l0 l1 l2 l3).length (headsA l0 l1 l2 l3) ∧ Below w.heap.size w w' := by
  have B0 := Box.new w (.slice a0 l0.length c0) (.slice a1 l1.length c1) (.slice a2 l2.length c2) (.slice a3 l3.length c3) 28
  have L0 : Below w.heap.size w (w.alloc (.cells #[.slice a0 l0.length c0, .slice a1 l1.length c1, .slice a2 l2.length c2, .slice a3 l3.length c3] 28)) := (Below.refl _ _).alloc (Nat.le_refl _) _
  go_enter Try.func71, Try.ntmps71
  go_wp2_with fail
  refine (iAsnOk_any _ _ _ _ _ _ _ _ _ _ _ _ _ n0 n1 n2 n3 (by exact r0.below L0 (Nat.le_refl _)) (by exact r1.below L0 (Nat.le_refl _)) (by exact r2.below L0 (Nat.le_refl _)) (by exact r3.below L0 (Nat.le_refl _))).mono ?_
  rintro e w1 ⟨rfl, hb⟩
  have B1 := B0.below hb B0.lt; have L1 := L0.trans (hb.mono L0.size)
  clear hb B0 L0
  cases ha : asnB l0 l1 l2 l3
  · have HE : Hid (headsA l0 l1 l2 l3 = []) := by unfold Hid headsA; rw [ha]; rfl
    go_wp2
    go_ret
    rw [HE.out]
    exact ⟨none, 0, rfl, ⟨rfl, .inl rfl⟩, L1⟩
  have HE : Hid (headsA l0 l1 l2 l3 = headsV (clsV l0) l2 l3) := by unfold Hid headsA; rw [ha]; rfl
  have ht := asnB_tokA ha
  have HC := (Cls.all ht.1).1
  replace HC : Hid ((clsV l0).length = 16) := HC
  clear ha
  have x0 := B1.c0; have x1 := B1.c1; have x2 := B1.c2; have x3 := B1.c3
  go_wp2_with fail
  have hS0 : Below w.heap.size w w1.drew ∧ w1.drew.cell? ⟨w.heap.size, 0, none⟩ = some (.slice a0 l0.length c0) ∧ w1.drew.cell? ⟨w.heap.size, 1, none⟩ = some (.slice a1 l1.length c1) ∧ w1.drew.cell? ⟨w.heap.size, 2, none⟩ = some (.slice a2 l2.length c2) ∧ w1.drew.cell? ⟨w.heap.size, 3, none⟩ = some (.slice a3 l3.length c3) := ⟨L1.drew, x0, x1, x2, x3⟩
  have hq := B1.lt
  clear B1 x0 x1 x2 x3
  go_region_held3 (fun w' => Below w.heap.size w w' ∧ w'.cell? ⟨w.heap.size, 0, none⟩ = some (.slice a0 l0.length c0) ∧ w'.cell? ⟨w.heap.size, 1, none⟩ = some (.slice a1 l1.length c1) ∧ w'.cell? ⟨w.heap.size, 2, none⟩ = some (.slice a2 l2.length c2) ∧ w'.cell? ⟨w.heap.size, 3, none⟩ = some (.slice a3 l3.length c3))
    (first | exact hS0 | assumption | (refine ⟨?_, ?_, ?_, ?_, ?_⟩ <;> assumption))
    (first
      | (go_at_call 152; refine (classesOf_any _ _ _ _ _ _ _ _ _ _ _ _ _ n0 ht.1 (r0.below hS0.1 (Nat.le_refl _))).mono ?_; rintro e u0 ⟨rfl, h0⟩; have k0 := keepB hS0 h0 (by simpa using hq))
      | (go_at_call 159; refine (heads_any _ _ _ _ _ _ _ _ _ _ _ _ (clsV l0) HC.out _ n2 n3 ht.2.2.1 ht.2.2.2 (r2.below k0.1 (Nat.le_refl _)) (r3.below k0.1 (Nat.le_refl _))).mono ?_; rintro e u1 ⟨ag, cg, rfl, G, h1⟩; have k1 := keepB k0 h1 (by have := h0.size; simp at this; omega)))
  all_goals
    have s0 := k0.1.size
    go_wp2
    go_ret
    rw [HE.out]
    exact ⟨ag, cg, rfl, G.mono s0 (Nat.le_refl _), k1.1⟩
end Go.Proofs.Ytphchdjbhbmnbaa
namespace Go.Proofs.Ytphchdjbhbmnbaa
open Go.RowKit
theorem IntIn.ofOwnsC {w : World} {base n : Nat} {v : Value} {l : List Int} (h : w.ownsRow base 3 1 v n (ic l)) : ∃ a cap, v = .slice a n cap ∧ n ≤ cap ∧ IntIn w base w.heap.size a n l := by
  have h0 := h
  rcases h.2 with ⟨rfl, rfl⟩ | ⟨g, cap, cur, rfl, _, _, hcap, _⟩
  · exact ⟨none, 0, rfl, Nat.le_refl _, by have := h.1; rw [ic_length] at this; omega, .inl rfl⟩
  · obtain ⟨hl, hb, ho⟩ := OwnI.ofOwns h0
    exact ⟨_, _, rfl, hcap, hl, .inr ⟨g, rfl, hb, ho.1, ho⟩⟩

set_option maxRecDepth 3000 in
set_option maxHeartbeats 2000000 in
theorem l3heads_cap (a0 a1 a2 a3 : Option Addr) (c0 c1 c2 c3 : Nat) (l0 l1 l2 l3 : List (Int × Int)) (b cp : Nat) (c : List Int) (hl : c.length = 16) (w : World) (n2 : l2.length ≤ 1048576) (n3 : l3.length ≤ 1048576) (t2 : toks l2 = true) (t3 : toks l3 = true) (r2 : PRow w a2 l2) (r3 : PRow w a3 l3) (CO : OwnI w b 16 c 16) :
    Calls Try.prog 163 #[.agg #[.slice a0 l0.length c0, .slice a1 l1.length c1, .slice a2 l2.length c2, .slice a3 l3.length c3], .slice (some ⟨b, 0, none⟩) 16 cp] w fun e w' => ∃ a cq, e = .returned (.slice a (headsV c l2 l3).length cq) ∧ (headsV c l2 l3).length ≤ cq ∧ IntIn w' w.heap.size w'.heap.size a (headsV c l2 l3).length (headsV c l2 l3) ∧ Below w.heap.size w w' := by
  have CW := CO.alloc (.cells #[.slice a0 l0.length c0, .slice a1 l1.length c1, .slice a2 l2.length c2, .slice a3 l3.length c3] 28)
  have BW := Box.new w (.slice a0 l0.length c0) (.slice a1 l1.length c1) (.slice a2 l2.length c2) (.slice a3 l3.length c3) 28
  have LW : Below w.heap.size w (w.alloc (.cells #[.slice a0 l0.length c0, .slice a1 l1.length c1, .slice a2 l2.length c2, .slice a3 l3.length c3] 28)) := (Below.refl _ _).alloc (Nat.le_refl _) _
  have y2 := BW.c2; have y3 := BW.c3
  have sW : w.heap.size ≤ (w.alloc (.cells #[.slice a0 l0.length c0, .slice a1 l1.length c1, .slice a2 l2.length c2, .slice a3 l3.length c3] 28)).heap.size := by simp
  obtain ⟨i0, hi, hz0, hz1, hz2⟩ := Try.i3
  have HV : Hid (headsV c l2 l3 = headsOf c l2 ++ headsOf c l3) := rfl
  have HHL : Hid (c.length = 16) := hl
  clear hl
  go_enter Try.func163, Try.ntmps163
  go_wp2_with fail
  generalize (w.alloc (.cells #[.slice a0 l0.length c0, .slice a1 l1.length c1, .slice a2 l2.length c2, .slice a3 l3.length c3] 28)) = W at *
  clear y2 y3
  go_loopw [5, 6] (fun v i wr => ∃ k : Nat, k ≤ l2.length ∧ i = .int .i64 k ∧ wr.ownsRow W.heap.size 3 1 v (headsOf c (l2.take k)).length (ic (headsOf c (l2.take k))) ∧ Below W.heap.size W wr) (fun _ i _ => l2.length - (intOf i).toNat)
  case atStart => exact ⟨0, Nat.zero_le _, rfl, World.ownsRow_nil _ _ _ _, Below.refl _ _⟩
  case round =>
    skip
    obtain ⟨k, hk, rfl, hown, hbw⟩ := hrel
    by_cases hlt : k < l2.length
    · rcases r2 with hnil | ⟨b2, off, rfl, hb, hc⟩
      · rw [hnil] at hlt; simp at hlt
      have hq0 : wr.cell? ⟨b2, off + k * 2, none⟩ = some (.int .i64 (l2.getD k (0, 0)).1) := by rw [hbw.cell (p := ⟨b2, _, none⟩) (Nat.lt_of_lt_of_le hb sW)]; rw [LW.cell (p := ⟨b2, _, none⟩) hb]; exact (hc k hlt).1
      have hq1 : wr.cell? ⟨b2, off + k * 2 + 1, none⟩ = some (.int .i64 (l2.getD k (0, 0)).2) := by rw [hbw.cell (p := ⟨b2, _, none⟩) (Nat.lt_of_lt_of_le hb sW)]; rw [LW.cell (p := ⟨b2, _, none⟩) hb]; exact (hc k hlt).2
      have hkn : (k : Int) < (l2.length : Int) := by omega
      have hk0' : (0 : Int) ≤ (k : Int) := by omega
      have htk := (toks_get t2 hlt).1
      have HF : Hid ((headsOf c (l2.take (k + 1))) = (headsOf c (l2.take k)) ++ [c.getD (l2.getD k (0, 0)).1.toNat 0]) := by unfold Hid; rw [headsOf_step c hlt]
      have hle : (headsOf c (l2.take k)).length ≤ 2097152 := by have := headsOf_len c (l2.take k); simp only [List.length_take] at *; omega
      generalize (headsOf c (l2.take k)) = ls at *
      generalize l2.getD k (0, 0) = p at *
      clear hc
      obtain ⟨q1, q2⟩ := htk
      obtain ⟨x, y, rfl, hx⟩ : ∃ (x : Nat) (y : Int), p = ((x : Int), y) ∧ x < 16 := ⟨p.1.toNat, p.2, by rw [Int.toNat_of_nonneg q1], by omega⟩
      clear q1 q2
      dsimp only at hq0 hq1
      rw [Int.toNat_natCast] at HF
      have hxi : (x : Int) < 16 := by omega
      have hx0 : (0 : Int) ≤ (x : Int) := by omega
      have eb := (BW.below hbw BW.lt).c2
      have eu := (CW.below hbw CW.1).2.2 x hx
      have hbw0 := hbw
      have hown0 := hown
      skip
      generalize c.getD x 0 = u at *
      go_wp2_with (at_builtin; refine wpList_append_own _ rfl _ _ 44 rfl W.heap.size 3 i0 (.int .i64 0) 1 8 Try.underlying44 hi hz0 hz1 hz2 rfl (by decide) _ _ _ rfl (hown.alloc _) ⟨wr.heap.size, 0, none⟩ 1 1 [.int .i64 u] rfl rfl ?c1 ?c2 ?c3 ?c4 ?c5 ?_)
      case c1 =>
        intro j u hj
        match j, hj with
        | 0, hj => simp at hj; subst hj; simp [Addr.add]
      case c2 => intro u hu; simp at hu; subst hu; rfl
      case c3 => unfold maxLen; omega
      case c4 => omega
      case c5 => have := hbw0.size; simp; omega
      · intro v' w4 hown' hg hiff
        have hb2 := (hbw.alloc hbw.size _).grown hg (Nat.le_trans hbw.size (by simp)) (by intro q hq; exact (hown.lt q hq).1)
        clear hiff hg hown hbw hown0 hbw0 eu eb
        go_wp2
        first
          | (go_roundw
             case rel => exact ⟨k + 1, by omega, by go_num, by rw [HF.out]; simpa [ic] using hown', hb2⟩
             case measure => simp [intOf]; omega)
          | ((repeat apply Exists.intro); exact ⟨⟨k + 1, by omega, by go_num, by rw [HF.out]; simpa [ic] using hown', hb2⟩, rfl⟩)
    · have hown2 := hown
      rw [show k = l2.length by omega, List.take_length] at hown2
      clear hown
      have hge : ¬ ((k : Int) < (l2.length : Int)) := by omega
      have eb := (BW.below hbw BW.lt).c2
      have eb3 := (BW.below hbw BW.lt).c3
      rw [show headsOf c l2 = headsOf c l2 ++ headsOf c (l3.take 0) by simp [headsOf]] at hown2
      go_wp2_with fail
      have hbwA := hbw
      clear hbw eb eb3
      go_loopw [5, 7] (fun v i wr => ∃ k : Nat, k ≤ l3.length ∧ i = .int .i64 k ∧ wr.ownsRow W.heap.size 3 1 v (headsOf c l2 ++ headsOf c (l3.take k)).length (ic (headsOf c l2 ++ headsOf c (l3.take k))) ∧ Below W.heap.size W wr) (fun _ i _ => l3.length - (intOf i).toNat)
      case atStart => exact ⟨0, Nat.zero_le _, rfl, hown2, hbwA⟩
      case round =>
        clear hown2 hbwA
        obtain ⟨k, hk, rfl, hown, hbw⟩ := hrel
        by_cases hlt : k < l3.length
        · rcases r3 with hnil | ⟨b3, off, rfl, hb, hc⟩
          · rw [hnil] at hlt; simp at hlt
          have hq0 : wr.cell? ⟨b3, off + k * 2, none⟩ = some (.int .i64 (l3.getD k (0, 0)).1) := by rw [hbw.cell (p := ⟨b3, _, none⟩) (Nat.lt_of_lt_of_le hb sW)]; rw [LW.cell (p := ⟨b3, _, none⟩) hb]; exact (hc k hlt).1
          have hq1 : wr.cell? ⟨b3, off + k * 2 + 1, none⟩ = some (.int .i64 (l3.getD k (0, 0)).2) := by rw [hbw.cell (p := ⟨b3, _, none⟩) (Nat.lt_of_lt_of_le hb sW)]; rw [LW.cell (p := ⟨b3, _, none⟩) hb]; exact (hc k hlt).2
          have hkn : (k : Int) < (l3.length : Int) := by omega
          have hk0' : (0 : Int) ≤ (k : Int) := by omega
          have htk := (toks_get t3 hlt).1
          have HF : Hid ((headsOf c l2 ++ headsOf c (l3.take (k + 1))) = (headsOf c l2 ++ headsOf c (l3.take k)) ++ [c.getD (l3.getD k (0, 0)).1.toNat 0]) := by unfold Hid; rw [headsOf_step c hlt]; simp
          have hle : (headsOf c l2 ++ headsOf c (l3.take k)).length ≤ 2097152 := by have := headsOf_len c (l3.take k); have := headsOf_len c l2; simp only [List.length_append, List.length_take] at *; omega
          generalize (headsOf c l2 ++ headsOf c (l3.take k)) = ls at *
          generalize l3.getD k (0, 0) = p at *
          clear hc
          obtain ⟨q1, q2⟩ := htk
          obtain ⟨x, y, rfl, hx⟩ : ∃ (x : Nat) (y : Int), p = ((x : Int), y) ∧ x < 16 := ⟨p.1.toNat, p.2, by rw [Int.toNat_of_nonneg q1], by omega⟩
          clear q1 q2
          dsimp only at hq0 hq1
          rw [Int.toNat_natCast] at HF
          have hxi : (x : Int) < 16 := by omega
          have hx0 : (0 : Int) ≤ (x : Int) := by omega
          have eb := (BW.below hbw BW.lt).c3
          have eu := (CW.below hbw CW.1).2.2 x hx
          have hbw0 := hbw
          have hown0 := hown
          skip
          generalize c.getD x 0 = u at *
          go_wp2_with (at_builtin; refine wpList_append_own _ rfl _ _ 44 rfl W.heap.size 3 i0 (.int .i64 0) 1 8 Try.underlying44 hi hz0 hz1 hz2 rfl (by decide) _ _ _ rfl (hown.alloc _) ⟨wr.heap.size, 0, none⟩ 1 1 [.int .i64 u] rfl rfl ?c1 ?c2 ?c3 ?c4 ?c5 ?_)
          case c1 =>
            intro j u hj
            match j, hj with
            | 0, hj => simp at hj; subst hj; simp [Addr.add]
          case c2 => intro u hu; simp at hu; subst hu; rfl
          case c3 => unfold maxLen; omega
          case c4 => omega
          case c5 => have := hbw0.size; simp; omega
          · intro v' w4 hown' hg hiff
            have hb2 := (hbw.alloc hbw.size _).grown hg (Nat.le_trans hbw.size (by simp)) (by intro q hq; exact (hown.lt q hq).1)
            clear hiff hg hown hbw hown0 hbw0 eu eb
            go_wp2
            first
              | (go_roundw
                 case rel => exact ⟨k + 1, by omega, by go_num, by rw [HF.out]; simpa [ic] using hown', hb2⟩
                 case measure => simp [intOf]; omega)
              | ((repeat apply Exists.intro); exact ⟨⟨k + 1, by omega, by go_num, by rw [HF.out]; simpa [ic] using hown', hb2⟩, rfl⟩)
        · have hown2 := hown
          rw [show k = l3.length by omega, List.take_length] at hown2
          clear hown
          have hge : ¬ ((k : Int) < (l3.length : Int)) := by omega
          have eb := (BW.below hbw BW.lt).c3
          have eb3 := (BW.below hbw BW.lt).c3
          obtain ⟨a, cq, rfl, hcap, hr⟩ := IntIn.ofOwnsC hown2
          have L3 := LW.trans (hbw.mono sW)
          have HCAP : Hid ((headsV c l2 l3).length ≤ cq) := by unfold Hid; rw [HV.out]; exact hcap
          clear hcap
          go_wp2
          go_ret
          exact ⟨a, cq, by rw [HV.out, List.length_append]; rfl, HCAP.out, by rw [HV.out]; exact hr.mono sW (Nat.le_refl _), L3⟩

end Go.Proofs.Ytphchdjbhbmnbaa
namespace Go.Proofs.Ytphchdjbhbmnbaa
open Go.RowKit
def sameV (c : List Int) (l : List (Int × Int)) : Bool := l.any fun p => decide (c.getD p.1.toNat 0 = c.getD p.2.toNat 0)
def dupV (h : List Int) : Bool := (List.range h.length).any fun i => decide (h.getD i 0 = 0) || hasV (h.take i) (h.getD i 0)
def contraV (c : List Int) (l1 l2 l3 : List (Int × Int)) : Bool := sameV c l1 || dupV (headsV c l2 l3)
theorem same_hit {c : List Int} {l : List (Int × Int)} {k : Nat} (hk : k < l.length) (h : c.getD (l.getD k (0, 0)).1.toNat 0 = c.getD (l.getD k (0, 0)).2.toNat 0) : sameV c l = true := by
  unfold sameV
  rw [List.any_eq_true]
  refine ⟨l[k], List.getElem_mem hk, ?_⟩
  simpa [hk] using h
theorem same_none {c : List Int} {l : List (Int × Int)} (h : ∀ k, k < l.length → ¬ c.getD (l.getD k (0, 0)).1.toNat 0 = c.getD (l.getD k (0, 0)).2.toNat 0) : sameV c l = false := by
  unfold sameV
  rw [List.any_eq_false]
  intro p hp
  obtain ⟨k, hk, rfl⟩ := List.getElem_of_mem hp
  have := h k hk
  simpa [hk] using this
theorem dup_hit {h : List Int} {k : Nat} (hk : k < h.length) (e : (decide (h.getD k 0 = 0) || hasV (h.take k) (h.getD k 0)) = true) : dupV h = true := by
  unfold dupV
  rw [List.any_eq_true]
  exact ⟨k, by simpa using hk, e⟩
theorem dup_none {h : List Int} (e : ∀ k, k < h.length → (decide (h.getD k 0 = 0) || hasV (h.take k) (h.getD k 0)) = false) : dupV h = false := by
  unfold dupV
  rw [List.any_eq_false]
  intro k hk
  rw [e k (by simpa using hk)]
  decide
theorem OwnI.prefix {w : World} {b n : Nat} {l : List Int} (h : OwnI w b n l n) {k : Nat} (hk : k ≤ n) : OwnI w b k (l.take k) k := by
  obtain ⟨h1, h2, h3⟩ := h
  refine ⟨h1, fun j hj => h2 j (by omega), fun i hi => ?_⟩
  rw [h3 i (by omega)]
  congr 2
  rw [List.getD_eq_getElem?_getD, List.getD_eq_getElem?_getD, List.getElem?_take, if_pos hi]

set_option maxRecDepth 3000 in
set_option maxHeartbeats 2000000 in
theorem l3contra_any (a0 a1 a2 a3 : Option Addr) (c0 c1 c2 c3 : Nat) (l0 l1 l2 l3 : List (Int × Int)) (b cp : Nat) (c : List Int) (hl : c.length = 16) (w : World) (n1 : l1.length ≤ 1048576) (n2 : l2.length ≤ 1048576) (n3 : l3.length ≤ 1048576) (hh : (headsV c l2 l3).length ≤ 1048576) (t1 : toks l1 = true) (t2 : toks l2 = true) (t3 : toks l3 = true) (r1 : PRow w a1 l1) (r2 : PRow w a2 l2) (r3 : PRow w a3 l3) (CO : OwnI w b 16 c 16) :
    Calls Try.prog 164 #[.agg #[.slice a0 l0.length c0, .slice a1 l1.length c1, .slice a2 l2.length c2, .slice a3 l3.length c3], .slice (some ⟨b, 0, none⟩) 16 cp] w fun e w' => e = .returned (.bool (contraV c l1 l2 l3)) ∧ Below w.heap.size w w' := by
  have CW := CO.alloc (.cells #[.slice a0 l0.length c0, .slice a1 l1.length c1, .slice a2 l2.length c2, .slice a3 l3.length c3] 28)
  have BW := Box.new w (.slice a0 l0.length c0) (.slice a1 l1.length c1) (.slice a2 l2.length c2) (.slice a3 l3.length c3) 28
  have LW : Below w.heap.size w (w.alloc (.cells #[.slice a0 l0.length c0, .slice a1 l1.length c1, .slice a2 l2.length c2, .slice a3 l3.length c3] 28)) := (Below.refl _ _).alloc (Nat.le_refl _) _
  have HL : Hid (c.length = 16) := hl
  have HH : Hid ((headsV c l2 l3).length ≤ 1048576) := hh
  clear CO hh hl
  go_enter Try.func164, Try.ntmps164
  go_wp2_with fail
  generalize (w.alloc (.cells #[.slice a0 l0.length c0, .slice a1 l1.length c1, .slice a2 l2.length c2, .slice a3 l3.length c3] 28)) = W at *
  go_loopw [5] (fun i wr => ∃ m : Nat, m ≤ l1.length ∧ i = .int .i64 m ∧ Hid (∀ j, j < m → ¬ c.getD (l1.getD j (0, 0)).1.toNat 0 = c.getD (l1.getD j (0, 0)).2.toNat 0) ∧ OwnI wr b 16 c 16 ∧ Box wr w.heap.size (.slice a0 l0.length c0) (.slice a1 l1.length c1) (.slice a2 l2.length c2) (.slice a3 l3.length c3) ∧ Below w.heap.size w wr) (fun i _ => l1.length - (intOf i).toNat)
  case atStart => exact ⟨0, Nat.zero_le _, rfl, fun j hj => absurd hj (Nat.not_lt_zero _), CW, BW, LW⟩
  case round =>
    clear CW BW LW
    obtain ⟨m, hm, rfl, HM, C, B, L⟩ := hrel
    have e1 := B.c1
    by_cases hlty : m < l1.length
    · rcases r1 with hnil | ⟨b1, off1, rfl, hb1, hcl1⟩
      · rw [hnil] at hlty; simp at hlty
      have hyq0 : wr.cell? ⟨b1, off1 + m * 2, none⟩ = some (.int .i64 (l1.getD m (0, 0)).1) := by rw [L.cell (p := ⟨b1, _, none⟩) hb1]; exact (hcl1 m hlty).1
      have hyq1 : wr.cell? ⟨b1, off1 + m * 2 + 1, none⟩ = some (.int .i64 (l1.getD m (0, 0)).2) := by rw [L.cell (p := ⟨b1, _, none⟩) hb1]; exact (hcl1 m hlty).2
      have hmn : (m : Int) < (l1.length : Int) := by omega
      have hm0 : (0 : Int) ≤ (m : Int) := by omega
      have htm := toks_get t1 hlty
      have HHIT : Hid (c.getD (l1.getD m (0, 0)).1.toNat 0 = c.getD (l1.getD m (0, 0)).2.toNat 0 → sameV c l1 = true) := fun h => same_hit hlty h
      have HM2 : Hid (¬ c.getD (l1.getD m (0, 0)).1.toNat 0 = c.getD (l1.getD m (0, 0)).2.toNat 0 → ∀ j, j < m + 1 → ¬ c.getD (l1.getD j (0, 0)).1.toNat 0 = c.getD (l1.getD j (0, 0)).2.toNat 0) := by
        intro hf j hj
        by_cases e : j = m
        · subst e; exact hf
        · exact HM.out j (by omega)
      generalize l1.getD m (0, 0) = pp at *
      clear hcl1
      obtain ⟨⟨q1, q2⟩, q3, q4⟩ := htm
      obtain ⟨s, t, rfl, hs, hts⟩ : ∃ s t : Nat, pp = ((s : Int), (t : Int)) ∧ s < 16 ∧ t < 16 := ⟨pp.1.toNat, pp.2.toNat, by rw [Int.toNat_of_nonneg q1, Int.toNat_of_nonneg q3], by omega, by omega⟩
      clear q1 q2 q3 q4
      dsimp only at hyq0 hyq1
      simp only [Int.toNat_natCast] at HHIT HM2
      have hsa : (s : Int) < 16 := by omega
      have hta : (t : Int) < 16 := by omega
      have hsb : (0 : Int) ≤ (s : Int) := by omega
      have htb : (0 : Int) ≤ (t : Int) := by omega
      have ep := C.2.2 s hs
      have eq := C.2.2 t hts
      generalize c.getD s 0 = p at *
      generalize c.getD t 0 = q at *
      go_wp2_with fail
      have hS0 : Below w.heap.size w wr.drew ∧ wr.drew.cell? ⟨w.heap.size, 1, none⟩ = some (.slice (some ⟨b1, off1, none⟩) l1.length c1) ∧ wr.drew.cell? ⟨b1, off1 + m * 2, none⟩ = some (.int .i64 s) ∧ wr.drew.cell? ⟨b1, off1 + m * 2 + 1, none⟩ = some (.int .i64 t) ∧ wr.drew.cell? ⟨b, s, none⟩ = some (.int .i64 p) ∧ wr.drew.cell? ⟨b, t, none⟩ = some (.int .i64 q) := ⟨L.drew, e1, hyq0, hyq1, ep, eq⟩
      have C2 := C.drew; have B2 := B.drew
      go_region_held3 (fun w' => Below w.heap.size w w' ∧ w'.cell? ⟨w.heap.size, 1, none⟩ = some (.slice (some ⟨b1, off1, none⟩) l1.length c1) ∧ w'.cell? ⟨b1, off1 + m * 2, none⟩ = some (.int .i64 s) ∧ w'.cell? ⟨b1, off1 + m * 2 + 1, none⟩ = some (.int .i64 t) ∧ w'.cell? ⟨b, s, none⟩ = some (.int .i64 p) ∧ w'.cell? ⟨b, t, none⟩ = some (.int .i64 q))
        (first | exact hS0 | assumption | (refine ⟨?_, ?_, ?_, ?_, ?_, ?_⟩ <;> assumption))
        (fail)
      replace L := hS0.1
      clear hS0 C B e1 ep eq hyq0 hyq1
      generalize wr.drew = wd at *
      by_cases h1 : p = q
      · have HV : Hid (contraV c l1 l2 l3 = true) := by unfold Hid contraV; rw [HHIT.out h1]; rfl
        go_wp2
        go_ret
        exact ⟨by rw [HV.out]; rfl, L⟩
      · have HU2 : Hid (∀ j, j < m + 1 → ¬ c.getD (l1.getD j (0, 0)).1.toNat 0 = c.getD (l1.getD j (0, 0)).2.toNat 0) := HM2.out h1
        go_wp2
        go_roundw
        case rel => exact ⟨m + 1, by omega, by go_num, HU2, C2, B2, L⟩
        case measure => simp [intOf]; omega
    · have HA : Hid (contraV c l1 l2 l3 = dupV (headsV c l2 l3)) := by
        unfold Hid contraV
        rw [same_none (fun j hj => HM.out j (by omega))]
        rfl
      have hge : ¬ ((m : Int) < (l1.length : Int)) := by omega
      have e0 := B.c0; have e2 := B.c2; have e3 := B.c3
      go_wp2_with fail
      refine (l3heads_cap _ _ _ _ _ _ _ _ _ _ _ _ b cp c HL.out _ n2 n3 t2 t3 (by exact r2.below L (Nat.le_refl _)) (by exact r3.below L (Nat.le_refl _)) (by exact C)).mono ?_
      rintro e w3 ⟨ag, cg, rfl, hcap, G, hb⟩
      have L3 := L.trans (hb.mono L.size)
      clear hb B C e0 e1 e2 e3
      have hn := HH.out
      generalize headsV c l2 l3 = hs at *
      obtain ⟨_, hr⟩ := G
      generalize hn2 : hs.length = n at *
      replace hn2 : Hid (hs.length = n) := hn2
      go_wp2_with fail
      go_loopw [7] (fun i wx => ∃ k : Nat, k ≤ n ∧ i = .int .i64 k ∧ Hid (∀ j, j < k → (decide (hs.getD j 0 = 0) || hasV (hs.take j) (hs.getD j 0)) = false) ∧ Below w3.heap.size w3 wx) (fun i _ => n - (intOf i).toNat)
      case atStart => exact ⟨0, Nat.zero_le _, rfl, fun j hj => absurd hj (Nat.not_lt_zero _), Below.refl _ _⟩
      case round =>
        obtain ⟨k, hk, rfl, HK, hbw⟩ := hrel
        have L4 := L3.trans (hbw.mono L3.size)
        by_cases hlt : k < n
        · rcases hr with h0 | ⟨bh, rfl, _, _, OH⟩
          · omega
          have OH2 := OH.below hbw OH.1
          have ev := OH2.2.2 k hlt
          have hkn : (k : Int) < (n : Int) := by omega
          have hk0 : (0 : Int) ≤ (k : Int) := by omega
          have G2 : IntIn wr 0 (bh + 1) (some ⟨bh, 0, none⟩) k (hs.take k) := ⟨by rw [List.length_take, hn2.out]; omega, .inr ⟨bh, rfl, Nat.zero_le _, Nat.lt_succ_self _, OH2.prefix (by omega)⟩⟩
          have HHIT : Hid ((decide (hs.getD k 0 = 0) || hasV (hs.take k) (hs.getD k 0)) = true → contraV c l1 l2 l3 = true) := fun e => by rw [HA.out]; exact dup_hit (by have := hn2.out; omega) e
          have HK2 : Hid ((decide (hs.getD k 0 = 0) || hasV (hs.take k) (hs.getD k 0)) = false → ∀ j, j < k + 1 → (decide (hs.getD j 0 = 0) || hasV (hs.take j) (hs.getD j 0)) = false) := by
            intro hf j hj
            by_cases e : j = k
            · subst e; exact hf
            · exact HK.out j (by omega)
          have hkn3 : (k : Int) ≤ (cg : Int) := by omega
          have HZ : Hid (∃ z, hs.getD k 0 = z) := ⟨_, rfl⟩
          clear HZ
          generalize hs.getD k 0 = z at *
          generalize hs.take k = ts at *
          cases hz : (z == 0)
          · have DZ : decide (z = 0) = false := by rw [beq_eq_false_iff_ne] at hz; exact decide_eq_false hz
            rw [DZ, Bool.false_or] at HHIT HK2
            clear DZ
            go_wp2_with fail
            have hS0 : Below w3.heap.size w3 wr.drew ∧ wr.drew.cell? ⟨bh, k, none⟩ = some (.int .i64 z) ∧ IntIn wr.drew 0 (bh + 1) (some ⟨bh, 0, none⟩) k ts := ⟨hbw.drew, ev, G2.below ((Below.refl _ _).drew) OH2.1⟩
            go_region_held3 (fun w' => Below w3.heap.size w3 w' ∧ w'.cell? ⟨bh, k, none⟩ = some (.int .i64 z) ∧ IntIn w' 0 (bh + 1) (some ⟨bh, 0, none⟩) k ts)
              (first | exact hS0 | assumption | (refine ⟨?_, ?_, ?_⟩ <;> assumption))
              (first
                | (go_at_call 216; refine (l3has_any 0 (bh + 1) k _ _ ts z _ (by omega) hS0.2.2).mono ?_; rintro e wz ⟨rfl, rfl⟩))
            all_goals
              have hbw2 := hS0.1
              clear hS0
              generalize wr.drew = wd at *
              have L5 := L3.trans (hbw2.mono L3.size)
              cases hf : hasV ts z
              · have HK3 : Hid (∀ j, j < k + 1 → (decide (hs.getD j 0 = 0) || hasV (hs.take j) (hs.getD j 0)) = false) := HK2.out hf
                go_wp2
                go_roundw
                case rel => exact ⟨k + 1, by omega, by go_num, HK3, hbw2⟩
                case measure => simp [intOf]; omega
              · have HV : Hid (contraV c l1 l2 l3 = true) := HHIT.out hf
                go_wp2
                go_ret
                exact ⟨by rw [HV.out]; rfl, L5⟩
          · have DZ : decide (z = 0) = true := by rw [beq_iff_eq] at hz; exact decide_eq_true hz
            have HV : Hid (contraV c l1 l2 l3 = true) := HHIT.out (by rw [DZ]; rfl)
            clear DZ
            go_wp2_with fail
            go_quiet (fail)
            go_wp2
            go_ret
            refine ⟨by rw [HV.out]; rfl, ?_⟩
            exact L4.trans ⟨rfl, rfl, rfl, Nat.le_refl _, fun _ _ => rfl⟩
        · have HV : Hid (contraV c l1 l2 l3 = false) := by unfold Hid; rw [HA.out]; exact dup_none (fun j hj => HK.out j (by have := hn2.out; omega))
          have hge2 : ¬ ((k : Int) < (n : Int)) := by omega
          go_wp2
          go_ret
          exact ⟨by rw [HV.out]; rfl, L4⟩
end Go.Proofs.Ytphchdjbhbmnbaa
namespace Go.Proofs.Ytphchdjbhbmnbaa
open Go.RowKit
/-- Two and two are the same, either way about. -/
def pairIs (u v x y : Int) : Bool := decide (u = x ∧ v = y ∨ u = y ∧ v = x)
theorem pairIs_cpl {u v x y : Int} (hu : 0 ≤ u ∧ u < 16) (hv : 0 ≤ v ∧ v < 16) (hx : 0 ≤ x ∧ x < 16) (hy : 0 ≤ y ∧ y < 16) :
    (FloatKind.f64.format.order (fl (min u v)) (fl (min x y)) == some .eq && FloatKind.f64.format.order (fl (max u v)) (fl (max x y)) == some .eq) = pairIs u v x y := by
  rw [fl_order (by omega) (by omega) (by omega) (by omega), fl_order (by omega) (by omega) (by omega) (by omega)]
  unfold pairIs
  rw [← Bool.decide_and]
  exact decide_eq_decide.2 (by omega)
def amongV (c : List Int) (l : List (Int × Int)) (x y : Int) : Bool := l.any fun p => pairIs (c.getD p.1.toNat 0) (c.getD p.2.toNat 0) x y
theorem among_hit {c : List Int} {l : List (Int × Int)} {x y : Int} {k : Nat} (hk : k < l.length) (h : pairIs (c.getD (l.getD k (0, 0)).1.toNat 0) (c.getD (l.getD k (0, 0)).2.toNat 0) x y = true) : amongV c l x y = true := by
  unfold amongV
  rw [List.any_eq_true]
  refine ⟨l[k], List.getElem_mem hk, ?_⟩
  simpa [hk] using h
theorem among_none {c : List Int} {l : List (Int × Int)} {x y : Int} (h : ∀ k, k < l.length → pairIs (c.getD (l.getD k (0, 0)).1.toNat 0) (c.getD (l.getD k (0, 0)).2.toNat 0) x y = false) : amongV c l x y = false := by
  unfold amongV
  rw [List.any_eq_false]
  intro p hp
  obtain ⟨k, hk, rfl⟩ := List.getElem_of_mem hp
  have := h k hk
  simpa [hk] using this
theorem eql73 (a b c d : Nat) (w : World) : (binOp .eql 108 (.complex .f64 a b) (.complex .f64 c d)).run Try.prog w = .ok (.bool (FloatKind.f64.format.order a c == some .eq && FloatKind.f64.format.order b d == some .eq)) w := run_eql_complex (P := Try.prog) w 108 .f64 a b c d

set_option maxRecDepth 3000 in
set_option maxHeartbeats 1000000 in
theorem among_any (c : List Int) (a : Option Addr) (cp : Nat) (l : List (Int × Int)) (x y : Int) (hc : Cls c) (w : World) (hn : l.length ≤ 1048576) (ht : toks l = true) (hr : PRow w a l) (hx : 0 ≤ x ∧ x < 16) (hy : 0 ≤ y ∧ y < 16) :
    Calls Try.prog 157 #[aV c, .slice a l.length cp, cplV x y] w fun e w' => e = .returned (.bool (amongV c l x y)) ∧ Below w.heap.size w w' := by
  have CW := OwnI.new w c 16 hc.1 102
  have LW : Below w.heap.size w (w.alloc (.cells (ic c).toArray 102)) := (Below.refl _ _).alloc (Nat.le_refl _) _
  have HC : Hid (Cls c) := hc
  have HXY : Hid ((0 ≤ x ∧ x < 16) ∧ (0 ≤ y ∧ y < 16)) := ⟨hx, hy⟩
  clear hc hx hy
  unfold cplV
  obtain ⟨f1, hf1⟩ : ∃ f, f = fl (min x y) := ⟨_, rfl⟩
  obtain ⟨f2, hf2⟩ : ∃ f, f = fl (max x y) := ⟨_, rfl⟩
  rw [← hf1, ← hf2]
  replace hf1 : Hid (f1 = fl (min x y)) := hf1
  replace hf2 : Hid (f2 = fl (max x y)) := hf2
  unfold aV
  go_enter Try.func157, Try.ntmps157
  go_wp2_with fail
  generalize w.alloc (.cells (ic c).toArray 102) = W at *
  go_loopw [11] (fun i wr => ∃ k : Nat, k ≤ l.length ∧ i = .int .i64 k ∧ Hid (∀ j, j < k → pairIs (c.getD (l.getD j (0, 0)).1.toNat 0) (c.getD (l.getD j (0, 0)).2.toNat 0) x y = false) ∧ OwnI wr w.heap.size 16 c 16 ∧ Below w.heap.size w wr) (fun i _ => l.length - (intOf i).toNat)
  case atStart => exact ⟨0, Nat.zero_le _, rfl, fun j hj => absurd hj (Nat.not_lt_zero _), CW, LW⟩
  case round =>
    clear CW LW
    obtain ⟨k, hk, rfl, HM, C, L⟩ := hrel
    by_cases hlt : k < l.length
    · rcases hr with hnil | ⟨b, off, rfl, hb, hcl⟩
      · rw [hnil] at hlt; simp at hlt
      have hq0 : wr.cell? ⟨b, off + k * 2, none⟩ = some (.int .i64 (l.getD k (0, 0)).1) := by rw [L.cell (p := ⟨b, _, none⟩) hb]; exact (hcl k hlt).1
      have hq1 : wr.cell? ⟨b, off + k * 2 + 1, none⟩ = some (.int .i64 (l.getD k (0, 0)).2) := by rw [L.cell (p := ⟨b, _, none⟩) hb]; exact (hcl k hlt).2
      have hkn : (k : Int) < (l.length : Int) := by omega
      have hk0' : (0 : Int) ≤ (k : Int) := by omega
      have htk := toks_get ht hlt
      have HHIT : Hid (pairIs (c.getD (l.getD k (0, 0)).1.toNat 0) (c.getD (l.getD k (0, 0)).2.toNat 0) x y = true → amongV c l x y = true) := fun h => among_hit hlt h
      have HM2 : Hid (pairIs (c.getD (l.getD k (0, 0)).1.toNat 0) (c.getD (l.getD k (0, 0)).2.toNat 0) x y = false → ∀ j, j < k + 1 → pairIs (c.getD (l.getD j (0, 0)).1.toNat 0) (c.getD (l.getD j (0, 0)).2.toNat 0) x y = false) := by
        intro hf j hj
        by_cases e : j = k
        · subst e; exact hf
        · exact HM.out j (by omega)
      generalize l.getD k (0, 0) = p at *
      clear hcl
      obtain ⟨⟨q1, q2⟩, q3, q4⟩ := htk
      obtain ⟨s, t, rfl, hs, hts⟩ : ∃ s t : Nat, p = ((s : Int), (t : Int)) ∧ s < 16 ∧ t < 16 := ⟨p.1.toNat, p.2.toNat, by rw [Int.toNat_of_nonneg q1, Int.toNat_of_nonneg q3], by omega, by omega⟩
      clear q1 q2 q3 q4
      dsimp only at hq0 hq1
      simp only [Int.toNat_natCast] at HHIT HM2
      have HB := pairIs_cpl (HC.out.2 s hs) (HC.out.2 t hts) HXY.out.1 HXY.out.2
      have B1 := PBox.new wr s t 69
      have L1 := L.alloc L.size (.cells #[.int .i64 (s : Int), .int .i64 (t : Int)] 69)
      have C1 := C.alloc (.cells #[.int .i64 (s : Int), .int .i64 (t : Int)] 69)
      iterate 35 go_step
      refine wl67 rfl (.tmp 3) rfl _ rfl C1 HC.out.1 ?_
      clear hq0 hq1 C L
      generalize wr.alloc (.cells #[.int .i64 (s : Int), .int .i64 (t : Int)] 69) = W2 at *
      have e0 := B1.c0
      have e1 := B1.c1
      go_wp2_with fail
      refine (of_any c s t _ HC.out.1 hs hts).mono ?_
      rintro e u0 ⟨rfl, h0⟩
      have C2 := C1.below h0 C1.1
      have L2 := L1.trans (h0.mono L1.size)
      clear h0 e0 e1 B1 C1 L1
      generalize c.getD s 0 = u at *
      generalize c.getD t 0 = v at *
      rw [← hf1.out, ← hf2.out] at HB
      unfold cplV
      generalize fl (min u v) = g1 at *
      generalize fl (max u v) = g2 at *
      have hE := eql73 g1 g2 f1 f2
      rw [HB] at hE
      cases hp : pairIs u v x y
      · rw [hp] at hE HB
        have HM3 : Hid (∀ j, j < k + 1 → pairIs (c.getD (l.getD j (0, 0)).1.toNat 0) (c.getD (l.getD j (0, 0)).2.toNat 0) x y = false) := HM2.out hp
        go_wp2
        go_roundw
        case rel => exact ⟨k + 1, by omega, by go_num, HM3, C2, L2⟩
        case measure => simp [intOf]; omega
      · rw [hp] at hE HB
        have HV : Hid (amongV c l x y = true) := HHIT.out hp
        go_wp2
        go_ret
        exact ⟨by rw [HV.out]; rfl, L2⟩
    · have HV : Hid (amongV c l x y = false) := among_none (fun j hj => HM.out j (by omega))
      have hge : ¬ ((k : Int) < (l.length : Int)) := by omega
      go_wp2
      go_ret
      exact ⟨by rw [HV.out]; rfl, L⟩
end Go.Proofs.Ytphchdjbhbmnbaa
namespace Go.Proofs.Ytphchdjbhbmnbaa
open Go.RowKit
def openV (c : List Int) (l1 l3 : List (Int × Int)) : Bool := l3.all fun p => amongV c l1 (c.getD p.1.toNat 0) (c.getD p.2.toNat 0)
theorem open_all {c : List Int} {l1 l3 : List (Int × Int)} (h : ∀ k, k < l3.length → amongV c l1 (c.getD (l3.getD k (0, 0)).1.toNat 0) (c.getD (l3.getD k (0, 0)).2.toNat 0) = true) : openV c l1 l3 = true := by
  unfold openV
  rw [List.all_eq_true]
  intro p hp
  obtain ⟨k, hk, rfl⟩ := List.getElem_of_mem hp
  have := h k hk
  simpa [hk] using this
theorem open_not {c : List Int} {l1 l3 : List (Int × Int)} {k : Nat} (hk : k < l3.length) (h : amongV c l1 (c.getD (l3.getD k (0, 0)).1.toNat 0) (c.getD (l3.getD k (0, 0)).2.toNat 0) = false) : openV c l1 l3 = false := by
  unfold openV
  rw [List.all_eq_false]
  exact ⟨l3[k], List.getElem_mem hk, by simpa [hk] using h⟩

set_option linter.unusedSimpArgs false in
set_option maxRecDepth 3000 in
set_option maxHeartbeats 1000000 in
theorem opens_any (a0 a1 a2 a3 : Option Addr) (c0 c1 c2 c3 : Nat) (l0 l1 l2 l3 : List (Int × Int)) (c : List Int) (hc : Cls c) (w : World) (n1 : l1.length ≤ 1048576) (n3 : l3.length ≤ 1048576) (t1 : toks l1 = true) (t3 : toks l3 = true) (r1 : PRow w a1 l1) (r3 : PRow w a3 l3) :
    Calls Try.prog 167 #[aV c, .agg #[.slice a0 l0.length c0, .slice a1 l1.length c1, .slice a2 l2.length c2, .slice a3 l3.length c3]] w fun e w' => e = .returned (.bool (openV c l1 l3)) ∧ Below w.heap.size w w' := by
  have CW := (OwnI.new w c 16 hc.1 102).alloc (.cells #[.slice a0 l0.length c0, .slice a1 l1.length c1, .slice a2 l2.length c2, .slice a3 l3.length c3] 28)
  have BW := Box.new (w.alloc (.cells (ic c).toArray 102)) (.slice a0 l0.length c0) (.slice a1 l1.length c1) (.slice a2 l2.length c2) (.slice a3 l3.length c3) 28
  have LW : Below w.heap.size w ((w.alloc (.cells (ic c).toArray 102)).alloc (.cells #[.slice a0 l0.length c0, .slice a1 l1.length c1, .slice a2 l2.length c2, .slice a3 l3.length c3] 28)) := ((Below.refl _ _).alloc (Nat.le_refl _) _).alloc (by simp) _
  rw [World.size_alloc] at BW
  have y3 := BW.c3
  have HC : Hid (Cls c) := hc
  clear hc
  unfold aV
  go_enter Try.func167, Try.ntmps167
  go_wp2_with fail
  generalize ((w.alloc (.cells (ic c).toArray 102)).alloc (.cells #[.slice a0 l0.length c0, .slice a1 l1.length c1, .slice a2 l2.length c2, .slice a3 l3.length c3] 28)) = W at *
  clear y3
  go_loopw [10] (fun i wr => ∃ k : Nat, k ≤ l3.length ∧ i = .int .i64 k ∧ Hid (∀ j, j < k → amongV c l1 (c.getD (l3.getD j (0, 0)).1.toNat 0) (c.getD (l3.getD j (0, 0)).2.toNat 0) = true) ∧ OwnI wr w.heap.size 16 c 16 ∧ Box wr (w.heap.size + 1) (.slice a0 l0.length c0) (.slice a1 l1.length c1) (.slice a2 l2.length c2) (.slice a3 l3.length c3) ∧ Below w.heap.size w wr) (fun i _ => l3.length - (intOf i).toNat)
  case atStart => exact ⟨0, Nat.zero_le _, rfl, fun j hj => absurd hj (Nat.not_lt_zero _), CW, BW, LW⟩
  case round =>
    clear CW LW BW
    obtain ⟨k, hk, rfl, HM, C, B, L⟩ := hrel
    by_cases hlt : k < l3.length
    · rcases r3 with hnil | ⟨b, off, rfl, hb, hcl⟩
      · rw [hnil] at hlt; simp at hlt
      have hq0 : wr.cell? ⟨b, off + k * 2, none⟩ = some (.int .i64 (l3.getD k (0, 0)).1) := by rw [L.cell (p := ⟨b, _, none⟩) hb]; exact (hcl k hlt).1
      have hq1 : wr.cell? ⟨b, off + k * 2 + 1, none⟩ = some (.int .i64 (l3.getD k (0, 0)).2) := by rw [L.cell (p := ⟨b, _, none⟩) hb]; exact (hcl k hlt).2
      have hkn : (k : Int) < (l3.length : Int) := by omega
      have hk0' : (0 : Int) ≤ (k : Int) := by omega
      have htk := toks_get t3 hlt
      have HNO : Hid (amongV c l1 (c.getD (l3.getD k (0, 0)).1.toNat 0) (c.getD (l3.getD k (0, 0)).2.toNat 0) = false → openV c l1 l3 = false) := fun h => open_not hlt h
      have HM2 : Hid (amongV c l1 (c.getD (l3.getD k (0, 0)).1.toNat 0) (c.getD (l3.getD k (0, 0)).2.toNat 0) = true → ∀ j, j < k + 1 → amongV c l1 (c.getD (l3.getD j (0, 0)).1.toNat 0) (c.getD (l3.getD j (0, 0)).2.toNat 0) = true) := by
        intro hf j hj
        by_cases e : j = k
        · subst e; exact hf
        · exact HM.out j (by omega)
      generalize l3.getD k (0, 0) = p at *
      clear hcl
      obtain ⟨⟨q1, q2⟩, q3, q4⟩ := htk
      obtain ⟨s, t, rfl, hs, hts⟩ : ∃ s t : Nat, p = ((s : Int), (t : Int)) ∧ s < 16 ∧ t < 16 := ⟨p.1.toNat, p.2.toNat, by rw [Int.toNat_of_nonneg q1, Int.toNat_of_nonneg q3], by omega, by omega⟩
      clear q1 q2 q3 q4
      dsimp only at hq0 hq1
      simp only [Int.toNat_natCast] at HNO HM2
      go_wp2_with fail
      have P1 := PBox.new wr s t 69
      have L1 := L.alloc L.size (.cells #[.int .i64 (s : Int), .int .i64 (t : Int)] 69)
      have C1 := C.alloc (.cells #[.int .i64 (s : Int), .int .i64 (t : Int)] 69)
      have B1 := B.alloc (.cells #[.int .i64 (s : Int), .int .i64 (t : Int)] 69)
      clear hq0 hq1 C L B hb
      generalize wr.alloc (.cells #[.int .i64 (s : Int), .int .i64 (t : Int)] 69) = W2 at *
      generalize wr.heap.size = q at *
      replace P1 := P1.drew; replace L1 := L1.drew; replace C1 := C1.drew; replace B1 := B1.drew
      have hS0 : Below w.heap.size w W2.drew ∧ W2.drew.rangeAt w.heap.size 0 (ic c) ∧ W2.drew.cell? ⟨w.heap.size + 1, 1, none⟩ = some (.slice a1 l1.length c1) ∧ W2.drew.rangeAt q 0 [.int .i64 (s : Int), .int .i64 (t : Int)] := ⟨L1, C1.range HC.out.1, B1.c1, P1.range⟩
      have u67 := Try.underlying102
      have u60 := Try.underlying69
      have i67 : (Try.prog.info? 102).map (·.size) = some (ic c).length := by rw [ic_length, HC.out.1]; kernel_rfl
      have i60 : (Try.prog.info? 69).map (·.size) = some [Value.int .i64 (s : Int), Value.int .i64 (t : Int)].length := by kernel_rfl
      refine wp_region_held_drew (S := fun w' => Below w.heap.size w w' ∧ w'.rangeAt w.heap.size 0 (ic c) ∧ w'.cell? ⟨w.heap.size + 1, 1, none⟩ = some (.slice a1 l1.length c1) ∧ w'.rangeAt q 0 [.int .i64 (s : Int), .int .i64 (t : Int)]) (by kernel_rfl) hS0 (fun _ => ?_)
      generalize W2.drew = W3 at *
      refine wpAnyH_take (i := 0) rfl (by kernel_rfl) (by kernel_rfl) (by kernel_rfl) (fun _ _ _ h => h) (yieldsIf_load_mid (by rfl) _ _ rfl _ _ rfl _ _ (fun w' h => h.2.1) u67 rfl i67) hS0 ?_
      simp only [Act.put, List.setIfInBounds_toArray, List.set_cons_zero, List.set_cons_succ]
      refine wpAnyH_take (i := 1) (v := .pointer (some ⟨w.heap.size + 1, 1, none⟩)) rfl (by kernel_rfl) (by kernel_rfl) (by kernel_rfl) (fun _ _ _ h => h) (Or.inl ⟨by rfl, ?_⟩) hS0 ?_
      · intro w2 hSw; go_simp
      simp only [Act.put, List.setIfInBounds_toArray, List.set_cons_zero, List.set_cons_succ]
      refine wpAnyH_take (i := 2) (v := .slice a1 l1.length c1) rfl (by kernel_rfl) (by kernel_rfl) (by kernel_rfl) (fun _ _ _ h => h) (Or.inl ⟨by rfl, ?_⟩) hS0 ?_
      · intro w2 hSw; go_simp
      simp only [Act.put, List.setIfInBounds_toArray, List.set_cons_zero, List.set_cons_succ]
      refine wpAnyH_take (i := 3) rfl (by kernel_rfl) (by kernel_rfl) (by kernel_rfl) (fun _ _ _ h => h) (yieldsIf_load_mid (by rfl) _ _ rfl _ _ rfl _ _ (fun w' h => h.2.1) u67 rfl i67) hS0 ?_
      simp only [Act.put, List.setIfInBounds_toArray, List.set_cons_zero, List.set_cons_succ]
      refine wpAnyH_take (i := 4) rfl (by kernel_rfl) (by kernel_rfl) (by kernel_rfl) (fun _ _ _ h => h) (yieldsIf_load_mid (by rfl) _ _ rfl _ _ rfl _ _ (fun w' h => h.2.2.2) u60 rfl i60) hS0 ?_
      simp only [Act.put, List.setIfInBounds_toArray, List.set_cons_zero, List.set_cons_succ]
      refine wpAnyH_ready (rs := [5]) (by kernel_rfl) (by simp) ?_
      refine AllReadyH.cons rfl (fun K hK => ?_) AllReadyH.nil
      rw [if_pos (by rfl)]
      go_simp
      refine (of_any c s t _ HC.out.1 hs hts).mono ?_
      rintro e v0 ⟨rfl, h0⟩
      have C2 := C1.below h0 C1.1; have L2 := L1.trans (h0.mono L1.size); have B2 := B1.below h0 B1.lt; have P2 := P1.below h0 P1.lt
      clear h0 C1 L1 B1 P1 hS0
      have hS1 : Below w.heap.size w v0 ∧ v0.rangeAt w.heap.size 0 (ic c) ∧ v0.cell? ⟨w.heap.size + 1, 1, none⟩ = some (.slice a1 l1.length c1) ∧ v0.rangeAt q 0 [.int .i64 (s : Int), .int .i64 (t : Int)] := ⟨L2, C2.range HC.out.1, B2.c1, P2.range⟩
      refine hK.out _ _ hS1 (fun _ => ?_)
      clear hK K
      refine wpAnyH_ready (rs := [6]) (by kernel_rfl) (by simp) ?_
      refine AllReadyH.cons rfl (fun K hK => ?_) AllReadyH.nil
      rw [if_pos (by rfl)]
      go_simp
      refine (among_any c _ _ l1 _ _ HC.out _ n1 t1 (r1.below hS1.1 (Nat.le_refl _)) (HC.out.2 s hs) (HC.out.2 t hts)).mono ?_
      rintro e v1 ⟨rfl, h0⟩
      have C3 := C2.below h0 C2.1; have L3 := L2.trans (h0.mono L2.size); have B3 := B2.below h0 B2.lt; have P3 := P2.below h0 P2.lt
      clear h0 C2 L2 B2 P2 hS1
      have hS2 : Below w.heap.size w v1 ∧ v1.rangeAt w.heap.size 0 (ic c) ∧ v1.cell? ⟨w.heap.size + 1, 1, none⟩ = some (.slice a1 l1.length c1) ∧ v1.rangeAt q 0 [.int .i64 (s : Int), .int .i64 (t : Int)] := ⟨L3, C3.range HC.out.1, B3.c1, P3.range⟩
      refine hK.out _ _ hS2 (fun _ => ?_)
      clear hK K
      refine wpAnyH_ready (rs := [7]) (by kernel_rfl) (by simp) ?_
      refine AllReadyH.cons rfl (fun K hK => ?_) AllReadyH.nil
      rw [if_pos (by rfl)]
      generalize amongV c l1 (c.getD s 0) (c.getD t 0) = am at *
      go_simp
      refine hK.out _ _ hS2 (fun _ => ?_)
      clear hK K
      refine wpAnyH_done (by kernel_rfl) ?_ _
      clear hS2 P3
      cases am
      · have HV : Hid (openV c l1 l3 = false) := HNO.out rfl
        go_wp2
        go_ret
        exact ⟨by rw [HV.out]; rfl, L3⟩
      · have HM3 : Hid (∀ j, j < k + 1 → amongV c l1 (c.getD (l3.getD j (0, 0)).1.toNat 0) (c.getD (l3.getD j (0, 0)).2.toNat 0) = true) := HM2.out rfl
        go_wp2
        go_roundw
        case rel => exact ⟨k + 1, by omega, by go_num, HM3, C3, B3, L3⟩
        case measure => simp [intOf]; omega
    · have HV : Hid (openV c l1 l3 = true) := open_all (fun j hj => HM.out j (by omega))
      have hge : ¬ ((k : Int) < (l3.length : Int)) := by omega
      go_wp2
      go_ret
      exact ⟨by rw [HV.out]; rfl, L⟩
end Go.Proofs.Ytphchdjbhbmnbaa
