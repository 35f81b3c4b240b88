/-
  The contracts of Unlike.
-/
import Derived.Test.YtiolgbckichneaaUn
import Derived.Test.YtiolgbckichneaaHs
namespace Go.Proofs.Ytiolgbckichneaa
open Go.RowKit
def unlikeA (l0 l1 l2 l3 : List (Int × Int)) (x y : Int) : Bool := asnB l0 l1 l2 l3 && (tok x && (tok y && (openV (clsV l0) l1 l3 && unlikeV (clsV l0) l1 l2 l3 ((clsV l0).getD x.toNat 0) ((clsV l0).getD y.toNat 0))))
theorem wl67g {ops : Array Oper} {rest : List Oper} {op : Oper} {a : Act} {w : World} {Q : Exit → Act → World → Prop} (hw : Region.wanted op (yielded ops a.tmps) = true) (x : Operand) (ho : op.op = .load 67 x)
    (b : Nat) (hx : a.eval x = .pointer (some ⟨b, 0, none⟩)) {c : List Int} (h : OwnI w b 16 c 16) (hl : c.length = 16)
    (k : wpList Try.prog ops Q rest (a.put op.dst (.agg (ic c).toArray)) w) : wpList Try.prog ops Q (op :: rest) a w :=
  wpList_step fun _ hK => by
    rw [if_pos hw]
    exact wp_load_mid 67 x ho b 0 hx (ic c) _ (h.range hl) Try.underlying67 rfl (by rw [ic_length, hl]; kernel_rfl) (hK _ _ k)
theorem unlike_open (l0 l1 l2 l3 : List (Int × Int)) (x y : Int) : unlikeA l0 l1 l2 l3 x y = (openA l0 l1 l2 l3 && (tok x && (tok y && unlikeV (clsV l0) l1 l2 l3 ((clsV l0).getD x.toNat 0) ((clsV l0).getD y.toNat 0)))) := by
  unfold unlikeA openA
  cases asnB l0 l1 l2 l3 <;> cases tok x <;> cases tok y <;> cases openV (clsV l0) l1 l3 <;> rfl

set_option maxRecDepth 3000 in
set_option maxHeartbeats 1000000 in
theorem sUnlike_any (a0 a1 a2 a3 : Option Addr) (c0 c1 c2 c3 : Nat) (l0 l1 l2 l3 : List (Int × Int)) (x y : Int) (w : World)
    (n0 : l0.length ≤ 1048576) (n1 : l1.length ≤ 1048576) (n2 : l2.length ≤ 1048576) (n3 : l3.length ≤ 1048576)
    (r0 : PRow w a0 l0) (r1 : PRow w a1 l1) (r2 : PRow w a2 l2) (r3 : PRow w a3 l3) :
    Calls Try.prog 34 #[.agg #[.slice a0 l0.length c0, .slice a1 l1.length c1, .slice a2 l2.length c2, .slice a3 l3.length c3], .int .i64 x, .int .i64 y] w fun e w' => e = .returned (.bool (unlikeA l0 l1 l2 l3 x y)) ∧ Below w.heap.size w w' := by
  have B0 := Box.new w (.slice a0 l0.length c0) (.slice a1 l1.length c1) (.slice a2 l2.length c2) (.slice a3 l3.length c3) 28
  have L0 : Below w.heap.size w (w.alloc (.cells #[.slice a0 l0.length c0, .slice a1 l1.length c1, .slice a2 l2.length c2, .slice a3 l3.length c3] 28)) := (Below.refl _ _).alloc (Nat.le_refl _) _
  go_enter Try.func34, Try.ntmps34
  go_wp2_with fail
  refine (sAsnOk_any _ _ _ _ _ _ _ _ _ _ _ _ _ n0 n1 n2 n3 (by exact r0.below L0 (Nat.le_refl _)) (by exact r1.below L0 (Nat.le_refl _)) (by exact r2.below L0 (Nat.le_refl _)) (by exact r3.below L0 (Nat.le_refl _))).mono ?_
  rintro e w1 ⟨rfl, hb⟩
  have B1 := B0.below hb B0.lt; have L1 := L0.trans (hb.mono L0.size)
  clear hb B0 L0
  cases ha : asnB l0 l1 l2 l3
  · have HE : Hid (unlikeA l0 l1 l2 l3 x y = false) := by unfold Hid unlikeA; rw [ha]; rfl
    go_wp2
    go_ret
    exact ⟨by rw [HE.out]; rfl, L1⟩
  go_wp2_with fail
  refine (sTermOk_any x _).mono ?_
  rintro e wz ⟨rfl, rfl⟩
  cases hx : tok x
  · have HE : Hid (unlikeA l0 l1 l2 l3 x y = false) := by unfold Hid unlikeA; rw [ha, hx]; rfl
    go_wp2
    go_ret
    exact ⟨by rw [HE.out]; rfl, L1⟩
  go_wp2_with fail
  refine (sTermOk_any y _).mono ?_
  rintro e wz ⟨rfl, rfl⟩
  cases hy : tok y
  · have HE : Hid (unlikeA l0 l1 l2 l3 x y = false) := by unfold Hid unlikeA; rw [ha, hx, hy]; rfl
    go_wp2
    go_ret
    exact ⟨by rw [HE.out]; rfl, L1⟩
  have ht := asnB_toks ha
  have HE : Hid (unlikeA l0 l1 l2 l3 x y = (openV (clsV l0) l1 l3 && unlikeV (clsV l0) l1 l2 l3 ((clsV l0).getD x.toNat 0) ((clsV l0).getD y.toNat 0))) := by unfold Hid unlikeA; rw [ha, hx, hy]; rfl
  have HLE : Hid ((headsV (clsV l0) l2 l3).length ≤ 1048576) := by have := headsA_le l0 l1 l2 l3; unfold headsA at this; rw [if_pos ha] at this; exact this
  have HC : Hid (Cls (clsV l0)) := Cls.all ht.1
  have hxx := tok_iff.1 hx
  have hyy := tok_iff.1 hy
  obtain ⟨x, rfl⟩ := Int.eq_ofNat_of_zero_le hxx.1
  obtain ⟨y, rfl⟩ := Int.eq_ofNat_of_zero_le hyy.1
  simp only [Int.toNat_natCast] at HE
  obtain ⟨hx0, hx1⟩ := hxx
  obtain ⟨hy0, hy1⟩ := hyy
  have hxn : x < 16 := by omega
  have hyn : y < 16 := by omega
  clear hx hy ha
  have x0 := B1.c0; have x1 := B1.c1; have x2 := B1.c2; have x3 := B1.c3
  go_wp2_with fail
  refine (l3classes_any _ _ _ _ _ _ _ _ _ _ _ _ _ n0 ht.1 (by exact r0.below L1 (Nat.le_refl _))).mono ?_
  rintro e w2 ⟨b, cp, rfl, hbb, O, hb⟩
  have L2 := L1.trans (hb.mono L1.size)
  have B2 := B1.below hb B1.lt
  clear hb B1 L1 x0 x1 x2 x3
  generalize clsV l0 = c at *
  have x0 := B2.c0; have x1 := B2.c1; have x2 := B2.c2; have x3 := B2.c3
  go_wp2_with fail
  refine (l3opened_any _ _ _ _ _ _ _ _ _ _ _ _ b cp c HC.out _ n1 n3 ht.2.1 ht.2.2.2 (by exact r1.below L2 (Nat.le_refl _)) (by exact r3.below L2 (Nat.le_refl _)) (by exact O)).mono ?_
  rintro e w3 ⟨rfl, hb⟩
  have L3 := L2.trans (hb.mono L2.size)
  have B3 := B2.below hb B2.lt
  have O3 := O.below hb O.1
  clear hb B2 L2 O x0 x1 x2 x3
  have x0 := B3.c0; have x1 := B3.c1; have x2 := B3.c2; have x3 := B3.c3
  cases ho : openV c l1 l3
  · rw [ho] at HE
    go_wp2
    go_ret
    exact ⟨by rw [HE.out]; rfl, L3⟩
  rw [ho] at HE
  go_wp2_with fail
  refine (l3unlike_any _ _ _ _ _ _ _ _ _ _ _ _ b cp c x y hxn hyn HC.out _ n1 n2 n3 HLE.out ht.2.1 ht.2.2.1 ht.2.2.2 (by exact r1.below L3 (Nat.le_refl _)) (by exact r2.below L3 (Nat.le_refl _)) (by exact r3.below L3 (Nat.le_refl _)) (by exact O3)).mono ?_
  rintro e w4 ⟨rfl, hb⟩
  have L4 := L3.trans (hb.mono L3.size)
  clear hb
  go_wp2
  go_ret
  exact ⟨by rw [HE.out]; rfl, L4⟩

set_option linter.unusedSimpArgs false in
set_option maxRecDepth 3000 in
set_option maxHeartbeats 1000000 in
theorem iUnlike_any (a0 a1 a2 a3 : Option Addr) (c0 c1 c2 c3 : Nat) (l0 l1 l2 l3 : List (Int × Int)) (x y : Int) (w : World)
    (n0 : l0.length ≤ 1048576) (n1 : l1.length ≤ 1048576) (n2 : l2.length ≤ 1048576) (n3 : l3.length ≤ 1048576)
    (r0 : PRow w a0 l0) (r1 : PRow w a1 l1) (r2 : PRow w a2 l2) (r3 : PRow w a3 l3) :
    Calls Try.prog 35 #[.agg #[.slice a0 l0.length c0, .slice a1 l1.length c1, .slice a2 l2.length c2, .slice a3 l3.length c3], .int .i64 x, .int .i64 y] w fun e w' => e = .returned (.bool (unlikeA l0 l1 l2 l3 x y)) ∧ Below w.heap.size w w' := by
  have B0 := Box.new w (.slice a0 l0.length c0) (.slice a1 l1.length c1) (.slice a2 l2.length c2) (.slice a3 l3.length c3) 28
  have L0 : Below w.heap.size w (w.alloc (.cells #[.slice a0 l0.length c0, .slice a1 l1.length c1, .slice a2 l2.length c2, .slice a3 l3.length c3] 28)) := (Below.refl _ _).alloc (Nat.le_refl _) _
  go_enter Try.func35, Try.ntmps35
  go_wp2_with fail
  refine (iOpened_any _ _ _ _ _ _ _ _ _ _ _ _ _ n0 n1 n2 n3 (by exact r0.below L0 (Nat.le_refl _)) (by exact r1.below L0 (Nat.le_refl _)) (by exact r2.below L0 (Nat.le_refl _)) (by exact r3.below L0 (Nat.le_refl _))).mono ?_
  rintro e w1 ⟨rfl, hb⟩
  have B1 := B0.below hb B0.lt; have L1 := L0.trans (hb.mono L0.size)
  clear hb B0 L0
  cases hop : openA l0 l1 l2 l3
  · have HE : Hid (unlikeA l0 l1 l2 l3 x y = false) := by unfold Hid; rw [unlike_open, hop]; rfl
    go_wp2
    go_ret
    exact ⟨by rw [HE.out]; rfl, L1⟩
  go_wp2_with fail
  refine (iTermOk_any x _).mono ?_
  rintro e wz ⟨rfl, rfl⟩
  cases hx : tok x
  · have HE : Hid (unlikeA l0 l1 l2 l3 x y = false) := by unfold Hid; rw [unlike_open, hop, hx]; rfl
    go_wp2
    go_ret
    exact ⟨by rw [HE.out]; rfl, L1⟩
  go_wp2_with fail
  refine (iTermOk_any y _).mono ?_
  rintro e wz ⟨rfl, rfl⟩
  cases hy : tok y
  · have HE : Hid (unlikeA l0 l1 l2 l3 x y = false) := by unfold Hid; rw [unlike_open, hop, hx, hy]; rfl
    go_wp2
    go_ret
    exact ⟨by rw [HE.out]; rfl, L1⟩
  have HE : Hid (unlikeA l0 l1 l2 l3 x y = unlikeV (clsV l0) l1 l2 l3 ((clsV l0).getD x.toNat 0) ((clsV l0).getD y.toNat 0)) := by unfold Hid; rw [unlike_open, hop, hx, hy]; rfl
  have ha : asnB l0 l1 l2 l3 = true := by unfold openA at hop; rw [Bool.and_eq_true] at hop; exact hop.1
  have ht := asnB_toks ha
  have HLE : Hid ((headsV (clsV l0) l2 l3).length ≤ 1048576) := by have := headsA_le l0 l1 l2 l3; unfold headsA at this; rw [if_pos ha] at this; exact this
  have HC : Hid (Cls (clsV l0)) := Cls.all ht.1
  have hxx := tok_iff.1 hx
  have hyy := tok_iff.1 hy
  obtain ⟨x, rfl⟩ := Int.eq_ofNat_of_zero_le hxx.1
  obtain ⟨y, rfl⟩ := Int.eq_ofNat_of_zero_le hyy.1
  simp only [Int.toNat_natCast] at HE
  obtain ⟨hx0, hx1⟩ := hxx
  obtain ⟨hy0, hy1⟩ := hyy
  have hxn : x < 16 := by omega
  have hyn : y < 16 := by omega
  clear hx hy ha
  clear hop
  have x0 := B1.c0; have x1 := B1.c1; have x2 := B1.c2; have x3 := B1.c3
  go_wp2_with fail
  refine (classesOf_any _ _ _ _ _ _ _ _ _ _ _ _ _ n0 ht.1 (by exact r0.below L1 (Nat.le_refl _))).mono ?_
  rintro e w2 ⟨rfl, hb⟩
  have L2 := L1.trans (hb.mono L1.size)
  have B2 := B1.below hb B1.lt
  clear hb B1 L1 x0 x1 x2 x3
  unfold aV
  dsimp only
  iterate 4 go_step
  have Z := OwnI.zeros w2 67
  refine ws67 rfl (.tmp 7) (.tmp 23) rfl _ rfl (clsV l0) _ rfl Z HC.out.1 rfl ?_
  have C := Z.setAll HC.out.1
  have L3 := Below.setCells w2.heap.size L2.size (ic (clsV l0)) 0 _ (L2.alloc L2.size (.cells z16 67))
  have L23 := Below.setCells w2.heap.size (Nat.le_refl _) (ic (clsV l0)) 0 _ ((Below.refl w2.heap.size w2).alloc (Nat.le_refl _) (.cells z16 67))
  have B3 := B2.below L23 B2.lt
  have sb := B2.lt
  clear Z L2 L23 B2
  generalize (w2.alloc (.cells z16 67)).setCells w2.heap.size 0 (ic (clsV l0)) = w3 at *
  have eu := C.2.2 x hxn
  have ev := C.2.2 y hyn
  generalize clsV l0 = c at *
  have hU := HC.out.2 x hxn
  have hV := HC.out.2 y hyn
  generalize c.getD x 0 = u at *
  generalize c.getD y 0 = v at *
  have hq := C.1
  generalize w2.heap.size = q at *
  go_wp2_with fail
  have hS0 : Below w.heap.size w w3.drew ∧ w3.drew.cell? ⟨q, x, none⟩ = some (.int .i64 u) ∧ w3.drew.cell? ⟨q, y, none⟩ = some (.int .i64 v) := ⟨L3.drew, eu, ev⟩
  go_region_held3 (fun w' => Below w.heap.size w w' ∧ w'.cell? ⟨q, x, none⟩ = some (.int .i64 u) ∧ w'.cell? ⟨q, y, none⟩ = some (.int .i64 v))
    (first | exact hS0 | assumption | (refine ⟨?_, ?_, ?_⟩ <;> assumption))
    (first | (go_at_call 76; refine (coupleOf_any _ _ _).mono ?_; rintro e wz ⟨rfl, rfl⟩))
  replace L3 := hS0.1
  replace C := C.drew
  replace B3 := B3.drew
  have hq2 : q < w3.drew.heap.size := hq
  clear hS0 eu ev hq
  generalize w3.drew = w4 at *
  iterate 4 go_step
  refine wl67 rfl (.tmp 7) rfl _ rfl C HC.out.1 ?_
  have y0 := B3.c0; have y1 := B3.c1; have y2 := B3.c2; have y3 := B3.c3
  have HA : Hid (unlikeV c l1 l2 l3 u v = (amongV c l1 u v || partsV (headsV c l2 l3) u v)) := rfl
  go_wp2_with fail
  refine (among_any c _ _ l1 u v HC.out _ n1 ht.2.1 (by exact r1.below L3 (Nat.le_refl _)) hU hV).mono ?_
  rintro e w5 ⟨rfl, hb⟩
  have L5 := L3.trans (hb.mono L3.size); have C5 := C.below hb C.1; have B5 := B3.below hb B3.lt
  clear hb C L3 B3 y0 y1 y2 y3
  cases hm : amongV c l1 u v
  · rw [hm] at HA
    dsimp only
    iterate 4 go_step
    refine wl67g (by rfl) (.tmp 7) rfl _ rfl C5 HC.out.1 ?_
    have y0 := B5.c0; have y1 := B5.c1; have y2 := B5.c2; have y3 := B5.c3
    go_wp2_with fail
    refine (heads_any _ _ _ _ _ _ _ _ _ _ _ _ c HC.out.1 _ n2 n3 ht.2.2.1 ht.2.2.2 (by exact r2.below L5 (Nat.le_refl _)) (by exact r3.below L5 (Nat.le_refl _))).mono ?_
    rintro e w6 ⟨ag, cg, rfl, G, hb⟩
    have L6 := L5.trans (hb.mono L5.size)
    clear hb L5 C5 B5 y0 y1 y2 y3
    go_wp2_with fail
    refine (parts_any _ _ _ _ _ (headsV c l2 l3) u v _ HLE.out (by exact G) hU hV).mono ?_
    rintro e wz ⟨rfl, rfl⟩
    go_wp2
    go_ret
    exact ⟨by rw [HE.out, HA.out]; rfl, L6⟩
  · rw [hm] at HA
    go_wp2
    go_ret
    exact ⟨by rw [HE.out, HA.out]; rfl, L5⟩

end Go.Proofs.Ytiolgbckichneaa
