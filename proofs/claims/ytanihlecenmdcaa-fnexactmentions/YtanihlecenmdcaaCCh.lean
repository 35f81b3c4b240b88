/-
  What a program may change, and the contract of spec.l6changes.
-/
import Derived.Test.YtanihlecenmdcaaCEv
import Derived.Test.YtanihlecenmdcaaCMk
import Derived.Outline
import Derived.Deep.DeepCutAuto
namespace Go.Proofs.Ytanihlecenmdcaa
open Go.RowKit

def chB (c : Cm) : Bool := decide (c.k = 0 ∨ c.k = 1 ∨ c.k = 3)
def chV (l : List Cm) (j : Nat) : Bool := (flats l).any fun c => chB c && decide (c.x = (j : Int))
def chOk (l : List Cm) : Prop := ∀ c ∈ flats l, chB c = true → isVar c.x = true
theorem chV_take {l : List Cm} {k : Nat} (hk : k < l.length) (j : Nat) : chV (l.take (k + 1)) j = (chV (l.take k) j || ((chB (l.getD k Cm.zero) && decide ((l.getD k Cm.zero).x = (j : Int))) || (chV (l.getD k Cm.zero).A j || chV (l.getD k Cm.zero).B j))) := by
  unfold chV
  rw [flats_take_succ hk]
  simp
theorem chOk_mem {l : List Cm} {c : Cm} (h : chOk l) (hc : c ∈ l) : (chB c = true → isVar c.x = true) ∧ chOk c.A ∧ chOk c.B := by
  have key : ∀ d, d ∈ c.flat → d ∈ flats l := by
    intro d hd
    induction l with
    | nil => simp at hc
    | cons e l ih =>
      rw [flats_cons]
      rcases List.mem_cons.1 hc with rfl | hc
      · exact List.mem_append_left _ hd
      · exact List.mem_append_right _ (ih (fun x hx => h x (by rw [flats_cons]; exact List.mem_append_right _ hx)) hc)
  rw [Cm.flat_eq] at key
  exact ⟨h c (key c (List.mem_cons_self ..)), fun d hd => h d (key d (List.mem_cons_of_mem _ (List.mem_append_left _ hd))), fun d hd => h d (key d (List.mem_cons_of_mem _ (List.mem_append_right _ hd)))⟩

/-- Six flags in block b. -/
def FRow (w : World) (b : Nat) (f : Nat → Bool) : Prop := b < w.heap.size ∧ ∀ j, j < 6 → w.cell? ⟨b, j, none⟩ = some (.bool (f j)) ∧ w.frozen? ⟨b, j, none⟩ = false
theorem FRow.below {w w' : World} {b B : Nat} {f : Nat → Bool} (h : FRow w b f) (hb : Below B w w') (hB : b < B) : FRow w' b f :=
  ⟨Nat.lt_of_lt_of_le h.1 hb.size, fun j hj => ⟨(hb.cell (p := ⟨b, j, none⟩) hB).trans (h.2 j hj).1, (hb.frozen (p := ⟨b, j, none⟩) hB).trans (h.2 j hj).2⟩⟩
theorem FRow.set {w : World} {b x : Nat} {f : Nat → Bool} (h : FRow w b f) (_hx : x < 6) : FRow (w.setCell ⟨b, x, none⟩ (.bool true)) b (fun j => f j || decide (x = j)) := by
  refine ⟨by simpa using h.1, fun j hj => ⟨?_, by simpa using (h.2 j hj).2⟩⟩
  rw [cell_set (h.2 j hj).1]
  by_cases e : x = j
  · subst e; simp
  · simp [e]
theorem FRow.congr {w : World} {b : Nat} {f g : Nat → Bool} (h : FRow w b f) (e : ∀ j, f j = g j) : FRow w b g := ⟨h.1, fun j hj => by rw [← e j]; exact h.2 j hj⟩

theorem B10.out10 {lo hi : Nat} {w w' : World} {b : Nat} {v0 v1 v2 v3 v4 v5 v6 v7 v8 v9 : Value} (h : B10 w b v0 v1 v2 v3 v4 v5 v6 v7 v8 v9) (ho : Out lo hi w w') (hr : b < lo ∨ hi ≤ b) : B10 w' b v0 v1 v2 v3 v4 v5 v6 v7 v8 v9 := by
  obtain ⟨c, f⟩ := ho.cells h.lt hr
  exact ⟨Nat.lt_of_lt_of_le h.lt ho.size, (c _).trans h.c0, (c _).trans h.c1, (c _).trans h.c2, (c _).trans h.c3, (c _).trans h.c4, (c _).trans h.c5, (c _).trans h.c6, (c _).trans h.c7, (c _).trans h.c8, (c _).trans h.c9, (f _).trans h.f0, (f _).trans h.f1, (f _).trans h.f2, (f _).trans h.f3, (f _).trans h.f4, (f _).trans h.f5, (f _).trans h.f6, (f _).trans h.f7, (f _).trans h.f8, (f _).trans h.f9⟩

theorem Eqv.of_out {lo hi lo' hi' : Nat} {w w' : World} (h : Out lo' hi' w w') (h1 : hi ≤ lo') (h2 : hi ≤ w.heap.size) : Eqv lo hi w w' := fun b o _ g2 => (h.cells (by omega) (.inl (by omega))).1 o

/-- What l6changes does for one list. -/
def ChS (l : List Cm) : Prop := ∀ (w : World) (lo hi bi cp cap : Nat) (a : Option Addr) (f : Nat → Bool), CRow w lo hi a l → hi ≤ bi → FRow w bi f → chOk l → cnts l ≤ 1048576 →
    Calls Try.prog 98 #[.slice (some ⟨bi, 0, none⟩) 6 cp, .slice a l.length cap] w fun e w' => e = .returned (.tuple #[]) ∧ FRow w' bi (fun j => f j || chV l j) ∧ Out bi (bi + 1) w w'

set_option maxRecDepth 20000 in
set_option maxHeartbeats 4000000 in
theorem l6changes_any : ∀ l : List Cm, ChS l := by
  refine Cm.ind fun l ih => ?_
  intro w lo hi bi cp cap a f hr hh hf hok hs
  obtain ⟨hm, hr⟩ := hr
  have hn : l.length ≤ 1048576 := Nat.le_trans (len_le_cnts l) hs
  have HCELL : Hid (∀ k, k < l.length → ∃ b o, a = some ⟨b, o, none⟩ ∧ lo ≤ b ∧ b < hi ∧ CAt w lo hi b (o + k * 10) (l.getD k Cm.zero)) := by
    intro k hk
    rcases hr with rfl | ⟨b, o, rfl, g1, g2, hc⟩
    · simp at hk
    · exact ⟨b, o, rfl, g1, g2, hc.get k hk⟩
  clear hr
  have HIH : Hid (∀ k, k < l.length → ChS (l.getD k Cm.zero).A ∧ ChS (l.getD k Cm.zero).B ∧ (l.getD k Cm.zero).cnt ≤ 1048576 ∧ (chB (l.getD k Cm.zero) = true → isVar (l.getD k Cm.zero).x = true) ∧ chOk (l.getD k Cm.zero).A ∧ chOk (l.getD k Cm.zero).B) := fun k hk => ⟨(ih _ (mem_getD hk)).1, (ih _ (mem_getD hk)).2, by have := cnt_le_cnts hk; omega, chOk_mem hok (mem_getD hk)⟩
  have HST : Hid (∀ k, k < l.length → ∀ j, chV (l.take (k + 1)) j = (chV (l.take k) j || ((chB (l.getD k Cm.zero) && decide ((l.getD k Cm.zero).x = (j : Int))) || (chV (l.getD k Cm.zero).A j || chV (l.getD k Cm.zero).B j)))) := fun k hk j => chV_take hk j
  have HTK : Hid (∀ k, k = l.length → chV (l.take k) = chV l) := fun k hk => by rw [hk, List.take_length]
  have HF : Hid (FRow w bi fun j => f j || chV (l.take 0) j) := hf.congr fun j => by simp [chV, flats_nil]
  have hbi := hf.1
  clear ih hs hm hok hf
  generalize hN : l.length = n at *
  clear hN
  go_enter Try.func98, Try.ntmps98
  go_wp2
  go_loopw [4] (fun i wr => ∃ k : Nat, k ≤ n ∧ i = .int .i64 k ∧ Hid (FRow wr bi fun j => f j || chV (l.take k) j) ∧ Out bi (bi + 1) w wr) (fun i _ => n - (intOf i).toNat)
  case atStart => exact ⟨0, Nat.zero_le _, rfl, HF, Out.refl _ _ _⟩
  case round =>
    clear HF
    obtain ⟨k, hk, rfl, hfr, hbw⟩ := hrel
    by_cases hlt : k < n
    · obtain ⟨b, o, rfl, e1, e2, hc⟩ := HCELL.out k hlt
      obtain ⟨HA, HB, hcn, hvx, hoA, hoB⟩ := HIH.out k hlt
      have hh0 : hi ≤ w.heap.size := by omega
      have F := Fit.of hcn
      have HS2 : Hid (∀ j, chV (l.take (k + 1)) j = (chV (l.take k) j || ((chB (l.getD k Cm.zero) && decide ((l.getD k Cm.zero).x = (j : Int))) || (chV (l.getD k Cm.zero).A j || chV (l.getD k Cm.zero).B j)))) := HST.out k hlt
      have hc' : CAt wr lo hi b (o + k * 10) (l.getD k Cm.zero) := hc.keep (Eqv.of_out hbw hh hh0) (Nat.le_refl _) (Nat.le_refl _) fun j _ _ => (hbw.cells (by omega) (.inl (by omega))).1 j
      obtain ⟨a0, a1, a2, a3, aA, aB, c0, c1, c2, c3, cA, cB, X, V⟩ := hc'.out
      clear hc hc'
      generalize l.getD k Cm.zero = c at *
      have x0 := X.e0; have x1 := X.e1; have x2 := X.e2; have x3 := X.e3; have x4 := X.e4; have x5 := X.e5; have x6 := X.e6; have x7 := X.e7; have x8 := X.e8; have x9 := X.e9
      clear X
      have hkn : (k : Int) < (n : Int) := by omega
      have hbr : bi < wr.heap.size := Nat.lt_of_lt_of_le hbi hbw.size
      have Y := B10.new wr (.int .i64 c.k) (.int .i64 c.x) (.int .i64 c.y) (.bool c.q) (.slice a0 c.l0.length c0) (.slice a1 c.l1.length c1) (.slice a2 c.l2.length c2) (.slice a3 c.l3.length c3) (.slice aA c.A.length cA) (.slice aB c.B.length cB) 59
      have L1 : Below wr.heap.size wr (wr.alloc (.cells #[.int .i64 c.k, .int .i64 c.x, .int .i64 c.y, .bool c.q, .slice a0 c.l0.length c0, .slice a1 c.l1.length c1, .slice a2 c.l2.length c2, .slice a3 c.l3.length c3, .slice aA c.A.length cA, .slice aB c.B.length cB] 59)) := (Below.refl _ _).alloc (Nat.le_refl _) _
      have U1 : Out bi (bi + 1) w (wr.alloc (.cells #[.int .i64 c.k, .int .i64 c.x, .int .i64 c.y, .bool c.q, .slice a0 c.l0.length c0, .slice a1 c.l1.length c1, .slice a2 c.l2.length c2, .slice a3 c.l3.length c3, .slice aA c.A.length cA, .slice aB c.B.length cB] 59)) := hbw.trans (Out.ofBelow L1)
      have R1 := hfr.out.below L1 hbr
      have rA := V.rA.below L1 (by omega)
      have rB := V.rB.below L1 (by omega)
      clear V L1
      go_upto_region 4 with fail
      clear x0 x1 x2 x3 x4 x5 x6 x7 x8 x9
      generalize wr.alloc (.cells #[.int .i64 c.k, .int .i64 c.x, .int .i64 c.y, .bool c.q, .slice a0 c.l0.length c0, .slice a1 c.l1.length c1, .slice a2 c.l2.length c2, .slice a3 c.l3.length c3, .slice aA c.A.length cA, .slice aB c.B.length cB] 59) = W1 at *
      generalize wr.heap.size = N at *
      have y0 := Y.c0; have y1 := Y.c1
      by_cases h0 : c.k = 0
      · have HCB : Hid (chB c = true) := by show chB c = true; unfold chB; simp [h0]
        have hv := hvx HCB.out
        simp only [isVar, decide_eq_true_eq] at hv
        obtain ⟨kx, hkx⟩ := Int.eq_ofNat_of_zero_le (show 0 ≤ c.x by omega)
        have HKX : Hid (c.x = (kx : Int)) := hkx
        rw [hkx] at y1
        rw [h0] at y0
        have hk6 : (kx : Int) < 6 := by omega
        have hkx6 : kx < 6 := by omega
        have w1 := (R1.2 kx hkx6).1
        have w2 := (R1.2 kx hkx6).2
        have RZ := R1.set hkx6
        have h : Out bi (bi + 1) W1 (W1.setCell ⟨bi, kx, none⟩ (.bool true)) := Out.set bi kx W1 (.bool true)
        have UZ := U1.trans h
        have YZ := Y.out10 h (by omega)
        have rAZ := rA.keep (Eqv.of_out h hh (by have := R1.1; omega)) (Nat.le_refl _) (Nat.le_refl _)
        have rBZ := rB.keep (Eqv.of_out h hh (by have := R1.1; omega)) (Nat.le_refl _) (Nat.le_refl _)
        clear hv hkx hvx R1 U1 Y rA rB h
        go_upto_region 6 with fail
        clear w1 w2
        generalize W1.setCell ⟨bi, kx, none⟩ (.bool true) = WZ at *
        clear y0 y1
        have z8 := YZ.c8
        go_wp2_with fail
        clear z8
        refine (HA _ lo hi bi cp cA aA _ rAZ hh RZ hoA F.nA).mono ?_
        rintro e W2 ⟨rfl, R', h⟩
        have U3 := UZ.trans h
        have Y3 := YZ.out10 h (by omega)
        have rB3 := rBZ.keep (Eqv.of_out h hh (by have := RZ.1; omega)) (Nat.le_refl _) (Nat.le_refl _)
        clear RZ UZ YZ rAZ rBZ h
        have z9 := Y3.c9
        go_wp2_with fail
        clear z9
        refine (HB _ lo hi bi cp cB aB _ rB3 hh R' hoB F.nB).mono ?_
        rintro e W3 ⟨rfl, R'', h⟩
        have U4 := U3.trans h
        have HN : Hid (FRow W3 bi fun j => f j || chV (l.take (k + 1)) j) := R''.congr fun j => by rw [HS2.out j]; rw [HCB.out, HKX.out, show decide ((kx : Int) = (j : Int)) = decide (kx = j) by rw [decide_eq_decide]; omega]; simp [Bool.or_assoc]
        clear R' R'' h U3 Y3 rB3
        go_wp2
        go_roundw
        case rel => exact ⟨k + 1, by omega, by go_num, HN, U4⟩
        case measure => simp [intOf]; omega
      by_cases h1 : c.k = 1
      · have HCB : Hid (chB c = true) := by show chB c = true; unfold chB; simp [h1]
        have hv := hvx HCB.out
        simp only [isVar, decide_eq_true_eq] at hv
        obtain ⟨kx, hkx⟩ := Int.eq_ofNat_of_zero_le (show 0 ≤ c.x by omega)
        have HKX : Hid (c.x = (kx : Int)) := hkx
        rw [hkx] at y1
        rw [h1] at y0
        have hk6 : (kx : Int) < 6 := by omega
        have hkx6 : kx < 6 := by omega
        have w1 := (R1.2 kx hkx6).1
        have w2 := (R1.2 kx hkx6).2
        have RZ := R1.set hkx6
        have h : Out bi (bi + 1) W1 (W1.setCell ⟨bi, kx, none⟩ (.bool true)) := Out.set bi kx W1 (.bool true)
        have UZ := U1.trans h
        have YZ := Y.out10 h (by omega)
        have rAZ := rA.keep (Eqv.of_out h hh (by have := R1.1; omega)) (Nat.le_refl _) (Nat.le_refl _)
        have rBZ := rB.keep (Eqv.of_out h hh (by have := R1.1; omega)) (Nat.le_refl _) (Nat.le_refl _)
        clear hv hkx hvx R1 U1 Y rA rB h
        go_upto_region 6 with fail
        clear w1 w2
        generalize W1.setCell ⟨bi, kx, none⟩ (.bool true) = WZ at *
        clear y0 y1
        have z8 := YZ.c8
        go_wp2_with fail
        clear z8
        refine (HA _ lo hi bi cp cA aA _ rAZ hh RZ hoA F.nA).mono ?_
        rintro e W2 ⟨rfl, R', h⟩
        have U3 := UZ.trans h
        have Y3 := YZ.out10 h (by omega)
        have rB3 := rBZ.keep (Eqv.of_out h hh (by have := RZ.1; omega)) (Nat.le_refl _) (Nat.le_refl _)
        clear RZ UZ YZ rAZ rBZ h
        have z9 := Y3.c9
        go_wp2_with fail
        clear z9
        refine (HB _ lo hi bi cp cB aB _ rB3 hh R' hoB F.nB).mono ?_
        rintro e W3 ⟨rfl, R'', h⟩
        have U4 := U3.trans h
        have HN : Hid (FRow W3 bi fun j => f j || chV (l.take (k + 1)) j) := R''.congr fun j => by rw [HS2.out j]; rw [HCB.out, HKX.out, show decide ((kx : Int) = (j : Int)) = decide (kx = j) by rw [decide_eq_decide]; omega]; simp [Bool.or_assoc]
        clear R' R'' h U3 Y3 rB3
        go_wp2
        go_roundw
        case rel => exact ⟨k + 1, by omega, by go_num, HN, U4⟩
        case measure => simp [intOf]; omega
      by_cases h3 : c.k = 3
      · have HCB : Hid (chB c = true) := by show chB c = true; unfold chB; simp [h3]
        have hv := hvx HCB.out
        simp only [isVar, decide_eq_true_eq] at hv
        obtain ⟨kx, hkx⟩ := Int.eq_ofNat_of_zero_le (show 0 ≤ c.x by omega)
        have HKX : Hid (c.x = (kx : Int)) := hkx
        rw [hkx] at y1
        rw [h3] at y0
        have hk6 : (kx : Int) < 6 := by omega
        have hkx6 : kx < 6 := by omega
        have w1 := (R1.2 kx hkx6).1
        have w2 := (R1.2 kx hkx6).2
        have RZ := R1.set hkx6
        have h : Out bi (bi + 1) W1 (W1.setCell ⟨bi, kx, none⟩ (.bool true)) := Out.set bi kx W1 (.bool true)
        have UZ := U1.trans h
        have YZ := Y.out10 h (by omega)
        have rAZ := rA.keep (Eqv.of_out h hh (by have := R1.1; omega)) (Nat.le_refl _) (Nat.le_refl _)
        have rBZ := rB.keep (Eqv.of_out h hh (by have := R1.1; omega)) (Nat.le_refl _) (Nat.le_refl _)
        clear hv hkx hvx R1 U1 Y rA rB h
        go_upto_region 6 with fail
        clear w1 w2
        generalize W1.setCell ⟨bi, kx, none⟩ (.bool true) = WZ at *
        clear y0 y1
        have z8 := YZ.c8
        go_wp2_with fail
        clear z8
        refine (HA _ lo hi bi cp cA aA _ rAZ hh RZ hoA F.nA).mono ?_
        rintro e W2 ⟨rfl, R', h⟩
        have U3 := UZ.trans h
        have Y3 := YZ.out10 h (by omega)
        have rB3 := rBZ.keep (Eqv.of_out h hh (by have := RZ.1; omega)) (Nat.le_refl _) (Nat.le_refl _)
        clear RZ UZ YZ rAZ rBZ h
        have z9 := Y3.c9
        go_wp2_with fail
        clear z9
        refine (HB _ lo hi bi cp cB aB _ rB3 hh R' hoB F.nB).mono ?_
        rintro e W3 ⟨rfl, R'', h⟩
        have U4 := U3.trans h
        have HN : Hid (FRow W3 bi fun j => f j || chV (l.take (k + 1)) j) := R''.congr fun j => by rw [HS2.out j]; rw [HCB.out, HKX.out, show decide ((kx : Int) = (j : Int)) = decide (kx = j) by rw [decide_eq_decide]; omega]; simp [Bool.or_assoc]
        clear R' R'' h U3 Y3 rB3
        go_wp2
        go_roundw
        case rel => exact ⟨k + 1, by omega, by go_num, HN, U4⟩
        case measure => simp [intOf]; omega
      have HCB : Hid (chB c = false) := by show chB c = false; unfold chB; simp [h0, h1, h3]
      have Y1 := Y
      have rA1 := rA
      have rB1 := rB
      obtain ⟨kk, hkk⟩ : ∃ kk, c.k = kk := ⟨_, rfl⟩
      rw [hkk] at y0 h0 h1 h3
      have b0 : (kk == 0) = false := by simp [h0]
      have b1 : (kk == 1) = false := by simp [h1]
      have b3 : (kk == 3) = false := by simp [h3]
      clear Y rA rB hvx hkk h0 h1 h3
      go_upto_region 6 with fail
      clear y0 y1
      have z8 := Y1.c8
      go_wp2_with fail
      clear z8
      refine (HA _ lo hi bi cp cA aA _ rA1 hh R1 hoA F.nA).mono ?_
      rintro e W2 ⟨rfl, R', h⟩
      have U3 := U1.trans h
      have Y3 := Y1.out10 h (by omega)
      have rB3 := rB1.keep (Eqv.of_out h hh (by have := R1.1; omega)) (Nat.le_refl _) (Nat.le_refl _)
      clear R1 U1 Y1 rA1 rB1 h
      have z9 := Y3.c9
      go_wp2_with fail
      clear z9
      refine (HB _ lo hi bi cp cB aB _ rB3 hh R' hoB F.nB).mono ?_
      rintro e W3 ⟨rfl, R'', h⟩
      have U4 := U3.trans h
      have HN : Hid (FRow W3 bi fun j => f j || chV (l.take (k + 1)) j) := R''.congr fun j => by rw [HS2.out j]; rw [HCB.out]; simp [Bool.or_assoc]
      clear R' R'' h U3 Y3 rB3
      go_wp2
      go_roundw
      case rel => exact ⟨k + 1, by omega, by go_num, HN, U4⟩
      case measure => simp [intOf]; omega
    · go_wp2
      obtain rfl : k = n := by omega
      go_end0
      exact ⟨rfl, hfr.out.congr fun j => by rw [HTK.out k rfl], hbw⟩

end Go.Proofs.Ytanihlecenmdcaa
