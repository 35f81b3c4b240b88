/-
  What a program mentions, and the contract of spec.l6mentions.
-/
import Derived.Test.YtanihlecenmdcaaCCi
namespace Go.Proofs.Ytanihlecenmdcaa
open Go.RowKit

def mnB (c : Cm) (j : Nat) : Bool := decide (c.x = (j : Int)) || decide (c.y = (j : Int)) || (decide (1 ≤ j ∧ j < 6) && usedV c.l0 c.l1 c.l2 c.l3 j)
def mnV (l : List Cm) (j : Nat) : Bool := (flats l).any fun c => mnB c j
def mnOk (l : List Cm) : Prop := ∀ c ∈ flats l, (0 ≤ c.x ∧ c.x ≤ 5) ∧ (0 ≤ c.y ∧ c.y ≤ 5) ∧ asnB c.l0 c.l1 c.l2 c.l3 = true
theorem mnV_take {l : List Cm} {k : Nat} (hk : k < l.length) (j : Nat) : mnV (l.take (k + 1)) j = (mnV (l.take k) j || (mnB (l.getD k Cm.zero) j || (mnV (l.getD k Cm.zero).A j || mnV (l.getD k Cm.zero).B j))) := by
  unfold mnV
  rw [flats_take_succ hk]
  simp
theorem flat_in {l : List Cm} {c : Cm} (hc : c ∈ l) : ∀ d, d ∈ c.flat → d ∈ flats l := by
  intro d hd
  induction l with
  | nil => simp at hc
  | cons e l ih =>
    rw [flats_cons]
    rcases List.mem_cons.1 hc with rfl | hc
    · exact List.mem_append_left _ hd
    · exact List.mem_append_right _ (ih hc)
theorem mnOk_mem {l : List Cm} {c : Cm} (h : mnOk l) (hc : c ∈ l) : ((0 ≤ c.x ∧ c.x ≤ 5) ∧ (0 ≤ c.y ∧ c.y ≤ 5) ∧ asnB c.l0 c.l1 c.l2 c.l3 = true) ∧ mnOk c.A ∧ mnOk c.B := by
  have key := flat_in hc
  rw [Cm.flat_eq] at key
  exact ⟨h c (key c (List.mem_cons_self ..)), fun d hd => h d (key d (List.mem_cons_of_mem _ (List.mem_append_left _ hd))), fun d hd => h d (key d (List.mem_cons_of_mem _ (List.mem_append_right _ hd)))⟩
def orTo (f : Nat → Bool) (u : Nat → Bool) (k : Nat) (j : Nat) : Bool := f j || (decide (1 ≤ j ∧ j < k) && u j)
theorem FRow.or {w : World} {b k : Nat} {f u : Nat → Bool} (h : FRow w b (orTo f u k)) (hk : 1 ≤ k) (_hk6 : k < 6) (v : Bool) (hv : v = (orTo f u k k || u k)) : FRow (w.setCell ⟨b, k, none⟩ (.bool v)) b (orTo f u (k + 1)) := by
  refine ⟨by simpa using h.1, fun j hj => ⟨?_, by simpa using (h.2 j hj).2⟩⟩
  rw [cell_set (h.2 j hj).1]
  by_cases e : k = j
  · subst e
    subst hv
    simp [orTo, hk]
  · have : decide (1 ≤ j ∧ j < k + 1) = decide (1 ≤ j ∧ j < k) := by rw [decide_eq_decide]; omega
    simp [e, orTo, this]

/-- What l6mentions does for one list. -/
def MnS (l : List Cm) : Prop := ∀ (w : World) (lo hi bi cp cap : Nat) (a : Option Addr) (f : Nat → Bool), CRow w lo hi a l → hi ≤ bi → FRow w bi f → mnOk l → cnts l ≤ 1048576 →
    Calls Try.prog 115 #[.slice (some ⟨bi, 0, none⟩) 6 cp, .slice a l.length cap] w fun e w' => e = .returned (.tuple #[]) ∧ FRow w' bi (fun j => f j || mnV l j) ∧ Out bi (bi + 1) w w'

set_option maxRecDepth 20000 in
set_option maxHeartbeats 4000000 in
theorem l6mentions_any : ∀ l : List Cm, MnS l := by
  refine Cm.ind fun l ih => ?_
  intro w lo hi bi cp cap a f hr hh hf hok hs
  obtain ⟨hm, hr⟩ := hr
  have hn : l.length ≤ 1048576 := Nat.le_trans (len_le_cnts l) hs
  have HCELL : Hid (∀ k, k < l.length → ∃ b o, a = some ⟨b, o, none⟩ ∧ lo ≤ b ∧ b < hi ∧ CAt w lo hi b (o + k * 10) (l.getD k Cm.zero)) := by
    intro k hk
    rcases hr with rfl | ⟨b, o, rfl, g1, g2, hc⟩
    · simp at hk
    · exact ⟨b, o, rfl, g1, g2, hc.get k hk⟩
  clear hr
  have HIH : Hid (∀ k, k < l.length → MnS (l.getD k Cm.zero).A ∧ MnS (l.getD k Cm.zero).B ∧ (l.getD k Cm.zero).cnt ≤ 1048576 ∧ ((0 ≤ (l.getD k Cm.zero).x ∧ (l.getD k Cm.zero).x ≤ 5) ∧ (0 ≤ (l.getD k Cm.zero).y ∧ (l.getD k Cm.zero).y ≤ 5) ∧ asnB (l.getD k Cm.zero).l0 (l.getD k Cm.zero).l1 (l.getD k Cm.zero).l2 (l.getD k Cm.zero).l3 = true) ∧ mnOk (l.getD k Cm.zero).A ∧ mnOk (l.getD k Cm.zero).B) := fun k hk => ⟨(ih _ (mem_getD hk)).1, (ih _ (mem_getD hk)).2, by have := cnt_le_cnts hk; omega, mnOk_mem hok (mem_getD hk)⟩
  have HST : Hid (∀ k, k < l.length → ∀ j, mnV (l.take (k + 1)) j = (mnV (l.take k) j || (mnB (l.getD k Cm.zero) j || (mnV (l.getD k Cm.zero).A j || mnV (l.getD k Cm.zero).B j)))) := fun k hk j => mnV_take hk j
  have HTK : Hid (∀ k, k = l.length → mnV (l.take k) = mnV l) := fun k hk => by rw [hk, List.take_length]
  have HF : Hid (FRow w bi fun j => f j || mnV (l.take 0) j) := hf.congr fun j => by simp [mnV, flats_nil]
  have hbi := hf.1
  clear ih hs hm hok hf
  generalize hN : l.length = n at *
  clear hN
  go_enter Try.func115, Try.ntmps115
  go_wp2
  go_loopw [4] (fun i wr => ∃ k : Nat, k ≤ n ∧ i = .int .i64 k ∧ Hid (FRow wr bi fun j => f j || mnV (l.take k) j) ∧ Out bi (bi + 1) w wr) (fun i _ => n - (intOf i).toNat)
  case atStart => exact ⟨0, Nat.zero_le _, rfl, HF, Out.refl _ _ _⟩
  case round =>
    clear HF
    obtain ⟨k, hk, rfl, hfr, hbw⟩ := hrel
    by_cases hlt : k < n
    · obtain ⟨b, o, rfl, e1, e2, hc⟩ := HCELL.out k hlt
      obtain ⟨HA, HB, hcn, ⟨⟨hx0, hx5⟩, ⟨hy0, hy5⟩, has⟩, hoA, hoB⟩ := HIH.out k hlt
      have hh0 : hi ≤ w.heap.size := by omega
      have F := Fit.of hcn
      have HS2 : Hid (∀ j, mnV (l.take (k + 1)) j = (mnV (l.take k) j || (mnB (l.getD k Cm.zero) j || (mnV (l.getD k Cm.zero).A j || mnV (l.getD k Cm.zero).B j)))) := HST.out k hlt
      have hc' : CAt wr lo hi b (o + k * 10) (l.getD k Cm.zero) := hc.keep (Eqv.of_out hbw hh hh0) (Nat.le_refl _) (Nat.le_refl _) fun j _ _ => (hbw.cells (by omega) (.inl (by omega))).1 j
      obtain ⟨a0, a1, a2, a3, aA, aB, c0, c1, c2, c3, cA, cB, X, V⟩ := hc'.out
      clear hc hc'
      generalize l.getD k Cm.zero = c at *
      have hkn : (k : Int) < (n : Int) := by omega
      obtain ⟨kx, hkx⟩ := Int.eq_ofNat_of_zero_le hx0
      obtain ⟨ky, hky⟩ := Int.eq_ofNat_of_zero_le hy0
      have HKX : Hid (c.x = (kx : Int)) := hkx
      have HKY : Hid (c.y = (ky : Int)) := hky
      have kx6 : kx < 6 := by omega
      have ky6 : ky < 6 := by omega
      have kx6' : (kx : Int) < 6 := by omega
      have ky6' : (ky : Int) < 6 := by omega
      have x1 := X.e1; have x2 := X.e2
      rw [hkx] at x1; rw [hky] at x2
      clear hx0 hx5 hy0 hy5
      have hbr : bi < wr.heap.size := Nat.lt_of_lt_of_le hbi hbw.size
      have R0 := hfr.out
      have HU : Hid (mnB c = fun (j : Nat) => decide (c.x = (j : Int)) || decide (c.y = (j : Int)) || (decide (1 ≤ j ∧ j < 6) && usedV c.l0 c.l1 c.l2 c.l3 j)) := rfl
      have w0 := (R0.2 kx kx6).1; have w1 := (R0.2 kx kx6).2
      go_upto_region 4 with fail
      clear w0 w1 x1 x2
      have h : Out bi (bi + 1) wr (wr.setCell ⟨bi, kx, none⟩ (.bool true)) := Out.set bi kx wr (.bool true)
      have R1 := R0.set kx6
      have U1 := hbw.trans h
      have hb6 : b < wr.heap.size := by omega
      have ec := (Out.cells (p := b) h hb6 (.inl (by omega))).1
      have V1 := V.keep (Eqv.of_out h hh (by omega)) (Nat.le_refl _) (Nat.le_refl _)
      have x2 := X.e2; have x4 := X.e4; have x5 := X.e5; have x6 := X.e6; have x7 := X.e7; have x8 := X.e8; have x9 := X.e9
      rw [← ec] at x2 x4 x5 x6 x7 x8 x9
      have s1 : wr.heap.size ≤ (wr.setCell ⟨bi, kx, none⟩ (.bool true)).heap.size := h.size
      clear X V R0 h hbw ec hfr
      generalize wr.setCell ⟨bi, kx, none⟩ (.bool true) = W1 at *
      rw [hky] at x2
      have w0 := (R1.2 ky ky6).1; have w1 := (R1.2 ky ky6).2
      go_upto_region 5 with fail
      clear w0 w1
      have h : Out bi (bi + 1) W1 (W1.setCell ⟨bi, ky, none⟩ (.bool true)) := Out.set bi ky W1 (.bool true)
      have R2 := R1.set ky6
      have U2 := U1.trans h
      have ec := (Out.cells (p := b) h (by omega) (.inl (by omega))).1
      have V2 := V1.keep (Eqv.of_out h hh (by omega)) (Nat.le_refl _) (Nat.le_refl _)
      rw [← ec] at x2 x4 x5 x6 x7 x8 x9
      have s2 := h.size
      clear V1 R1 h U1 ec x2
      generalize W1.setCell ⟨bi, ky, none⟩ (.bool true) = W2 at *
      go_wp2_with fail
      clear x4 x5 x6 x7
      refine (l1used_any _ _ _ _ _ _ _ _ _ _ _ _ _ F.n0 F.n1 F.n2 F.n3 (V2.p0.row (by omega)) (V2.p1.row (by omega)) (V2.p2.row (by omega)) (V2.p3.row (by omega)) has).mono ?_
      rintro e W3 ⟨bI, rfl, hI, I, hb⟩
      have U3 := U2.trans (Out.ofBelow (lo := bi) (hi := bi + 1) hb)
      have R3 := R2.below hb R2.1
      have V3 := V2.keep (Eqv.of_below hb (by omega)) (Nat.le_refl _) (Nat.le_refl _)
      rw [← hb.cell (p := ⟨b, o + k * 10 + 8, none⟩) (by show b < W2.heap.size; omega)] at x8
      rw [← hb.cell (p := ⟨b, o + k * 10 + 9, none⟩) (by show b < W2.heap.size; omega)] at x9
      have s3 := hb.size
      have hne : bI ≠ bi := by have := R2.1; omega
      clear hb R2 U2 V2 hI has
      generalize usedV c.l0 c.l1 c.l2 c.l3 = u at *
      have R4 : FRow W3 bi (orTo (fun j => ((f j || mnV (l.take k) j) || decide (kx = j)) || decide (ky = j)) u 1) := R3.congr fun j => by simp [orTo]; omega
      clear R3
      have HG : Hid (∀ j, orTo (fun j => ((f j || mnV (l.take k) j) || decide (kx = j)) || decide (ky = j)) u 6 j = (f j || mnV (l.take k) j || mnB c j)) := fun j => by
        rw [HU.out, HKX.out, HKY.out]
        simp only [orTo]
        rw [show decide ((kx : Int) = (j : Int)) = decide (kx = j) by rw [decide_eq_decide]; omega, show decide ((ky : Int) = (j : Int)) = decide (ky = j) by rw [decide_eq_decide]; omega]
        simp [Bool.or_assoc]
      generalize hgg : (fun j => ((f j || mnV (l.take k) j) || decide (kx = j)) || decide (ky = j)) = g at *
      clear hgg HU
      go_upto_region 7 with fail
      go_loopw [6] (fun i wq => ∃ m : Nat, 1 ≤ m ∧ m ≤ 6 ∧ i = .int .i64 m ∧ FRow wq bi (orTo g u m) ∧ Out bi (bi + 1) W3 wq) (fun i _ => 6 - (intOf i).toNat)
      case atStart => exact ⟨1, by omega, by omega, rfl, R4, Out.refl _ _ _⟩
      case round =>
        clear R4
        obtain ⟨m, hm1, hm6, rfl, RQ, UQ⟩ := hrel
        by_cases hmt : m < 6
        · have hq := (RQ.2 m hmt).1
          have hz := (RQ.2 m hmt).2
          have hy := (Out.cells (p := bI) UQ I.1 (by omega)).1 m
          rw [(I.2 m (by omega)).1] at hy
          have hml : (m : Int) ≤ 5 := by omega
          have hm6 : (m : Int) < 6 := by omega
          have hm16 : (m : Int) < 16 := by omega
          cases hv : orTo g u m m
          · rw [hv] at hq
            have RN := RQ.or hm1 hmt (u m) (by rw [hv]; rfl)
            have UN := UQ.trans (Out.set bi m wr (.bool (u m)))
            clear RQ UQ hv
            generalize u m = um at *
            go_wp2
            go_roundw
            case rel => exact ⟨m + 1, by omega, by omega, by go_num, RN, UN⟩
            case measure => simp [intOf]; omega
          · rw [hv] at hq
            have RN := RQ.or hm1 hmt true (by rw [hv]; rfl)
            have UN := UQ.trans (Out.set bi m wr (.bool true))
            clear RQ UQ hv
            go_wp2
            go_roundw
            case rel => exact ⟨m + 1, by omega, by omega, by go_num, RN, UN⟩
            case measure => simp [intOf]; omega
        · obtain rfl : m = 6 := by omega
          have R5 : FRow wr bi (fun j => f j || mnV (l.take k) j || mnB c j) := RQ.congr HG.out
          have U5 := U3.trans UQ
          have ec := (Out.cells (p := b) UQ (by omega) (.inl (by omega))).1
          have V5 := V3.keep (Eqv.of_out UQ hh (by omega)) (Nat.le_refl _) (Nat.le_refl _)
          rw [← ec] at x8 x9
          have s5 := UQ.size
          clear RQ UQ V3 U3 ec I HG
          go_wp2_with fail
          clear x8
          refine (HA _ lo hi bi cp cA aA _ V5.rA hh R5 hoA F.nA).mono ?_
          rintro e W6 ⟨rfl, R6, h⟩
          have U6 := U5.trans h
          have rB6 := V5.rB.keep (Eqv.of_out h hh (by omega)) (Nat.le_refl _) (Nat.le_refl _)
          have ec := (Out.cells (p := b) h (by omega) (.inl (by omega))).1
          rw [← ec] at x9
          clear R5 U5 V5 h ec
          go_wp2_with fail
          clear x9
          refine (HB _ lo hi bi cp cB aB _ rB6 hh R6 hoB F.nB).mono ?_
          rintro e W7 ⟨rfl, R7, h⟩
          have U7 := U6.trans h
          have HN : Hid (FRow W7 bi fun j => f j || mnV (l.take (k + 1)) j) := R7.congr fun j => by rw [HS2.out j]; simp [Bool.or_assoc]
          clear R6 R7 h U6 rB6
          go_wp2
          go_roundw
          case rel => exact ⟨k + 1, by omega, by go_num, HN, U7⟩
          case measure => simp [intOf]; omega
    · obtain rfl : k = n := by omega
      go_wp2
      go_end0
      exact ⟨rfl, hfr.out.congr fun j => by rw [HTK.out k rfl], hbw⟩

end Go.Proofs.Ytanihlecenmdcaa
