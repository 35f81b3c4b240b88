/-
  The contract of laws.markCmdS: it writes over the commands of the call's own, and nowhere else.
-/
import Derived.Test.YtanihlecenmdcaaCOw
import Derived.Test.YtanihlecenmdcaaMark
import Derived.Outline
namespace Go.Proofs.Ytanihlecenmdcaa
open Go.RowKit

theorem Out.cells {lo hi p : Nat} {w w' : World} (h : Out lo hi w w') (hp : p < w.heap.size) (hr : p < lo ∨ hi ≤ p) : (∀ j, w'.cell? ⟨p, j, none⟩ = w.cell? ⟨p, j, none⟩) ∧ ∀ j, w'.frozen? ⟨p, j, none⟩ = w.frozen? ⟨p, j, none⟩ :=
  ⟨fun _ => World.cell?_of_block (w := w) (h.block p hp hr), fun _ => World.frozen?_of_block (w := w) (h.block p hp hr)⟩
theorem Eqf.of_out {lo hi lo' hi' : Nat} {w w' : World} (h : Out lo hi w w') (h1 : hi ≤ lo') (h2 : hi' ≤ w.heap.size) : Eqf lo' hi' w w' := ⟨h.size, fun b g1 g2 => h.cells (by omega) (.inr (by omega))⟩

/-- Row b of w': from offset o on as it was. -/
def Tail (b o : Nat) (w w' : World) : Prop := (∀ j, o ≤ j → w'.cell? ⟨b, j, none⟩ = w.cell? ⟨b, j, none⟩) ∧ ∀ j, w'.frozen? ⟨b, j, none⟩ = w.frozen? ⟨b, j, none⟩
theorem Tail.out {b o lo hi : Nat} {w w1 w' : World} (h : Tail b o w w1) (ho : Out lo hi w1 w') (hb : b < w1.heap.size) (hr : b < lo) : Tail b o w w' :=
  ⟨fun j hj => ((ho.cells hb (.inl hr)).1 j).trans (h.1 j hj), fun j => ((ho.cells hb (.inl hr)).2 j).trans (h.2 j)⟩
theorem tail4 (w : World) (b o : Nat) (v0 v1 v2 v3 : Value) : Tail b (o + 4) w ((((w.setCell ⟨b, o, none⟩ v0).setCell ⟨b, o + 1, none⟩ v1).setCell ⟨b, o + 2, none⟩ v2).setCell ⟨b, o + 3, none⟩ v3) := by
  have key : ∀ (w : World) (i : Nat) (v : Value) (j : Nat), o + 4 ≤ j → i < o + 4 → (w.setCell ⟨b, i, none⟩ v).cell? ⟨b, j, none⟩ = w.cell? ⟨b, j, none⟩ := fun w i v j h1 h2 => World.cell?_setCell_other _ _ _ _ (by intro e; injection e with e1 e2; omega)
  refine ⟨fun j hj => ?_, fun j => by simp⟩
  rw [key _ (o + 3) _ j hj (by omega), key _ (o + 2) _ j hj (by omega), key _ (o + 1) _ j hj (by omega), key _ o _ j hj (by omega)]
theorem out4 (w : World) (b o : Nat) (v0 v1 v2 v3 : Value) : Out b (b + 1) w ((((w.setCell ⟨b, o, none⟩ v0).setCell ⟨b, o + 1, none⟩ v1).setCell ⟨b, o + 2, none⟩ v2).setCell ⟨b, o + 3, none⟩ v3) :=
  (((Out.set b o w v0).trans (Out.set b (o + 1) _ v1)).trans (Out.set b (o + 2) _ v2)).trans (Out.set b (o + 3) _ v3)

/-- What markCmdS leaves of one list. -/
def MkS (l : List Cm) : Prop := ∀ (w : World) (hi b cap : Nat) (k : Int), OsAt w (b + 1) hi b 0 l → b < w.heap.size → hi ≤ w.heap.size → b < hi → cnts l ≤ 1048576 → 0 ≤ k → k + 4 * (cnts l : Int) ≤ 16777216 →
    Calls Try.prog 58 #[.slice (some ⟨b, 0, none⟩) l.length cap, .int .i64 k] w fun e w' => ∃ k' : Int, e = .returned (.int .i64 k') ∧ k ≤ k' ∧ k' ≤ k + 4 * (cnts l : Int) ∧ Out b hi w w'

set_option maxRecDepth 20000 in
set_option maxHeartbeats 4000000 in
theorem markCmdS_any : ∀ l : List Cm, MkS l := by
  refine Cm.ind fun l ih => ?_
  intro w hi b cap k hO hb hh hbh hs hk0 hk1
  have hn : l.length ≤ 1048576 := Nat.le_trans (len_le_cnts l) hs
  obtain ⟨M, M0, M1, M2⟩ := hO.to_fn
  have mono : ∀ i j, i ≤ j → j ≤ l.length → M i ≤ M j := by
    intro i j hij
    induction j with
    | zero => intro _; obtain rfl : i = 0 := by omega
              exact Nat.le_refl _
    | succ j ihj =>
      intro hj
      by_cases e : i = j + 1
      · subst e; exact Nat.le_refl _
      · exact Nat.le_trans (ihj (by omega) (by omega)) (M1 j (by omega)).1
  have HM : Hid ((∀ i j, i ≤ j → j ≤ l.length → M i ≤ M j) ∧ M 0 = b + 1 ∧ M l.length ≤ hi) := ⟨mono, M0, M2⟩
  have HO : Hid (∀ j, j < l.length → OAt w (M j) (M (j + 1)) b (j * 10) (l.getD j Cm.zero)) := fun j hj => by have := (M1 j hj).2; rw [Nat.zero_add] at this; exact this
  have HIH : Hid (∀ k, k < l.length → MkS (l.getD k Cm.zero).A ∧ MkS (l.getD k Cm.zero).B ∧ (l.getD k Cm.zero).cnt ≤ 1048576) := fun k hk => ⟨(ih _ (mem_getD hk)).1, (ih _ (mem_getD hk)).2, by have := cnt_le_cnts hk; omega⟩
  have HST : Hid (∀ k, k < l.length → cnts (l.take (k + 1)) = cnts (l.take k) + 1 + (l.getD k Cm.zero).cnt) := fun k hk => cnts_take_succ hk
  have HLE : Hid (∀ k, cnts (l.take k) ≤ cnts l) := cnts_take_le l
  have HC : Hid (k + 4 * (cnts l : Int) ≤ 16777216) := hk1
  clear ih hs M0 M1 M2 mono hO hk1
  generalize hN : l.length = n at *
  clear hN
  go_enter Try.func58, Try.ntmps58
  go_wp2
  go_loopw [1, 5] (fun v i wr => ∃ (j : Nat) (q : Int), j ≤ n ∧ i = .int .i64 j ∧ v = .int .i64 q ∧ k ≤ q ∧ Hid (q ≤ k + 4 * (cnts (l.take j) : Int)) ∧ Hid (∀ i, j ≤ i → i < n → OAt wr (M i) (M (i + 1)) b (i * 10) (l.getD i Cm.zero)) ∧ Out b hi w wr) (fun _ i _ => n - (intOf i).toNat)
  case atStart => exact ⟨0, k, Nat.zero_le _, rfl, rfl, Int.le_refl _, by show k ≤ k + 4 * ((cnts (l.take 0) : Nat) : Int); simp [cnts_nil], fun i _ hi => HO.out i hi, Out.refl _ _ _⟩
  case round =>
    clear HO
    obtain ⟨j, q, hj, rfl, rfl, hq, hqk, hall, hbw⟩ := hrel
    by_cases hlt : j < n
    · obtain ⟨HA, HB, hcn⟩ := HIH.out j hlt
      obtain ⟨b0, b1, b2, b3, bA, m, bB, X, V⟩ := (hall.out j (Nat.le_refl _) hlt).out
      have F := Fit.of hcn
      have hce := (l.getD j Cm.zero).cnt_eq
      have hst := HST.out j hlt
      have hle := HLE.out (j + 1)
      have hqb : q + 4 + 4 * ((l.getD j Cm.zero).cnt : Int) ≤ 16777216 := by have h1 := hqk.out; have h2 := HC.out; omega
      have HQ : Hid (k + 4 * (cnts (l.take (j + 1)) : Int) = k + 4 * (cnts (l.take j) : Int) + 4 + 4 * ((l.getD j Cm.zero).cnt : Int)) := by show _ = _; omega
      have HR : Hid (∀ i, j + 1 ≤ i → i < n → OAt wr (M i) (M (i + 1)) b (i * 10) (l.getD i Cm.zero)) := fun i h1 h2 => hall.out i (by omega) h2
      clear hall hst hle
      generalize l.getD j Cm.zero = c at *
      have v0 := V.g0; have v1 := V.g1; have v2 := V.g2; have v3 := V.g3; have v4 := V.g4; have v5 := V.g5; have v6 := V.g6; have v7 := V.g7
      have hMj : b < M j := by have h1 := HM.out.1 0 j (Nat.zero_le _) (by omega); have h2 := HM.out.2.1; omega
      have hMh : M (j + 1) ≤ hi := Nat.le_trans (HM.out.1 (j + 1) n (by omega) (Nat.le_refl _)) HM.out.2.2
      have hbr : b < wr.heap.size := Nat.lt_of_lt_of_le hb hbw.size
      have hhr : hi ≤ wr.heap.size := Nat.le_trans hh hbw.size
      have x0 := X.e0; have x1 := X.e1; have x2 := X.e2; have x3 := X.e3; have x4 := X.e4
      have z0 := X.fz 0 (by omega); have z1 := X.fz 1 (by omega); have z2 := X.fz 2 (by omega); have z3 := X.fz 3 (by omega)
      rw [Nat.add_zero] at z0
      have hjn : (j : Int) < (n : Int) := by omega
      have hq1 : 0 ≤ q := by omega
      have hq3 : q ≤ 16777216 := by omega
      go_wp2_with fail
      have T0 : Tail b (j * 10 + 4) wr ((((wr.setCell ⟨b, j * 10, none⟩ (.int .i64 q)).setCell ⟨b, j * 10 + 1, none⟩ (.int .i64 (q + 1))).setCell ⟨b, j * 10 + 2, none⟩ (.int .i64 (q + 1 + 1))).setCell ⟨b, j * 10 + 3, none⟩ (.bool ((q + 1 + 1 + 1) % 3 == 0))) := tail4 wr b (j * 10) _ _ _ _
      have U0 : Out b (b + 1) wr ((((wr.setCell ⟨b, j * 10, none⟩ (.int .i64 q)).setCell ⟨b, j * 10 + 1, none⟩ (.int .i64 (q + 1))).setCell ⟨b, j * 10 + 2, none⟩ (.int .i64 (q + 1 + 1))).setCell ⟨b, j * 10 + 3, none⟩ (.bool ((q + 1 + 1 + 1) % 3 == 0))) := out4 wr b (j * 10) _ _ _ _
      generalize ((((wr.setCell ⟨b, j * 10, none⟩ (.int .i64 q)).setCell ⟨b, j * 10 + 1, none⟩ (.int .i64 (q + 1))).setCell ⟨b, j * 10 + 2, none⟩ (.int .i64 (q + 1 + 1))).setCell ⟨b, j * 10 + 3, none⟩ (.bool ((q + 1 + 1 + 1) % 3 == 0))) = W0 at *
      obtain ⟨q0, hq0⟩ : ∃ q0 : Int, q + 1 + 1 + 1 + 1 = q0 := ⟨_, rfl⟩
      rw [hq0]
      clear x0 x1 x2 x3 x4 z0 z1 z2 z3
      refine (markPairS_any b0 (b0 + 1) _ _ _ _ c.l0 _ (by have := F.n0; omega) (by omega) (by have := F.n0; have := F.n1; have := F.n2; have := F.n3; omega) (RowIn.ofOwn (V.o0.out U0 (.inr (by omega))) rfl (Nat.le_refl _) (Nat.lt_succ_self _))).mono ?_
      rintro e W1 ⟨rfl, -, h⟩
      have T1 := T0.out h (Nat.lt_of_lt_of_le hbr U0.size) (by omega)
      have U1 : Out b (b0 + 1) wr W1 := (U0.mono (Nat.le_refl _) (by omega)).trans (h.mono (by omega) (Nat.le_refl _))
      have y := (T1.1 (j * 10 + 5) (by omega)).trans X.e5
      obtain ⟨q1, hq1⟩ : ∃ q1 : Int, q0 + 2 * (c.l0.length : Int) = q1 := ⟨_, rfl⟩
      rw [hq1]
      clear h T0 U0
      have HB0 : Hid (q + 4 ≤ q1 ∧ q1 ≤ q + 4 + 2 * ((c.l0.length : Int))) := ⟨by omega, by omega⟩
      clear hq1 hq0
      have hB0 := HB0.out
      go_wp2_with fail
      clear y
      refine (markPairS_any b1 (b1 + 1) _ _ _ _ c.l1 _ (by have := F.n1; omega) (by omega) (by have := F.n0; have := F.n1; have := F.n2; have := F.n3; omega) (RowIn.ofOwn (V.o1.out U1 (.inr (by omega))) rfl (Nat.le_refl _) (Nat.lt_succ_self _))).mono ?_
      rintro e W2 ⟨rfl, -, h⟩
      have T2 := T1.out h (Nat.lt_of_lt_of_le hbr U1.size) (by omega)
      have U2 : Out b (b1 + 1) wr W2 := (U1.mono (Nat.le_refl _) (by omega)).trans (h.mono (by omega) (Nat.le_refl _))
      have y := (T2.1 (j * 10 + 6) (by omega)).trans X.e6
      obtain ⟨q2, hq2⟩ : ∃ q2 : Int, q1 + 2 * (c.l1.length : Int) = q2 := ⟨_, rfl⟩
      rw [hq2]
      clear h T1 U1
      have HB1 : Hid (q + 4 ≤ q2 ∧ q2 ≤ q + 4 + 2 * ((c.l0.length : Int) + (c.l1.length : Int))) := ⟨by have := HB0.out; omega, by have := HB0.out; omega⟩
      clear hq2 HB0
      clear hB0
      have hB1 := HB1.out
      go_wp2_with fail
      clear y
      refine (markPairS_any b2 (b2 + 1) _ _ _ _ c.l2 _ (by have := F.n2; omega) (by omega) (by have := F.n0; have := F.n1; have := F.n2; have := F.n3; omega) (RowIn.ofOwn (V.o2.out U2 (.inr (by omega))) rfl (Nat.le_refl _) (Nat.lt_succ_self _))).mono ?_
      rintro e W3 ⟨rfl, -, h⟩
      have T3 := T2.out h (Nat.lt_of_lt_of_le hbr U2.size) (by omega)
      have U3 : Out b (b2 + 1) wr W3 := (U2.mono (Nat.le_refl _) (by omega)).trans (h.mono (by omega) (Nat.le_refl _))
      have y := (T3.1 (j * 10 + 7) (by omega)).trans X.e7
      obtain ⟨q3, hq3⟩ : ∃ q3 : Int, q2 + 2 * (c.l2.length : Int) = q3 := ⟨_, rfl⟩
      rw [hq3]
      clear h T2 U2
      have HB2 : Hid (q + 4 ≤ q3 ∧ q3 ≤ q + 4 + 2 * ((c.l0.length : Int) + (c.l1.length : Int) + (c.l2.length : Int))) := ⟨by have := HB1.out; omega, by have := HB1.out; omega⟩
      clear hq3 HB1
      clear hB1
      have hB2 := HB2.out
      go_wp2_with fail
      clear y
      refine (markPairS_any b3 (b3 + 1) _ _ _ _ c.l3 _ (by have := F.n3; omega) (by omega) (by have := F.n0; have := F.n1; have := F.n2; have := F.n3; omega) (RowIn.ofOwn (V.o3.out U3 (.inr (by omega))) rfl (Nat.le_refl _) (Nat.lt_succ_self _))).mono ?_
      rintro e W4 ⟨rfl, -, h⟩
      have T4 := T3.out h (Nat.lt_of_lt_of_le hbr U3.size) (by omega)
      have U4 : Out b (b3 + 1) wr W4 := (U3.mono (Nat.le_refl _) (by omega)).trans (h.mono (by omega) (Nat.le_refl _))
      have y := (T4.1 (j * 10 + 8) (by omega)).trans X.e8
      obtain ⟨q4, hq4⟩ : ∃ q4 : Int, q3 + 2 * (c.l3.length : Int) = q4 := ⟨_, rfl⟩
      rw [hq4]
      clear h T3 U3
      have HB3 : Hid (q + 4 ≤ q4 ∧ q4 ≤ q + 4 + 2 * ((c.l0.length : Int) + (c.l1.length : Int) + (c.l2.length : Int) + (c.l3.length : Int))) := ⟨by have := HB2.out; omega, by have := HB2.out; omega⟩
      clear hq4 HB2
      clear hB2
      have hB3 := HB3.out
      go_wp2_with fail
      clear y
      refine (HA _ _ _ _ _ (V.oA.keep _ _ _ _ _ (Eqf.of_out U4 (by omega) (by omega)) (fun i _ _ => (U4.cells (by omega) (.inr (by omega))).1 i) (fun i _ _ => (U4.cells (by omega) (.inr (by omega))).2 i)) (by have := U4.size; omega) (by have := U4.size; omega) v5 F.nA (by omega) (by omega)).mono ?_
      rintro e W5 ⟨q5, rfl, g1, g2, h⟩
      have T5 := T4.out h (Nat.lt_of_lt_of_le hbr U4.size) (by omega)
      have U5 : Out b m wr W5 := (U4.mono (Nat.le_refl _) (by omega)).trans (h.mono (by omega) (Nat.le_refl _))
      have y := (T5.1 (j * 10 + 9) (by omega)).trans X.e9
      clear h T4 U4
      have HB5 : Hid (q + 4 ≤ q5 ∧ q5 ≤ q + 4 + 2 * ((c.l0.length : Int) + c.l1.length + c.l2.length + c.l3.length) + 4 * (cnts c.A : Int)) := ⟨by omega, by omega⟩
      clear g1 g2 hB3 HB3
      have hB5 := HB5.out
      go_wp2_with fail
      clear y
      refine (HB _ _ _ _ _ (V.oB.keep _ _ _ _ _ (Eqf.of_out U5 (by omega) (by omega)) (fun i _ _ => (U5.cells (by omega) (.inr (by omega))).1 i) (fun i _ _ => (U5.cells (by omega) (.inr (by omega))).2 i)) (by have := U5.size; omega) (by have := U5.size; omega) v7 F.nB (by omega) (by omega)).mono ?_
      rintro e W6 ⟨q6, rfl, g1, g2, h⟩
      have T6 := T5.out h (Nat.lt_of_lt_of_le hbr U5.size) (by omega)
      have U6 : Out b (M (j + 1)) wr W6 := (U5.mono (Nat.le_refl _) (by omega)).trans (h.mono (by omega) (Nat.le_refl _))
      have HN : Hid (k ≤ q6 ∧ q6 ≤ k + 4 * (cnts (l.take (j + 1)) : Int)) := ⟨by omega, by have h1 := HQ.out; have h2 := hqk.out; omega⟩
      have HT : Hid (∀ i, j + 1 ≤ i → i < n → OAt W6 (M i) (M (i + 1)) b (i * 10) (l.getD i Cm.zero)) := fun i h1 h2 => by
        have g3 := HM.out.1 (j + 1) i h1 (by omega)
        have g4 := Nat.le_trans (HM.out.1 (i + 1) n (by omega) (Nat.le_refl _)) HM.out.2.2
        exact (HR.out i h1 h2).keep (Eqf.of_out U6 g3 (by omega)) (fun p h3 _ => T6.1 p (by omega)) (fun p _ _ => T6.2 p)
      have UW : Out b hi w W6 := hbw.trans (U6.mono (Nat.le_refl _) hMh)
      clear h T5 T6 U5 U6 g1 g2 hB5 HB5 X V HQ HR hqk hbw hce hqb v0 v1 v2 v3 v4 v5 v6 v7 F HA HB hMj hMh hbr hhr hcn hq3 hq1 hq
      go_wp2
      go_roundw
      case rel => exact ⟨j + 1, q6, by omega, by go_num, rfl, HN.out.1, HN.out.2, HT, UW⟩
      case measure => simp [intOf]; omega
    · go_wp2
      go_ret
      obtain rfl : j = n := by omega
      exact ⟨q, rfl, hq, by have h1 := hqk.out; have h2 := HLE.out j; omega, hbw⟩

end Go.Proofs.Ytanihlecenmdcaa
