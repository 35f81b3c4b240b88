/-
  The contract of impl.termsIn: which of the sixteen terms are in an assertion.
-/
import Derived.Test.YtccldjodijdciaaUsed2
import Derived.Outline
namespace Go.Proofs.Ytccldjodijdciaa
open Go.RowKit

theorem BRow.put {w : World} {b : Nat} {g : Nat → Bool} (h : BRow w b g) (i : Nat) (v : Bool) : BRow (w.setCell ⟨b, i, none⟩ (.bool v)) b (fun j => if i = j then v else g j) := by
  refine ⟨by simpa using h.1, fun j hj => ⟨?_, by simpa using (h.2 j hj).2⟩⟩
  rw [cell_set (h.2 j hj).1]
  by_cases e : i = j
  · simp [e]
  · simp [e]

theorem BRow.all {w : World} {b : Nat} {g : Nat → Bool} (h : BRow w b g) (f : Nat → Bool) :
    BRow ((((((((((((((((w.setCell ⟨b, 0, none⟩ (.bool (f 0))).setCell ⟨b, 1, none⟩ (.bool (f 1))).setCell ⟨b, 2, none⟩ (.bool (f 2))).setCell ⟨b, 3, none⟩ (.bool (f 3))).setCell ⟨b, 4, none⟩ (.bool (f 4))).setCell ⟨b, 5, none⟩ (.bool (f 5))).setCell ⟨b, 6, none⟩ (.bool (f 6))).setCell ⟨b, 7, none⟩ (.bool (f 7))).setCell ⟨b, 8, none⟩ (.bool (f 8))).setCell ⟨b, 9, none⟩ (.bool (f 9))).setCell ⟨b, 10, none⟩ (.bool (f 10))).setCell ⟨b, 11, none⟩ (.bool (f 11))).setCell ⟨b, 12, none⟩ (.bool (f 12))).setCell ⟨b, 13, none⟩ (.bool (f 13))).setCell ⟨b, 14, none⟩ (.bool (f 14))).setCell ⟨b, 15, none⟩ (.bool (f 15))) b f :=
  BRow.congr ((((((((((((((((h.put 0 (f 0)).put 1 (f 1)).put 2 (f 2)).put 3 (f 3)).put 4 (f 4)).put 5 (f 5)).put 6 (f 6)).put 7 (f 7)).put 8 (f 8)).put 9 (f 9)).put 10 (f 10)).put 11 (f 11)).put 12 (f 12)).put 13 (f 13)).put 14 (f 14)).put 15 (f 15)) (fun j hj => by
    match j, hj with
    | 0, _ => rfl
    | 1, _ => rfl
    | 2, _ => rfl
    | 3, _ => rfl
    | 4, _ => rfl
    | 5, _ => rfl
    | 6, _ => rfl
    | 7, _ => rfl
    | 8, _ => rfl
    | 9, _ => rfl
    | 10, _ => rfl
    | 11, _ => rfl
    | 12, _ => rfl
    | 13, _ => rfl
    | 14, _ => rfl
    | 15, _ => rfl
    | j + 16, h => exact absurd h (by omega))

def usedTo (l0 l1 l2 l3 : List (Int × Int)) (k j : Nat) : Bool := (decide (0 < k) && inL l0 j) || (decide (1 < k) && inL l1 j) || (decide (2 < k) && inL l2 j) || (decide (3 < k) && inL l3 j)

theorem usedTo_0 (l0 l1 l2 l3 : List (Int × Int)) (j : Nat) : usedTo l0 l1 l2 l3 0 j = false := by simp [usedTo]
theorem usedTo_4 (l0 l1 l2 l3 : List (Int × Int)) (j : Nat) : usedTo l0 l1 l2 l3 4 j = usedV l0 l1 l2 l3 j := by simp [usedTo, usedV]

theorem pick4 (a0 a1 a2 a3 : Option Addr) (c0 c1 c2 c3 : Nat) (l0 l1 l2 l3 : List (Int × Int)) (w : World)
    (n0 : l0.length ≤ 1048576) (n1 : l1.length ≤ 1048576) (n2 : l2.length ≤ 1048576) (n3 : l3.length ≤ 1048576)
    (r0 : PRow w a0 l0) (r1 : PRow w a1 l1) (r2 : PRow w a2 l2) (r3 : PRow w a3 l3) (ht : asnB l0 l1 l2 l3 = true) (k : Nat) (hk : k < 4) :
    ∃ a c l, (∀ w : World, (Instr.index 130 (.agg #[.slice a0 l0.length c0, .slice a1 l1.length c1, .slice a2 l2.length c2, .slice a3 l3.length c3]) (.int .i64 k)).run Try.prog w = .ok (.slice a (l : List (Int × Int)).length c) w) ∧ PRow w a l ∧ l.length ≤ 1048576 ∧ toks l = true ∧
      ∀ j, usedTo l0 l1 l2 l3 (k + 1) j = (usedTo l0 l1 l2 l3 k j || inL l j) := by
  obtain ⟨t0, t1, t2, t3⟩ := asnB_toks ht
  match k, hk with
  | 0, _ => exact ⟨a0, c0, l0, idx0 a0 a1 a2 a3 l0.length l1.length l2.length l3.length c0 c1 c2 c3, r0, n0, t0, fun j => by simp [usedTo]⟩
  | 1, _ => exact ⟨a1, c1, l1, idx1 a0 a1 a2 a3 l0.length l1.length l2.length l3.length c0 c1 c2 c3, r1, n1, t1, fun j => by simp [usedTo]⟩
  | 2, _ => exact ⟨a2, c2, l2, idx2 a0 a1 a2 a3 l0.length l1.length l2.length l3.length c0 c1 c2 c3, r2, n2, t2, fun j => by simp [usedTo]⟩
  | 3, _ => exact ⟨a3, c3, l3, idx3 a0 a1 a2 a3 l0.length l1.length l2.length l3.length c0 c1 c2 c3, r3, n3, t3, fun j => by simp [usedTo]⟩

set_option maxHeartbeats 1000000 in
theorem termsIn_any (a0 a1 a2 a3 : Option Addr) (c0 c1 c2 c3 : Nat) (l0 l1 l2 l3 : List (Int × Int)) (w : World)
    (n0 : l0.length ≤ 1048576) (n1 : l1.length ≤ 1048576) (n2 : l2.length ≤ 1048576) (n3 : l3.length ≤ 1048576)
    (r0 : PRow w a0 l0) (r1 : PRow w a1 l1) (r2 : PRow w a2 l2) (r3 : PRow w a3 l3) (ht : asnB l0 l1 l2 l3 = true) :
    Calls Try.prog 90 #[.agg #[.slice a0 l0.length c0, .slice a1 l1.length c1, .slice a2 l2.length c2, .slice a3 l3.length c3]] w fun e w' => e = .returned (.agg #[.bool (usedV l0 l1 l2 l3 0), .bool (usedV l0 l1 l2 l3 1), .bool (usedV l0 l1 l2 l3 2), .bool (usedV l0 l1 l2 l3 3), .bool (usedV l0 l1 l2 l3 4), .bool (usedV l0 l1 l2 l3 5), .bool (usedV l0 l1 l2 l3 6), .bool (usedV l0 l1 l2 l3 7), .bool (usedV l0 l1 l2 l3 8), .bool (usedV l0 l1 l2 l3 9), .bool (usedV l0 l1 l2 l3 10), .bool (usedV l0 l1 l2 l3 11), .bool (usedV l0 l1 l2 l3 12), .bool (usedV l0 l1 l2 l3 13), .bool (usedV l0 l1 l2 l3 14), .bool (usedV l0 l1 l2 l3 15)]) ∧ Below w.heap.size w w' := by
  have PK : Hid (∀ k : Nat, k < 4 → ∃ a c l, (∀ w : World, (Instr.index 130 (.agg #[.slice a0 l0.length c0, .slice a1 l1.length c1, .slice a2 l2.length c2, .slice a3 l3.length c3]) (.int .i64 k)).run Try.prog w = .ok (.slice a (l : List (Int × Int)).length c) w) ∧ PRow w a l ∧ l.length ≤ 1048576 ∧ toks l = true ∧
      ∀ j, usedTo l0 l1 l2 l3 (k + 1) j = (usedTo l0 l1 l2 l3 k j || inL l j)) := fun k hk => pick4 a0 a1 a2 a3 c0 c1 c2 c3 l0 l1 l2 l3 w n0 n1 n2 n3 r0 r1 r2 r3 ht k hk
  clear ht r0 r1 r2 r3 n0 n1 n2 n3
  have R0 := (BRow.new (w.alloc (.cells #[.slice a0 l0.length c0, .slice a1 l1.length c1, .slice a2 l2.length c2, .slice a3 l3.length c3] 30)) 96).below ((Below.refl _ _).alloc (Nat.le_refl _) (.cells #[.bool false, .bool false, .bool false, .bool false, .bool false, .bool false, .bool false, .bool false, .bool false, .bool false, .bool false, .bool false, .bool false, .bool false, .bool false, .bool false] 96)) (by simp)
  have I0 := BRow.new ((w.alloc (.cells #[.slice a0 l0.length c0, .slice a1 l1.length c1, .slice a2 l2.length c2, .slice a3 l3.length c3] 30)).alloc (.cells #[.bool false, .bool false, .bool false, .bool false, .bool false, .bool false, .bool false, .bool false, .bool false, .bool false, .bool false, .bool false, .bool false, .bool false, .bool false, .bool false] 96)) 96
  have L0 : Below w.heap.size w (((w.alloc (.cells #[.slice a0 l0.length c0, .slice a1 l1.length c1, .slice a2 l2.length c2, .slice a3 l3.length c3] 30)).alloc (.cells #[.bool false, .bool false, .bool false, .bool false, .bool false, .bool false, .bool false, .bool false, .bool false, .bool false, .bool false, .bool false, .bool false, .bool false, .bool false, .bool false] 96)).alloc (.cells #[.bool false, .bool false, .bool false, .bool false, .bool false, .bool false, .bool false, .bool false, .bool false, .bool false, .bool false, .bool false, .bool false, .bool false, .bool false, .bool false] 96)) := (((Below.refl _ _).alloc (Nat.le_refl _) _).alloc (by simp) _).alloc (by simp; omega) _
  simp only [World.size_alloc] at R0 I0
  go_enter Try.func90, Try.ntmps90
  go_wp2_with fail
  refine (listsOf_any _ _ _ _ _ ⟨_, _, _, rfl⟩ ⟨_, _, _, rfl⟩ ⟨_, _, _, rfl⟩ ⟨_, _, _, rfl⟩).mono ?_
  rintro e w1 ⟨rfl, hb⟩
  have R1 := R0.below hb R0.1
  have I1 := I0.below hb I0.1
  have L1 := L0.trans (hb.mono L0.size)
  clear hb R0 I0 L0
  go_wp2
  go_loopw [10] (fun i wr => ∃ k : Nat, k ≤ 4 ∧ i = .int .i64 k ∧ BRow wr (w.heap.size + 1) (fun _ => false) ∧ BRow wr (w.heap.size + 1 + 1) (usedTo l0 l1 l2 l3 k) ∧ Below w.heap.size w wr) (fun i _ => 4 - (intOf i).toNat)
  case atStart => exact ⟨0, Nat.zero_le _, rfl, R1, I1.congr (fun j _ => (usedTo_0 l0 l1 l2 l3 j).symm), L1⟩
  case round =>
    clear R1 I1 L1
    obtain ⟨k, hk, rfl, R, I, L⟩ := hrel
    by_cases hlt : k < 4
    · obtain ⟨a, c, l, hidx, hr, hn, hT, hU⟩ := PK.out k hlt
      have HT : Hid (toks l = true) := hT
      have HU : Hid (∀ j, usedTo l0 l1 l2 l3 (k + 1) j = (usedTo l0 l1 l2 l3 k j || inL l j)) := hU
      clear hT hU
      rcases hr with rfl | ⟨b, off, rfl, hb, hc⟩
      · go_wp2
        go_loopw [15] (fun i wr => i = .int .i64 0 ∧ BRow wr (w.heap.size + 1) (fun _ => false) ∧ BRow wr (w.heap.size + 1 + 1) (usedTo l0 l1 l2 l3 k) ∧ Below w.heap.size w wr) (fun _ _ => 0)
        case atStart => exact ⟨rfl, R, I, L⟩
        case round =>
          clear R I L
          obtain ⟨rfl, R, I, L⟩ := hrel
          go_wp2
          go_roundw
          case rel => exact ⟨k + 1, by omega, by go_num, R, I.congr (fun j _ => by rw [HU.out j]; simp [inL]), L⟩
          case measure => simp [intOf]; omega
      · generalize hN : l.length = n at *
        have HN : Hid (l.length = n) := hN
        clear hN
        go_wp2
        go_loopw [15] (fun i wr => ∃ m : Nat, m ≤ n ∧ i = .int .i64 m ∧ BRow wr (w.heap.size + 1) (fun _ => false) ∧ BRow wr (w.heap.size + 1 + 1) (fun j => usedTo l0 l1 l2 l3 k j || inL (l.take m) j) ∧ Below w.heap.size w wr) (fun i _ => n - (intOf i).toNat)
        case atStart => exact ⟨0, Nat.zero_le _, rfl, R, I.congr (fun j _ => by simp [inL]), L⟩
        case round =>
          clear R I L
          obtain ⟨m, hm, rfl, R, I, L⟩ := hrel
          by_cases hlt2 : m < n
          · have hck := hc m hlt2
            clear hc
            have hx := L.cell (p := ⟨b, off + m * 2, none⟩) hb
            have hy := L.cell (p := ⟨b, off + m * 2 + 1, none⟩) hb
            rw [hck.1] at hx
            rw [hck.2] at hy
            clear hck
            obtain ⟨⟨p1, p2⟩, p3, p4⟩ := toks_at HT.out (k := m) (by rw [HN.out]; exact hlt2)
            have hst := fun j => inL_step (l := l) (k := m) (by rw [HN.out]; exact hlt2) j
            rw [List.getD_eq_getElem?_getD] at hx hy
            generalize (l[m]?.getD (0, 0)).1 = X at hx p1 p2 hst
            generalize (l[m]?.getD (0, 0)).2 = Y at hy p3 p4 hst
            obtain ⟨x, rfl⟩ := Int.eq_ofNat_of_zero_le p1
            obtain ⟨y, rfl⟩ := Int.eq_ofNat_of_zero_le p3
            have HS : Hid (∀ j, inL (l.take (m + 1)) j = (inL (l.take m) j || (((x : Int) == (j : Int)) || ((y : Int) == (j : Int))))) := hst
            clear hst
            have cx := (I.2 x (by omega)).1
            have fx := (I.2 x (by omega)).2
            have I1 := I.set x
            have cy := (I1.2 y (by omega)).1
            have fy := (I.2 y (by omega)).2
            have I2 := (I1.set y).below ((Below.refl _ _).alloc (Nat.le_refl _) (.cells #[.int .i64 x, .int .i64 y] 127)) (I1.set y).1
            have L2 := (Below.set (Below.set L (w.heap.size + 1 + 1) x (by omega) (.bool true)) (w.heap.size + 1 + 1) y (by omega) (.bool true)).alloc (Below.set (Below.set L (w.heap.size + 1 + 1) x (by omega) (.bool true)) (w.heap.size + 1 + 1) y (by omega) (.bool true)).size (.cells #[.int .i64 x, .int .i64 y] 127)
            have R2 := ((R.other (w.heap.size + 1 + 1) x (by omega) (.bool true)).other (w.heap.size + 1 + 1) y (by omega) (.bool true)).below ((Below.refl _ _).alloc (Nat.le_refl _) (.cells #[.int .i64 x, .int .i64 y] 127)) ((R.other (w.heap.size + 1 + 1) x (by omega) (.bool true)).other (w.heap.size + 1 + 1) y (by omega) (.bool true)).1
            have hsz : w.heap.size + 1 + 1 < wr.heap.size := I.1
            clear I I1 L R
            go_wp2
            go_roundw
            case rel => exact ⟨m + 1, by omega, by go_num, R2, I2.congr (fun j hj => by
              rw [HS.out j]
              have e1 : ((x : Int) == (j : Int)) = (j == x) := by rw [Bool.eq_iff_iff]; simp; omega
              have e2 : ((y : Int) == (j : Int)) = (j == y) := by rw [Bool.eq_iff_iff]; simp; omega
              rw [e1, e2]
              simp [Bool.or_assoc]), L2⟩
            case measure => simp [intOf]; omega
          · obtain rfl : m = n := by omega
            have e := HN.out
            have I2 : BRow wr (w.heap.size + 1 + 1) (usedTo l0 l1 l2 l3 (k + 1)) := I.congr (fun j _ => by rw [HU.out j, List.take_of_length_le (by omega)])
            clear e I hc
            go_wp2
            go_roundw
            case rel => exact ⟨k + 1, by omega, by go_num, R, I2, L⟩
            case measure => simp [intOf]; omega
    · obtain rfl : k = 4 := by omega
      have I2 : BRow wr (w.heap.size + 1 + 1) (usedV l0 l1 l2 l3) := I.congr (fun j _ => usedTo_4 l0 l1 l2 l3 j)
      clear I
      have q0 := (I2.2 0 (by omega)).1
      have q1 := (I2.2 1 (by omega)).1
      have q2 := (I2.2 2 (by omega)).1
      have q3 := (I2.2 3 (by omega)).1
      have q4 := (I2.2 4 (by omega)).1
      have q5 := (I2.2 5 (by omega)).1
      have q6 := (I2.2 6 (by omega)).1
      have q7 := (I2.2 7 (by omega)).1
      have q8 := (I2.2 8 (by omega)).1
      have q9 := (I2.2 9 (by omega)).1
      have q10 := (I2.2 10 (by omega)).1
      have q11 := (I2.2 11 (by omega)).1
      have q12 := (I2.2 12 (by omega)).1
      have q13 := (I2.2 13 (by omega)).1
      have q14 := (I2.2 14 (by omega)).1
      have q15 := (I2.2 15 (by omega)).1
      have r0 := (R.2 0 (by omega)).1
      have f0 := (R.2 0 (by omega)).2
      have r1 := (R.2 1 (by omega)).1
      have f1 := (R.2 1 (by omega)).2
      have r2 := (R.2 2 (by omega)).1
      have f2 := (R.2 2 (by omega)).2
      have r3 := (R.2 3 (by omega)).1
      have f3 := (R.2 3 (by omega)).2
      have r4 := (R.2 4 (by omega)).1
      have f4 := (R.2 4 (by omega)).2
      have r5 := (R.2 5 (by omega)).1
      have f5 := (R.2 5 (by omega)).2
      have r6 := (R.2 6 (by omega)).1
      have f6 := (R.2 6 (by omega)).2
      have r7 := (R.2 7 (by omega)).1
      have f7 := (R.2 7 (by omega)).2
      have r8 := (R.2 8 (by omega)).1
      have f8 := (R.2 8 (by omega)).2
      have r9 := (R.2 9 (by omega)).1
      have f9 := (R.2 9 (by omega)).2
      have r10 := (R.2 10 (by omega)).1
      have f10 := (R.2 10 (by omega)).2
      have r11 := (R.2 11 (by omega)).1
      have f11 := (R.2 11 (by omega)).2
      have r12 := (R.2 12 (by omega)).1
      have f12 := (R.2 12 (by omega)).2
      have r13 := (R.2 13 (by omega)).1
      have f13 := (R.2 13 (by omega)).2
      have r14 := (R.2 14 (by omega)).1
      have f14 := (R.2 14 (by omega)).2
      have r15 := (R.2 15 (by omega)).1
      have f15 := (R.2 15 (by omega)).2
      go_wp2
      refine bodyPost_ret (v := .agg #[.bool (usedV l0 l1 l2 l3 0), .bool (usedV l0 l1 l2 l3 1), .bool (usedV l0 l1 l2 l3 2), .bool (usedV l0 l1 l2 l3 3), .bool (usedV l0 l1 l2 l3 4), .bool (usedV l0 l1 l2 l3 5), .bool (usedV l0 l1 l2 l3 6), .bool (usedV l0 l1 l2 l3 7), .bool (usedV l0 l1 l2 l3 8), .bool (usedV l0 l1 l2 l3 9), .bool (usedV l0 l1 l2 l3 10), .bool (usedV l0 l1 l2 l3 11), .bool (usedV l0 l1 l2 l3 12), .bool (usedV l0 l1 l2 l3 13), .bool (usedV l0 l1 l2 l3 14), .bool (usedV l0 l1 l2 l3 15)]) ?_ rfl ⟨rfl, ?_⟩
      · have R3 := R.all (usedV l0 l1 l2 l3)
        have z0 := (R3.2 0 (by omega)).1
        have z1 := (R3.2 1 (by omega)).1
        have z2 := (R3.2 2 (by omega)).1
        have z3 := (R3.2 3 (by omega)).1
        have z4 := (R3.2 4 (by omega)).1
        have z5 := (R3.2 5 (by omega)).1
        have z6 := (R3.2 6 (by omega)).1
        have z7 := (R3.2 7 (by omega)).1
        have z8 := (R3.2 8 (by omega)).1
        have z9 := (R3.2 9 (by omega)).1
        have z10 := (R3.2 10 (by omega)).1
        have z11 := (R3.2 11 (by omega)).1
        have z12 := (R3.2 12 (by omega)).1
        have z13 := (R3.2 13 (by omega)).1
        have z14 := (R3.2 14 (by omega)).1
        have z15 := (R3.2 15 (by omega)).1
        simp [results, Try.results90, go_sem, z0, z1, z2, z3, z4, z5, z6, z7, z8, z9, z10, z11, z12, z13, z14, z15]
      · exact Below.set (Below.set (Below.set (Below.set (Below.set (Below.set (Below.set (Below.set (Below.set (Below.set (Below.set (Below.set (Below.set (Below.set (Below.set (Below.set L _ _ (by omega) _) _ _ (by omega) _) _ _ (by omega) _) _ _ (by omega) _) _ _ (by omega) _) _ _ (by omega) _) _ _ (by omega) _) _ _ (by omega) _) _ _ (by omega) _) _ _ (by omega) _) _ _ (by omega) _) _ _ (by omega) _) _ _ (by omega) _) _ _ (by omega) _) _ _ (by omega) _) _ _ (by omega) _

end Go.Proofs.Ytccldjodijdciaa
