/-
  Plain lemmas and contracts of functions for the other texts of this seat: Used2, Tin, Fresh, Uu, Xe, Owp.
-/
import Derived.Test.YtphchdjbhbmnbaaGab
import Derived.Outline
import Derived.Test.YtphchdjbhbmnbaaGag
import Derived.Deep.DeepCutAuto
import Derived.Deep.RegionHeld3
import Derived.Test.YtphchdjbhbmnbaaGad
import Derived.Test.YtphchdjbhbmnbaaGaf
namespace Go.Proofs.Ytphchdjbhbmnbaa
open Go.RowKit

theorem run_make62 (w : World) : (Instr.makeSlice 144 (.int .i64 16) (.int .i64 16)).run Try.prog w = .ok (.slice (some ⟨w.heap.size, 0, none⟩) 16 16) (w.alloc (.cells #[.bool false, .bool false, .bool false, .bool false, .bool false, .bool false, .bool false, .bool false, .bool false, .bool false, .bool false, .bool false, .bool false, .bool false, .bool false, .bool false] 4)) := by kernel_rfl

theorem BRow.new (w : World) (t : TypeId) : BRow (w.alloc (.cells #[.bool false, .bool false, .bool false, .bool false, .bool false, .bool false, .bool false, .bool false, .bool false, .bool false, .bool false, .bool false, .bool false, .bool false, .bool false, .bool false] t)) w.heap.size (fun _ => false) := by
  refine ⟨by simp, fun j hj => ⟨?_, by simp⟩⟩
  rw [World.cell?_alloc_new]
  match j, hj with
  | 0, _ => rfl
  | 1, _ => rfl
  | 2, _ => rfl
  | 3, _ => rfl
  | 4, _ => rfl
  | 5, _ => rfl
  | 6, _ => rfl
  | 7, _ => rfl
  | 8, _ => rfl
  | 9, _ => rfl
  | 10, _ => rfl
  | 11, _ => rfl
  | 12, _ => rfl
  | 13, _ => rfl
  | 14, _ => rfl
  | 15, _ => rfl
  | j + 16, h => exact absurd h (by omega)

theorem asnB_toks {l0 l1 l2 l3 : List (Int × Int)} (h : asnB l0 l1 l2 l3 = true) : toks l0 = true ∧ toks l1 = true ∧ toks l2 = true ∧ toks l3 = true := by
  simp [asnB] at h
  exact ⟨h.1.1.1.1.1.1, h.1.1.1.1.1.2, h.1.1.1.1.2, h.1.1.1.2⟩

set_option maxHeartbeats 1000000 in
theorem l1used_any (a0 a1 a2 a3 : Option Addr) (c0 c1 c2 c3 : Nat) (l0 l1 l2 l3 : List (Int × Int)) (w : World)
    (n0 : l0.length ≤ 1048576) (n1 : l1.length ≤ 1048576) (n2 : l2.length ≤ 1048576) (n3 : l3.length ≤ 1048576)
    (r0 : PRow w a0 l0) (r1 : PRow w a1 l1) (r2 : PRow w a2 l2) (r3 : PRow w a3 l3) (ht : asnB l0 l1 l2 l3 = true) :
    Calls Try.prog 211 #[.agg #[.slice a0 l0.length c0, .slice a1 l1.length c1, .slice a2 l2.length c2, .slice a3 l3.length c3]] w fun e w' => ∃ bI, e = .returned (.slice (some ⟨bI, 0, none⟩) 16 16) ∧ w.heap.size ≤ bI ∧ BRow w' bI (usedV l0 l1 l2 l3) ∧ Below w.heap.size w w' := by
  obtain ⟨t0, t1, t2, t3⟩ := asnB_toks ht
  have T0 : Hid (toks l0 = true) := t0
  have T1 : Hid (toks l1 = true) := t1
  have T2 : Hid (toks l2 = true) := t2
  have T3 : Hid (toks l3 = true) := t3
  clear ht t0 t1 t2 t3
  have hmk := run_make62
  have B0 := (Box.new w (.slice a0 l0.length c0) (.slice a1 l1.length c1) (.slice a2 l2.length c2) (.slice a3 l3.length c3) 28).alloc (.cells #[.bool false, .bool false, .bool false, .bool false, .bool false, .bool false, .bool false, .bool false, .bool false, .bool false, .bool false, .bool false, .bool false, .bool false, .bool false, .bool false] 4)
  have I0 := BRow.new (w.alloc (.cells #[.slice a0 l0.length c0, .slice a1 l1.length c1, .slice a2 l2.length c2, .slice a3 l3.length c3] 28)) 4
  have L0 : Below w.heap.size w ((w.alloc (.cells #[.slice a0 l0.length c0, .slice a1 l1.length c1, .slice a2 l2.length c2, .slice a3 l3.length c3] 28)).alloc (.cells #[.bool false, .bool false, .bool false, .bool false, .bool false, .bool false, .bool false, .bool false, .bool false, .bool false, .bool false, .bool false, .bool false, .bool false, .bool false, .bool false] 4)) := ((Below.refl _ _).alloc (Nat.le_refl _) _).alloc (by simp) _
  rw [World.size_alloc] at I0
  have z : w.heap.size + 1 < ((w.alloc (.cells #[.slice a0 l0.length c0, .slice a1 l1.length c1, .slice a2 l2.length c2, .slice a3 l3.length c3] 28)).alloc (.cells #[.bool false, .bool false, .bool false, .bool false, .bool false, .bool false, .bool false, .bool false, .bool false, .bool false, .bool false, .bool false, .bool false, .bool false, .bool false, .bool false] 4)).heap.size := by simp
  go_enter Try.func211, Try.ntmps211
  go_wp2_with fail
  refine (l1mark_any _ _ _ _ _ _ n0 T0.out I0 (by exact r0.below L0 (Nat.le_refl _)) (by exact r0.off (by omega))).mono ?_
  rintro e w1 ⟨rfl, I1, hk⟩
  have L1 := L0.trans (hk.below (by omega) L0.size)
  have B1 := B0.kept hk (by omega)
  clear I0 L0 B0 hk hmk z
  have x := B1.c1
  go_wp2_with fail
  clear x
  refine (l1mark_any _ _ _ _ _ _ n1 T1.out I1 (by exact r1.below L1 (Nat.le_refl _)) (by exact r1.off (by omega))).mono ?_
  rintro e w2 ⟨rfl, I2, hk⟩
  have L2 := L1.trans (hk.below (by omega) L1.size)
  have B2 := B1.kept hk (by omega)
  clear I1 L1 B1 hk
  have x := B2.c2
  go_wp2_with fail
  clear x
  refine (l1mark_any _ _ _ _ _ _ n2 T2.out I2 (by exact r2.below L2 (Nat.le_refl _)) (by exact r2.off (by omega))).mono ?_
  rintro e w3 ⟨rfl, I3, hk⟩
  have L3 := L2.trans (hk.below (by omega) L2.size)
  have B3 := B2.kept hk (by omega)
  clear I2 L2 B2 hk
  have x := B3.c3
  go_wp2_with fail
  clear x
  refine (l1mark_any _ _ _ _ _ _ n3 T3.out I3 (by exact r3.below L3 (Nat.le_refl _)) (by exact r3.off (by omega))).mono ?_
  rintro e w4 ⟨rfl, I4, hk⟩
  have L4 := L3.trans (hk.below (by omega) L3.size)
  have B4 := B3.kept hk (by omega)
  clear I3 L3 B3 hk
  go_wp2
  go_ret
  exact ⟨w.heap.size + 1, rfl, by omega, I4.congr (fun j _ => by simp [usedV]), L4⟩

end Go.Proofs.Ytphchdjbhbmnbaa
namespace Go.Proofs.Ytphchdjbhbmnbaa
open Go.RowKit

theorem BRow.put {w : World} {b : Nat} {g : Nat → Bool} (h : BRow w b g) (i : Nat) (v : Bool) : BRow (w.setCell ⟨b, i, none⟩ (.bool v)) b (fun j => if i = j then v else g j) := by
  refine ⟨by simpa using h.1, fun j hj => ⟨?_, by simpa using (h.2 j hj).2⟩⟩
  rw [cell_set (h.2 j hj).1]
  by_cases e : i = j
  · simp [e]
  · simp [e]

theorem BRow.all {w : World} {b : Nat} {g : Nat → Bool} (h : BRow w b g) (f : Nat → Bool) :
    BRow ((((((((((((((((w.setCell ⟨b, 0, none⟩ (.bool (f 0))).setCell ⟨b, 1, none⟩ (.bool (f 1))).setCell ⟨b, 2, none⟩ (.bool (f 2))).setCell ⟨b, 3, none⟩ (.bool (f 3))).setCell ⟨b, 4, none⟩ (.bool (f 4))).setCell ⟨b, 5, none⟩ (.bool (f 5))).setCell ⟨b, 6, none⟩ (.bool (f 6))).setCell ⟨b, 7, none⟩ (.bool (f 7))).setCell ⟨b, 8, none⟩ (.bool (f 8))).setCell ⟨b, 9, none⟩ (.bool (f 9))).setCell ⟨b, 10, none⟩ (.bool (f 10))).setCell ⟨b, 11, none⟩ (.bool (f 11))).setCell ⟨b, 12, none⟩ (.bool (f 12))).setCell ⟨b, 13, none⟩ (.bool (f 13))).setCell ⟨b, 14, none⟩ (.bool (f 14))).setCell ⟨b, 15, none⟩ (.bool (f 15))) b f :=
  BRow.congr ((((((((((((((((h.put 0 (f 0)).put 1 (f 1)).put 2 (f 2)).put 3 (f 3)).put 4 (f 4)).put 5 (f 5)).put 6 (f 6)).put 7 (f 7)).put 8 (f 8)).put 9 (f 9)).put 10 (f 10)).put 11 (f 11)).put 12 (f 12)).put 13 (f 13)).put 14 (f 14)).put 15 (f 15)) (fun j hj => by
    match j, hj with
    | 0, _ => rfl
    | 1, _ => rfl
    | 2, _ => rfl
    | 3, _ => rfl
    | 4, _ => rfl
    | 5, _ => rfl
    | 6, _ => rfl
    | 7, _ => rfl
    | 8, _ => rfl
    | 9, _ => rfl
    | 10, _ => rfl
    | 11, _ => rfl
    | 12, _ => rfl
    | 13, _ => rfl
    | 14, _ => rfl
    | 15, _ => rfl
    | j + 16, h => exact absurd h (by omega))

def usedTo (l0 l1 l2 l3 : List (Int × Int)) (k j : Nat) : Bool := (decide (0 < k) && inL l0 j) || (decide (1 < k) && inL l1 j) || (decide (2 < k) && inL l2 j) || (decide (3 < k) && inL l3 j)

theorem usedTo_0 (l0 l1 l2 l3 : List (Int × Int)) (j : Nat) : usedTo l0 l1 l2 l3 0 j = false := by simp [usedTo]
theorem usedTo_4 (l0 l1 l2 l3 : List (Int × Int)) (j : Nat) : usedTo l0 l1 l2 l3 4 j = usedV l0 l1 l2 l3 j := by simp [usedTo, usedV]

theorem pick4 (a0 a1 a2 a3 : Option Addr) (c0 c1 c2 c3 : Nat) (l0 l1 l2 l3 : List (Int × Int)) (w : World)
    (n0 : l0.length ≤ 1048576) (n1 : l1.length ≤ 1048576) (n2 : l2.length ≤ 1048576) (n3 : l3.length ≤ 1048576)
    (r0 : PRow w a0 l0) (r1 : PRow w a1 l1) (r2 : PRow w a2 l2) (r3 : PRow w a3 l3) (ht : asnB l0 l1 l2 l3 = true) (k : Nat) (hk : k < 4) :
    ∃ a c l, (∀ w : World, (Instr.index 88 (.agg #[.slice a0 l0.length c0, .slice a1 l1.length c1, .slice a2 l2.length c2, .slice a3 l3.length c3]) (.int .i64 k)).run Try.prog w = .ok (.slice a (l : List (Int × Int)).length c) w) ∧ PRow w a l ∧ l.length ≤ 1048576 ∧ toks l = true ∧
      ∀ j, usedTo l0 l1 l2 l3 (k + 1) j = (usedTo l0 l1 l2 l3 k j || inL l j) := by
  obtain ⟨t0, t1, t2, t3⟩ := asnB_toks ht
  match k, hk with
  | 0, _ => exact ⟨a0, c0, l0, idx0 a0 a1 a2 a3 l0.length l1.length l2.length l3.length c0 c1 c2 c3, r0, n0, t0, fun j => by simp [usedTo]⟩
  | 1, _ => exact ⟨a1, c1, l1, idx1 a0 a1 a2 a3 l0.length l1.length l2.length l3.length c0 c1 c2 c3, r1, n1, t1, fun j => by simp [usedTo]⟩
  | 2, _ => exact ⟨a2, c2, l2, idx2 a0 a1 a2 a3 l0.length l1.length l2.length l3.length c0 c1 c2 c3, r2, n2, t2, fun j => by simp [usedTo]⟩
  | 3, _ => exact ⟨a3, c3, l3, idx3 a0 a1 a2 a3 l0.length l1.length l2.length l3.length c0 c1 c2 c3, r3, n3, t3, fun j => by simp [usedTo]⟩

set_option maxHeartbeats 1000000 in
theorem termsIn_any (a0 a1 a2 a3 : Option Addr) (c0 c1 c2 c3 : Nat) (l0 l1 l2 l3 : List (Int × Int)) (w : World)
    (n0 : l0.length ≤ 1048576) (n1 : l1.length ≤ 1048576) (n2 : l2.length ≤ 1048576) (n3 : l3.length ≤ 1048576)
    (r0 : PRow w a0 l0) (r1 : PRow w a1 l1) (r2 : PRow w a2 l2) (r3 : PRow w a3 l3) (ht : asnB l0 l1 l2 l3 = true) :
    Calls Try.prog 141 #[.agg #[.slice a0 l0.length c0, .slice a1 l1.length c1, .slice a2 l2.length c2, .slice a3 l3.length c3]] w fun e w' => e = .returned (.agg #[.bool (usedV l0 l1 l2 l3 0), .bool (usedV l0 l1 l2 l3 1), .bool (usedV l0 l1 l2 l3 2), .bool (usedV l0 l1 l2 l3 3), .bool (usedV l0 l1 l2 l3 4), .bool (usedV l0 l1 l2 l3 5), .bool (usedV l0 l1 l2 l3 6), .bool (usedV l0 l1 l2 l3 7), .bool (usedV l0 l1 l2 l3 8), .bool (usedV l0 l1 l2 l3 9), .bool (usedV l0 l1 l2 l3 10), .bool (usedV l0 l1 l2 l3 11), .bool (usedV l0 l1 l2 l3 12), .bool (usedV l0 l1 l2 l3 13), .bool (usedV l0 l1 l2 l3 14), .bool (usedV l0 l1 l2 l3 15)]) ∧ Below w.heap.size w w' := by
  have PK : Hid (∀ k : Nat, k < 4 → ∃ a c l, (∀ w : World, (Instr.index 88 (.agg #[.slice a0 l0.length c0, .slice a1 l1.length c1, .slice a2 l2.length c2, .slice a3 l3.length c3]) (.int .i64 k)).run Try.prog w = .ok (.slice a (l : List (Int × Int)).length c) w) ∧ PRow w a l ∧ l.length ≤ 1048576 ∧ toks l = true ∧
      ∀ j, usedTo l0 l1 l2 l3 (k + 1) j = (usedTo l0 l1 l2 l3 k j || inL l j)) := fun k hk => pick4 a0 a1 a2 a3 c0 c1 c2 c3 l0 l1 l2 l3 w n0 n1 n2 n3 r0 r1 r2 r3 ht k hk
  clear ht r0 r1 r2 r3 n0 n1 n2 n3
  have R0 := (BRow.new (w.alloc (.cells #[.slice a0 l0.length c0, .slice a1 l1.length c1, .slice a2 l2.length c2, .slice a3 l3.length c3] 28)) 94).below ((Below.refl _ _).alloc (Nat.le_refl _) (.cells #[.bool false, .bool false, .bool false, .bool false, .bool false, .bool false, .bool false, .bool false, .bool false, .bool false, .bool false, .bool false, .bool false, .bool false, .bool false, .bool false] 94)) (by simp)
  have I0 := BRow.new ((w.alloc (.cells #[.slice a0 l0.length c0, .slice a1 l1.length c1, .slice a2 l2.length c2, .slice a3 l3.length c3] 28)).alloc (.cells #[.bool false, .bool false, .bool false, .bool false, .bool false, .bool false, .bool false, .bool false, .bool false, .bool false, .bool false, .bool false, .bool false, .bool false, .bool false, .bool false] 94)) 94
  have L0 : Below w.heap.size w (((w.alloc (.cells #[.slice a0 l0.length c0, .slice a1 l1.length c1, .slice a2 l2.length c2, .slice a3 l3.length c3] 28)).alloc (.cells #[.bool false, .bool false, .bool false, .bool false, .bool false, .bool false, .bool false, .bool false, .bool false, .bool false, .bool false, .bool false, .bool false, .bool false, .bool false, .bool false] 94)).alloc (.cells #[.bool false, .bool false, .bool false, .bool false, .bool false, .bool false, .bool false, .bool false, .bool false, .bool false, .bool false, .bool false, .bool false, .bool false, .bool false, .bool false] 94)) := (((Below.refl _ _).alloc (Nat.le_refl _) _).alloc (by simp) _).alloc (by simp; omega) _
  simp only [World.size_alloc] at R0 I0
  go_enter Try.func141, Try.ntmps141
  go_wp2_with fail
  refine (listsOf_any _ _ _ _ _ ⟨_, _, _, rfl⟩ ⟨_, _, _, rfl⟩ ⟨_, _, _, rfl⟩ ⟨_, _, _, rfl⟩).mono ?_
  rintro e w1 ⟨rfl, hb⟩
  have R1 := R0.below hb R0.1
  have I1 := I0.below hb I0.1
  have L1 := L0.trans (hb.mono L0.size)
  clear hb R0 I0 L0
  go_wp2
  go_loopw [10] (fun i wr => ∃ k : Nat, k ≤ 4 ∧ i = .int .i64 k ∧ BRow wr (w.heap.size + 1) (fun _ => false) ∧ BRow wr (w.heap.size + 1 + 1) (usedTo l0 l1 l2 l3 k) ∧ Below w.heap.size w wr) (fun i _ => 4 - (intOf i).toNat)
  case atStart => exact ⟨0, Nat.zero_le _, rfl, R1, I1.congr (fun j _ => (usedTo_0 l0 l1 l2 l3 j).symm), L1⟩
  case round =>
    clear R1 I1 L1
    obtain ⟨k, hk, rfl, R, I, L⟩ := hrel
    by_cases hlt : k < 4
    · obtain ⟨a, c, l, hidx, hr, hn, hT, hU⟩ := PK.out k hlt
      have HT : Hid (toks l = true) := hT
      have HU : Hid (∀ j, usedTo l0 l1 l2 l3 (k + 1) j = (usedTo l0 l1 l2 l3 k j || inL l j)) := hU
      clear hT hU
      rcases hr with rfl | ⟨b, off, rfl, hb, hc⟩
      · go_wp2
        go_loopw [15] (fun i wr => i = .int .i64 0 ∧ BRow wr (w.heap.size + 1) (fun _ => false) ∧ BRow wr (w.heap.size + 1 + 1) (usedTo l0 l1 l2 l3 k) ∧ Below w.heap.size w wr) (fun _ _ => 0)
        case atStart => exact ⟨rfl, R, I, L⟩
        case round =>
          clear R I L
          obtain ⟨rfl, R, I, L⟩ := hrel
          go_wp2
          go_roundw
          case rel => exact ⟨k + 1, by omega, by go_num, R, I.congr (fun j _ => by rw [HU.out j]; simp [inL]), L⟩
          case measure => simp [intOf]; omega
      · generalize hN : l.length = n at *
        have HN : Hid (l.length = n) := hN
        clear hN
        go_wp2
        go_loopw [15] (fun i wr => ∃ m : Nat, m ≤ n ∧ i = .int .i64 m ∧ BRow wr (w.heap.size + 1) (fun _ => false) ∧ BRow wr (w.heap.size + 1 + 1) (fun j => usedTo l0 l1 l2 l3 k j || inL (l.take m) j) ∧ Below w.heap.size w wr) (fun i _ => n - (intOf i).toNat)
        case atStart => exact ⟨0, Nat.zero_le _, rfl, R, I.congr (fun j _ => by simp [inL]), L⟩
        case round =>
          clear R I L
          obtain ⟨m, hm, rfl, R, I, L⟩ := hrel
          by_cases hlt2 : m < n
          · have hck := hc m hlt2
            clear hc
            have hx := L.cell (p := ⟨b, off + m * 2, none⟩) hb
            have hy := L.cell (p := ⟨b, off + m * 2 + 1, none⟩) hb
            rw [hck.1] at hx
            rw [hck.2] at hy
            clear hck
            obtain ⟨⟨p1, p2⟩, p3, p4⟩ := toks_at HT.out (k := m) (by rw [HN.out]; exact hlt2)
            have hst := fun j => inL_step (l := l) (k := m) (by rw [HN.out]; exact hlt2) j
            rw [List.getD_eq_getElem?_getD] at hx hy
            generalize (l[m]?.getD (0, 0)).1 = X at hx p1 p2 hst
            generalize (l[m]?.getD (0, 0)).2 = Y at hy p3 p4 hst
            obtain ⟨x, rfl⟩ := Int.eq_ofNat_of_zero_le p1
            obtain ⟨y, rfl⟩ := Int.eq_ofNat_of_zero_le p3
            have HS : Hid (∀ j, inL (l.take (m + 1)) j = (inL (l.take m) j || (((x : Int) == (j : Int)) || ((y : Int) == (j : Int))))) := hst
            clear hst
            have cx := (I.2 x (by omega)).1
            have fx := (I.2 x (by omega)).2
            have I1 := I.set x
            have cy := (I1.2 y (by omega)).1
            have fy := (I.2 y (by omega)).2
            have I2 := (I1.set y).below ((Below.refl _ _).alloc (Nat.le_refl _) (.cells #[.int .i64 x, .int .i64 y] 69)) (I1.set y).1
            have L2 := (Below.set (Below.set L (w.heap.size + 1 + 1) x (by omega) (.bool true)) (w.heap.size + 1 + 1) y (by omega) (.bool true)).alloc (Below.set (Below.set L (w.heap.size + 1 + 1) x (by omega) (.bool true)) (w.heap.size + 1 + 1) y (by omega) (.bool true)).size (.cells #[.int .i64 x, .int .i64 y] 69)
            have R2 := ((R.other (w.heap.size + 1 + 1) x (by omega) (.bool true)).other (w.heap.size + 1 + 1) y (by omega) (.bool true)).below ((Below.refl _ _).alloc (Nat.le_refl _) (.cells #[.int .i64 x, .int .i64 y] 69)) ((R.other (w.heap.size + 1 + 1) x (by omega) (.bool true)).other (w.heap.size + 1 + 1) y (by omega) (.bool true)).1
            have hsz : w.heap.size + 1 + 1 < wr.heap.size := I.1
            clear I I1 L R
            go_wp2
            go_roundw
            case rel => exact ⟨m + 1, by omega, by go_num, R2, I2.congr (fun j hj => by
              rw [HS.out j]
              have e1 : ((x : Int) == (j : Int)) = (j == x) := by rw [Bool.eq_iff_iff]; simp; omega
              have e2 : ((y : Int) == (j : Int)) = (j == y) := by rw [Bool.eq_iff_iff]; simp; omega
              rw [e1, e2]
              simp [Bool.or_assoc]), L2⟩
            case measure => simp [intOf]; omega
          · obtain rfl : m = n := by omega
            have e := HN.out
            have I2 : BRow wr (w.heap.size + 1 + 1) (usedTo l0 l1 l2 l3 (k + 1)) := I.congr (fun j _ => by rw [HU.out j, List.take_of_length_le (by omega)])
            clear e I hc
            go_wp2
            go_roundw
            case rel => exact ⟨k + 1, by omega, by go_num, R, I2, L⟩
            case measure => simp [intOf]; omega
    · obtain rfl : k = 4 := by omega
      have I2 : BRow wr (w.heap.size + 1 + 1) (usedV l0 l1 l2 l3) := I.congr (fun j _ => usedTo_4 l0 l1 l2 l3 j)
      clear I
      have q0 := (I2.2 0 (by omega)).1
      have q1 := (I2.2 1 (by omega)).1
      have q2 := (I2.2 2 (by omega)).1
      have q3 := (I2.2 3 (by omega)).1
      have q4 := (I2.2 4 (by omega)).1
      have q5 := (I2.2 5 (by omega)).1
      have q6 := (I2.2 6 (by omega)).1
      have q7 := (I2.2 7 (by omega)).1
      have q8 := (I2.2 8 (by omega)).1
      have q9 := (I2.2 9 (by omega)).1
      have q10 := (I2.2 10 (by omega)).1
      have q11 := (I2.2 11 (by omega)).1
      have q12 := (I2.2 12 (by omega)).1
      have q13 := (I2.2 13 (by omega)).1
      have q14 := (I2.2 14 (by omega)).1
      have q15 := (I2.2 15 (by omega)).1
      have r0 := (R.2 0 (by omega)).1
      have f0 := (R.2 0 (by omega)).2
      have r1 := (R.2 1 (by omega)).1
      have f1 := (R.2 1 (by omega)).2
      have r2 := (R.2 2 (by omega)).1
      have f2 := (R.2 2 (by omega)).2
      have r3 := (R.2 3 (by omega)).1
      have f3 := (R.2 3 (by omega)).2
      have r4 := (R.2 4 (by omega)).1
      have f4 := (R.2 4 (by omega)).2
      have r5 := (R.2 5 (by omega)).1
      have f5 := (R.2 5 (by omega)).2
      have r6 := (R.2 6 (by omega)).1
      have f6 := (R.2 6 (by omega)).2
      have r7 := (R.2 7 (by omega)).1
      have f7 := (R.2 7 (by omega)).2
      have r8 := (R.2 8 (by omega)).1
      have f8 := (R.2 8 (by omega)).2
      have r9 := (R.2 9 (by omega)).1
      have f9 := (R.2 9 (by omega)).2
      have r10 := (R.2 10 (by omega)).1
      have f10 := (R.2 10 (by omega)).2
      have r11 := (R.2 11 (by omega)).1
      have f11 := (R.2 11 (by omega)).2
      have r12 := (R.2 12 (by omega)).1
      have f12 := (R.2 12 (by omega)).2
      have r13 := (R.2 13 (by omega)).1
      have f13 := (R.2 13 (by omega)).2
      have r14 := (R.2 14 (by omega)).1
      have f14 := (R.2 14 (by omega)).2
      have r15 := (R.2 15 (by omega)).1
      have f15 := (R.2 15 (by omega)).2
      go_wp2
      refine bodyPost_ret (v := .agg #[.bool (usedV l0 l1 l2 l3 0), .bool (usedV l0 l1 l2 l3 1), .bool (usedV l0 l1 l2 l3 2), .bool (usedV l0 l1 l2 l3 3), .bool (usedV l0 l1 l2 l3 4), .bool (usedV l0 l1 l2 l3 5), .bool (usedV l0 l1 l2 l3 6), .bool (usedV l0 l1 l2 l3 7), .bool (usedV l0 l1 l2 l3 8), .bool (usedV l0 l1 l2 l3 9), .bool (usedV l0 l1 l2 l3 10), .bool (usedV l0 l1 l2 l3 11), .bool (usedV l0 l1 l2 l3 12), .bool (usedV l0 l1 l2 l3 13), .bool (usedV l0 l1 l2 l3 14), .bool (usedV l0 l1 l2 l3 15)]) ?_ rfl ⟨rfl, ?_⟩
      · have R3 := R.all (usedV l0 l1 l2 l3)
        have z0 := (R3.2 0 (by omega)).1
        have z1 := (R3.2 1 (by omega)).1
        have z2 := (R3.2 2 (by omega)).1
        have z3 := (R3.2 3 (by omega)).1
        have z4 := (R3.2 4 (by omega)).1
        have z5 := (R3.2 5 (by omega)).1
        have z6 := (R3.2 6 (by omega)).1
        have z7 := (R3.2 7 (by omega)).1
        have z8 := (R3.2 8 (by omega)).1
        have z9 := (R3.2 9 (by omega)).1
        have z10 := (R3.2 10 (by omega)).1
        have z11 := (R3.2 11 (by omega)).1
        have z12 := (R3.2 12 (by omega)).1
        have z13 := (R3.2 13 (by omega)).1
        have z14 := (R3.2 14 (by omega)).1
        have z15 := (R3.2 15 (by omega)).1
        simp [results, Try.results141, go_sem, z0, z1, z2, z3, z4, z5, z6, z7, z8, z9, z10, z11, z12, z13, z14, z15]
      · exact Below.set (Below.set (Below.set (Below.set (Below.set (Below.set (Below.set (Below.set (Below.set (Below.set (Below.set (Below.set (Below.set (Below.set (Below.set (Below.set L _ _ (by omega) _) _ _ (by omega) _) _ _ (by omega) _) _ _ (by omega) _) _ _ (by omega) _) _ _ (by omega) _) _ _ (by omega) _) _ _ (by omega) _) _ _ (by omega) _) _ _ (by omega) _) _ _ (by omega) _) _ _ (by omega) _) _ _ (by omega) _) _ _ (by omega) _) _ _ (by omega) _) _ _ (by omega) _

end Go.Proofs.Ytphchdjbhbmnbaa
namespace Go.Proofs.Ytphchdjbhbmnbaa
open Go.RowKit

def freshGo (f : Nat → Bool) : Nat → Nat → Int
  | 0, _ => -1
  | n + 1, t => if f t = true then freshGo f n (t + 1) else t

theorem freshGo_hit (f : Nat → Bool) : ∀ (n t k : Nat), t ≤ k → k < t + n → (∀ i, t ≤ i → i < k → f i = true) → f k = false → freshGo f n t = k
  | 0, t, k, h1, h2, _, _ => absurd h1 (by omega)
  | n + 1, t, k, h1, h2, h3, h4 => by
    unfold freshGo
    by_cases e : t = k
    · subst e; rw [h4]; simp
    · rw [h3 t (Nat.le_refl _) (by omega), if_pos rfl]
      exact freshGo_hit f n (t + 1) k (by omega) (by omega) (fun i hi hk => h3 i (by omega) hk) h4

theorem freshGo_miss (f : Nat → Bool) : ∀ (n t : Nat), (∀ i, t ≤ i → i < t + n → f i = true) → freshGo f n t = -1
  | 0, _, _ => rfl
  | n + 1, t, h => by
    unfold freshGo
    rw [h t (Nat.le_refl _) (by omega), if_pos rfl]
    exact freshGo_miss f n (t + 1) (fun i hi hk => h i (by omega) (by omega))

def freshF (f : Nat → Bool) : Int := freshGo f 10 6
def freshV (l0 l1 l2 l3 : List (Int × Int)) : Int := if asnB l0 l1 l2 l3 = true then freshF (usedV l0 l1 l2 l3) else -1

theorem freshF_hit {f : Nat → Bool} {k : Nat} (h1 : 6 ≤ k) (h2 : k < 16) (h3 : ∀ i, 6 ≤ i → i < k → f i = true) (h4 : f k = false) : freshF f = k := freshGo_hit f 10 6 k h1 (by omega) h3 h4
theorem freshF_miss {f : Nat → Bool} (h3 : ∀ i, 6 ≤ i → i < 16 → f i = true) : freshF f = -1 := freshGo_miss f 10 6 (fun i h k => h3 i h (by omega))

theorem BRow.lit (w : World) (t : TypeId) (f : Nat → Bool) : BRow (w.alloc (.cells #[.bool (f 0), .bool (f 1), .bool (f 2), .bool (f 3), .bool (f 4), .bool (f 5), .bool (f 6), .bool (f 7), .bool (f 8), .bool (f 9), .bool (f 10), .bool (f 11), .bool (f 12), .bool (f 13), .bool (f 14), .bool (f 15)] t)) w.heap.size f := by
  refine ⟨by simp, fun j hj => ⟨?_, by simp⟩⟩
  rw [World.cell?_alloc_new]
  match j, hj with
  | 0, _ => rfl
  | 1, _ => rfl
  | 2, _ => rfl
  | 3, _ => rfl
  | 4, _ => rfl
  | 5, _ => rfl
  | 6, _ => rfl
  | 7, _ => rfl
  | 8, _ => rfl
  | 9, _ => rfl
  | 10, _ => rfl
  | 11, _ => rfl
  | 12, _ => rfl
  | 13, _ => rfl
  | 14, _ => rfl
  | 15, _ => rfl
  | j + 16, h => exact absurd h (by omega)

theorem idxB (f : Nat → Bool) (j : Nat) (hj : j < 16) (w : World) : (Instr.index 94 (.agg #[.bool (f 0), .bool (f 1), .bool (f 2), .bool (f 3), .bool (f 4), .bool (f 5), .bool (f 6), .bool (f 7), .bool (f 8), .bool (f 9), .bool (f 10), .bool (f 11), .bool (f 12), .bool (f 13), .bool (f 14), .bool (f 15)]) (.int .i64 j)).run Try.prog w = .ok (.bool (f j)) w := by
  obtain rfl | rfl | rfl | rfl | rfl | rfl | rfl | rfl | rfl | rfl | rfl | rfl | rfl | rfl | rfl | rfl : j = 0 ∨ j = 1 ∨ j = 2 ∨ j = 3 ∨ j = 4 ∨ j = 5 ∨ j = 6 ∨ j = 7 ∨ j = 8 ∨ j = 9 ∨ j = 10 ∨ j = 11 ∨ j = 12 ∨ j = 13 ∨ j = 14 ∨ j = 15 := by omega
  all_goals kernel_rfl

set_option maxHeartbeats 1000000 in
theorem l1fresh_any (a0 a1 a2 a3 : Option Addr) (c0 c1 c2 c3 : Nat) (l0 l1 l2 l3 : List (Int × Int)) (w : World)
    (n0 : l0.length ≤ 1048576) (n1 : l1.length ≤ 1048576) (n2 : l2.length ≤ 1048576) (n3 : l3.length ≤ 1048576)
    (r0 : PRow w a0 l0) (r1 : PRow w a1 l1) (r2 : PRow w a2 l2) (r3 : PRow w a3 l3) (ht : asnB l0 l1 l2 l3 = true) :
    Calls Try.prog 140 #[.agg #[.slice a0 l0.length c0, .slice a1 l1.length c1, .slice a2 l2.length c2, .slice a3 l3.length c3]] w fun e w' => e = .returned (.int .i64 (freshF (usedV l0 l1 l2 l3))) ∧ Below w.heap.size w w' := by
  have HT : Hid (asnB l0 l1 l2 l3 = true) := ht
  clear ht
  have L : Below w.heap.size w (w.alloc (.cells #[.slice a0 l0.length c0, .slice a1 l1.length c1, .slice a2 l2.length c2, .slice a3 l3.length c3] 28)) := (Below.refl _ _).alloc (Nat.le_refl _) _
  go_enter Try.func140, Try.ntmps140
  go_wp2_with fail
  refine (l1used_any _ _ _ _ _ _ _ _ _ _ _ _ _ n0 n1 n2 n3 (by exact r0.below L (Nat.le_refl _)) (by exact r1.below L (Nat.le_refl _)) (by exact r2.below L (Nat.le_refl _)) (by exact r3.below L (Nat.le_refl _)) HT.out).mono ?_
  rintro e w1 ⟨bI, rfl, hI, I, hb⟩
  have L1 := L.trans (hb.mono L.size)
  clear hb L hI HT
  obtain ⟨f, hf⟩ : ∃ f, usedV l0 l1 l2 l3 = f := ⟨_, rfl⟩
  have HV : Hid (freshF (usedV l0 l1 l2 l3) = freshF f) := by show freshF (usedV l0 l1 l2 l3) = _; rw [hf]
  rw [hf] at I
  clear hf
  go_wp2
  go_loop [4] (fun i => ∃ k : Nat, 6 ≤ k ∧ k ≤ 16 ∧ i = .int .i64 k ∧ Hid (∀ i, 6 ≤ i → i < k → f i = true)) (fun i => 16 - (intOf i).toNat)
  case atStart => exact ⟨6, by omega, by omega, rfl, fun i h1 h2 => by omega⟩
  case round =>
    obtain ⟨k, hk0, hk, rfl, hall⟩ := hrel
    by_cases hlt : k < 16
    · have hx := (I.2 k hlt).1
      cases hf : f k
      · rw [hf] at hx
        have HF : Hid (f k = false) := hf
        clear hf
        go_wp2
        go_ret
        exact ⟨ret_int (HV.out.trans (freshF_hit hk0 hlt hall.out HF.out)).symm, L1⟩
      · rw [hf] at hx
        have HF : Hid (f k = true) := hf
        clear hf
        go_wp2
        go_round
        case rel => exact ⟨k + 1, by omega, by omega, by go_num, fun i h1 h2 => by
          by_cases e : i = k
          · subst e; exact HF.out
          · exact hall.out i h1 (by omega)⟩
        case measure => simp [intOf]; omega
    · obtain rfl : k = 16 := by omega
      go_wp2
      go_ret
      exact ⟨ret_int (HV.out.trans (freshF_miss hall.out)).symm, L1⟩

set_option maxHeartbeats 1000000 in
theorem sFresh_any (a0 a1 a2 a3 : Option Addr) (c0 c1 c2 c3 : Nat) (l0 l1 l2 l3 : List (Int × Int)) (w : World)
    (n0 : l0.length ≤ 1048576) (n1 : l1.length ≤ 1048576) (n2 : l2.length ≤ 1048576) (n3 : l3.length ≤ 1048576)
    (r0 : PRow w a0 l0) (r1 : PRow w a1 l1) (r2 : PRow w a2 l2) (r3 : PRow w a3 l3) :
    Calls Try.prog 48 #[.agg #[.slice a0 l0.length c0, .slice a1 l1.length c1, .slice a2 l2.length c2, .slice a3 l3.length c3]] w fun e w' => e = .returned (.int .i64 (freshV l0 l1 l2 l3)) ∧ Below w.heap.size w w' := by
  have B0 := Box.new w (.slice a0 l0.length c0) (.slice a1 l1.length c1) (.slice a2 l2.length c2) (.slice a3 l3.length c3) 28
  have L : Below w.heap.size w (w.alloc (.cells #[.slice a0 l0.length c0, .slice a1 l1.length c1, .slice a2 l2.length c2, .slice a3 l3.length c3] 28)) := (Below.refl _ _).alloc (Nat.le_refl _) _
  go_enter Try.func48, Try.ntmps48
  go_wp2_with fail
  refine (sAsnOk_any _ _ _ _ _ _ _ _ _ _ _ _ _ n0 n1 n2 n3 (by exact r0.below L (Nat.le_refl _)) (by exact r1.below L (Nat.le_refl _)) (by exact r2.below L (Nat.le_refl _)) (by exact r3.below L (Nat.le_refl _))).mono ?_
  rintro e w1 ⟨rfl, hb⟩
  have B1 := B0.below hb B0.lt; have L1 := L.trans (hb.mono L.size)
  clear hb B0 L
  have x0 := B1.c0; have x1 := B1.c1; have x2 := B1.c2; have x3 := B1.c3
  cases h : asnB l0 l1 l2 l3
  · go_wp2
    go_ret
    exact ⟨ret_int (by simp [freshV, h]), L1⟩
  · have HT : Hid (asnB l0 l1 l2 l3 = true) := h
    clear h
    go_wp2_with fail
    refine (l1fresh_any _ _ _ _ _ _ _ _ _ _ _ _ _ n0 n1 n2 n3 (by exact r0.below L1 (Nat.le_refl _)) (by exact r1.below L1 (Nat.le_refl _)) (by exact r2.below L1 (Nat.le_refl _)) (by exact r3.below L1 (Nat.le_refl _)) HT.out).mono ?_
    rintro e w2 ⟨rfl, hb⟩
    have L2 := L1.trans (hb.mono L1.size)
    go_wp2
    go_ret
    exact ⟨ret_int (by unfold freshV; rw [if_pos HT.out]), L2⟩

set_option maxHeartbeats 1000000 in
theorem iFresh_any (a0 a1 a2 a3 : Option Addr) (c0 c1 c2 c3 : Nat) (l0 l1 l2 l3 : List (Int × Int)) (w : World)
    (n0 : l0.length ≤ 1048576) (n1 : l1.length ≤ 1048576) (n2 : l2.length ≤ 1048576) (n3 : l3.length ≤ 1048576)
    (r0 : PRow w a0 l0) (r1 : PRow w a1 l1) (r2 : PRow w a2 l2) (r3 : PRow w a3 l3) :
    Calls Try.prog 49 #[.agg #[.slice a0 l0.length c0, .slice a1 l1.length c1, .slice a2 l2.length c2, .slice a3 l3.length c3]] w fun e w' => e = .returned (.int .i64 (freshV l0 l1 l2 l3)) ∧ Below w.heap.size w w' := by
  have B0 := Box.new w (.slice a0 l0.length c0) (.slice a1 l1.length c1) (.slice a2 l2.length c2) (.slice a3 l3.length c3) 28
  have L : Below w.heap.size w (w.alloc (.cells #[.slice a0 l0.length c0, .slice a1 l1.length c1, .slice a2 l2.length c2, .slice a3 l3.length c3] 28)) := (Below.refl _ _).alloc (Nat.le_refl _) _
  go_enter Try.func49, Try.ntmps49
  go_wp2_with fail
  refine (iAsnOk_any _ _ _ _ _ _ _ _ _ _ _ _ _ n0 n1 n2 n3 (by exact r0.below L (Nat.le_refl _)) (by exact r1.below L (Nat.le_refl _)) (by exact r2.below L (Nat.le_refl _)) (by exact r3.below L (Nat.le_refl _))).mono ?_
  rintro e w1 ⟨rfl, hb⟩
  have B1 := B0.below hb B0.lt; have L1 := L.trans (hb.mono L.size)
  clear hb B0 L
  have x0 := B1.c0; have x1 := B1.c1; have x2 := B1.c2; have x3 := B1.c3
  cases h : asnB l0 l1 l2 l3
  · go_wp2
    go_ret
    exact ⟨ret_int (by simp [freshV, h]), L1⟩
  · have HT : Hid (asnB l0 l1 l2 l3 = true) := h
    clear h
    go_wp2_with fail
    refine (termsIn_any _ _ _ _ _ _ _ _ _ _ _ _ _ n0 n1 n2 n3 (by exact r0.below L1 (Nat.le_refl _)) (by exact r1.below L1 (Nat.le_refl _)) (by exact r2.below L1 (Nat.le_refl _)) (by exact r3.below L1 (Nat.le_refl _)) HT.out).mono ?_
    rintro e w2 ⟨rfl, hb⟩
    have L2 := L1.trans (hb.mono L1.size)
    have HV : Hid (freshV l0 l1 l2 l3 = freshF (usedV l0 l1 l2 l3)) := by show freshV l0 l1 l2 l3 = _; unfold freshV; rw [if_pos HT.out]
    clear hb L1 B1 x0 x1 x2 x3 HT
    generalize usedV l0 l1 l2 l3 = f at *
    have I := BRow.lit w2 94 f
    have L3 := L2.alloc L2.size (.cells #[.bool (f 0), .bool (f 1), .bool (f 2), .bool (f 3), .bool (f 4), .bool (f 5), .bool (f 6), .bool (f 7), .bool (f 8), .bool (f 9), .bool (f 10), .bool (f 11), .bool (f 12), .bool (f 13), .bool (f 14), .bool (f 15)] 94)
    clear L2
    go_wp2
    go_loop [4] (fun i => ∃ k : Nat, 6 ≤ k ∧ k ≤ 16 ∧ i = .int .i64 k ∧ Hid (∀ i, 6 ≤ i → i < k → f i = true)) (fun i => 16 - (intOf i).toNat)
    case atStart => exact ⟨6, by omega, by omega, rfl, fun i h1 h2 => by omega⟩
    case round =>
      obtain ⟨k, hk0, hk, rfl, hall⟩ := hrel
      by_cases hlt : k < 16
      · have hx := (I.2 k hlt).1
        generalize w2.alloc (.cells #[.bool (f 0), .bool (f 1), .bool (f 2), .bool (f 3), .bool (f 4), .bool (f 5), .bool (f 6), .bool (f 7), .bool (f 8), .bool (f 9), .bool (f 10), .bool (f 11), .bool (f 12), .bool (f 13), .bool (f 14), .bool (f 15)] 94) = w3 at *
        cases hf : f k
        · rw [hf] at hx
          have HF : Hid (f k = false) := hf
          clear hf
          go_wp2
          go_ret
          exact ⟨ret_int (HV.out.trans (freshF_hit hk0 hlt hall.out HF.out)).symm, L3⟩
        · rw [hf] at hx
          have HF : Hid (f k = true) := hf
          clear hf
          go_wp2
          go_round
          case rel => exact ⟨k + 1, by omega, by omega, by go_num, fun i h1 h2 => by
            by_cases e : i = k
            · subst e; exact HF.out
            · exact hall.out i h1 (by omega)⟩
          case measure => simp [intOf]; omega
      · obtain rfl : k = 16 := by omega
        go_wp2
        go_ret
        exact ⟨ret_int (HV.out.trans (freshF_miss hall.out)).symm, L3⟩

end Go.Proofs.Ytphchdjbhbmnbaa
namespace Go.Proofs.Ytphchdjbhbmnbaa
open Go.RowKit
set_option linter.unusedVariables false

def unfC (l2 : List (Int × Int)) (s : Int × Int) (f : Int) : List (Int × Int) := l2 ++ [(s.1, f)]
def unfS (l3 : List (Int × Int)) (i : Nat) (s : Int × Int) (f : Int) : List (Int × Int) := l3.take i ++ l3.drop (i + 1) ++ [(f, s.2)]
theorem own_pair (w : World) (p q : Int) : Own (w.alloc (.cells #[.int .i64 p, .int .i64 q] 69)) w.heap.size 1 [(p, q)] 1 := by
  refine ⟨by simp, fun j hj => ?_, fun k hk => ?_⟩
  · obtain rfl | rfl : j = 0 ∨ j = 1 := by omega
    · simp
    · simp
  · obtain rfl : k = 0 := by omega
    simp

/-- What the region that appends to Segs keeps. -/
abbrev UJ (wR : World) (Z A S : Nat) (x0 x1 x2 vs vy : Value) (W : World) : Prop := Out Z (Z + 1) wR W ∧ (∃ x, Box W Z x0 x1 x2 x) ∧ W.cell? ⟨A, 3, none⟩ = some vs ∧ W.cell? ⟨S, 1, none⟩ = some vy
theorem uj_out {wR W u : World} {Z A S lo hi : Nat} {x0 x1 x2 vs vy : Value} (h : UJ wR Z A S x0 x1 x2 vs vy W) (hb : Out lo hi W u) (hl : wR.heap.size ≤ lo) (hz : Z < wR.heap.size) (ha : A < wR.heap.size) (hs : S < wR.heap.size) : UJ wR Z A S x0 x1 x2 vs vy u := by
  obtain ⟨h0, ⟨x, h1⟩, h2, h3⟩ := h
  have hB : Below wR.heap.size W u := hb.below hl h0.size
  refine ⟨⟨hb.os.trans h0.os, hb.tape.trans h0.tape, hb.output.trans h0.output, Nat.le_trans h0.size hb.size, fun k hk hr => (hB.block k hk).trans (h0.block k hk hr)⟩, ⟨x, h1.below hB hz⟩, by rw [hB.cell (p := ⟨A, 3, none⟩) ha]; exact h2, by rw [hB.cell (p := ⟨S, 1, none⟩) hs]; exact h3⟩
theorem uj_keep {wR W u : World} {Z A S : Nat} {x0 x1 x2 vs vy : Value} (hz : Z < wR.heap.size ∧ A < wR.heap.size ∧ S < wR.heap.size) (h : UJ wR Z A S x0 x1 x2 vs vy W) (hb : Below W.heap.size W u) : UJ wR Z A S x0 x1 x2 vs vy u :=
  uj_out h (Out.ofBelow (lo := wR.heap.size) (hi := wR.heap.size) hb) (Nat.le_refl _) hz.1 hz.2.1 hz.2.2
theorem uj_al {wR W : World} {Z A S : Nat} {x0 x1 x2 vs vy : Value} (hz : Z < wR.heap.size ∧ A < wR.heap.size ∧ S < wR.heap.size) (o : Obj) (h : UJ wR Z A S x0 x1 x2 vs vy W) : UJ wR Z A S x0 x1 x2 vs vy (W.alloc o) := uj_keep hz h ((Below.refl _ _).alloc (Nat.le_refl _) o)
theorem uj_ad {wR W : World} {Z A S : Nat} {x0 x1 x2 vs vy : Value} (hz : Z < wR.heap.size ∧ A < wR.heap.size ∧ S < wR.heap.size) (h : UJ wR Z A S x0 x1 x2 vs vy W) : UJ wR Z A S x0 x1 x2 vs vy W.drew := uj_keep hz h (Below.refl _ _).drew
theorem uj_store {wR W : World} {Z A S : Nat} {x0 x1 x2 vs vy : Value} (hz : A ≠ Z ∧ S ≠ Z) (u : Value) (h : UJ wR Z A S x0 x1 x2 vs vy W) : UJ wR Z A S x0 x1 x2 vs vy (W.setCell ⟨Z, 3, none⟩ u) := by
  obtain ⟨h0, ⟨x, h1⟩, h2, h3⟩ := h
  refine ⟨h0.trans (Out.set Z 3 W u), ⟨u, h1.set3 u⟩, ?_, ?_⟩
  · rw [World.cell?_setCell_other _ _ _ _ (by intro e; injection e with e _; exact hz.1 e.symm)]; exact h2
  · rw [World.cell?_setCell_other _ _ _ _ (by intro e; injection e with e _; exact hz.2 e.symm)]; exact h3
theorem uj_own {wR W : World} {Z A S b n k : Nat} {x0 x1 x2 vs vy : Value} {l : List (Int × Int)} (o : Own wR b n l k) (hb : b < Z) (h : UJ wR Z A S x0 x1 x2 vs vy W) : Own W b n l k := o.out h.1 (.inl hb)
theorem uj_room {wR W u : World} {Z A S m c : Nat} {a : Option Addr} {l : List (Int × Int)} {x0 x1 x2 vs vy : Value} (hz : Z < wR.heap.size ∧ A < wR.heap.size ∧ S < wR.heap.size) (h : UJ wR Z A S x0 x1 x2 vs vy W) (hb : Below W.heap.size W u) (d : RoomIn u W.heap.size u.heap.size a m c l) : UJ wR Z A S x0 x1 x2 vs vy u ∧ RoomIn u wR.heap.size u.heap.size a m c l ∧ wR.heap.size ≤ u.heap.size := ⟨uj_keep hz h hb, d.mono h.1.size (Nat.le_refl _), Nat.le_trans h.1.size hb.size⟩
theorem pair_be {w u : World} {p q : Int} (h : Below ((w.alloc (.cells #[.int .i64 p, .int .i64 q] 69)).drew).heap.size (w.alloc (.cells #[.int .i64 p, .int .i64 q] 69)).drew u) : Own u w.heap.size 1 [(p, q)] 1 := by
  have o := (own_pair w p q).below ((Below.refl _ _).drew) (own_pair w p q).1
  exact o.below h o.1

theorem RoomIn.ne {w : World} {lo hi n c : Nat} {a : Option Addr} {l : List (Int × Int)} (h : RoomIn w lo hi a n c l) : a ≠ none := by
  obtain ⟨_, ⟨_, _, _, rfl⟩ | ⟨_, rfl, _⟩⟩ := h <;> intro e <;> cases e
theorem RowOr.ne {w : World} {lo hi S n : Nat} {a : Option Addr} {l : List (Int × Int)} (h : RowOr w lo hi S a n l) (hn : 0 < n) : a ≠ none := by
  obtain ⟨_, h0 | ⟨_, rfl, _⟩⟩ := h
  · omega
  · intro e; cases e
theorem RowIn.ne {w : World} {lo hi n : Nat} {a : Option Addr} {l : List (Int × Int)} (h : RowIn w lo hi a n l) (hn : 0 < n) : a ≠ none := by
  obtain ⟨_, h0 | ⟨_, rfl, _⟩⟩ := h
  · omega
  · intro e; cases e

set_option maxRecDepth 20000 in
set_option maxHeartbeats 4000000 in
theorem l4unfold_ne (b0 b1 b2 b3 c0 c1 c2 c3 : Nat) (l0 l1 l2 l3 : List (Int × Int)) (i : Nat) (w : World) (n0 : l0.length ≤ 1048576) (n1 : l1.length ≤ 1048576) (n2 : l2.length ≤ 1048576) (n3 : l3.length ≤ 1048576) (o0 : Own w b0 l0.length l0 l0.length) (o1 : Own w b1 l1.length l1 l1.length) (o2 : Own w b2 l2.length l2 l2.length) (o3 : Own w b3 l3.length l3 l3.length) (z3 : l3.length ≤ c3) (ht : asnB l0 l1 l2 l3 = true) (hi : i < l3.length) (hf : 0 ≤ freshF (usedV l0 l1 l2 l3)) (hr : l2.length + l3.length < 6) :
    Calls Try.prog 177 #[.agg #[.slice (some ⟨b0, 0, none⟩) l0.length c0, .slice (some ⟨b1, 0, none⟩) l1.length c1, .slice (some ⟨b2, 0, none⟩) l2.length c2, .slice (some ⟨b3, 0, none⟩) l3.length c3], .int .i64 i] w fun e w' => ∃ p0 p1 p2 p3 q0 q1 q2 q3, e = .returned (.tuple #[.agg #[.slice p0 l0.length q0, .slice p1 l1.length q1, .slice p2 (l2.length + 1) q2, .slice p3 (i + (l3.length - (i + 1)) + 1) q3], .bool true]) ∧ Seen w' w.heap.size w'.heap.size p0 p1 p2 p3 l0.length l1.length (l2.length + 1) (i + (l3.length - (i + 1)) + 1) l0 l1 (unfC l2 (l3.getD i (0, 0)) (freshF (usedV l0 l1 l2 l3))) (unfS l3 i (l3.getD i (0, 0)) (freshF (usedV l0 l1 l2 l3))) ∧ (p0 ≠ none ∧ p1 ≠ none ∧ p2 ≠ none ∧ p3 ≠ none) ∧ Below w.heap.size w w' := by
  obtain ⟨f, hff⟩ : ∃ f, Hid (freshF (usedV l0 l1 l2 l3) = f) := ⟨_, rfl⟩
  rw [hff.out] at hf ⊢
  have zb := o3.1
  have A0 := (Box.new w (.slice (some ⟨b0, 0, none⟩) l0.length c0) (.slice (some ⟨b1, 0, none⟩) l1.length c1) (.slice (some ⟨b2, 0, none⟩) l2.length c2) (.slice (some ⟨b3, 0, none⟩) l3.length c3) 28).alloc (.cells #[.slice none 0 0, .slice none 0 0, .slice none 0 0, .slice none 0 0] 28)
  have R0 := Box.new (w.alloc (.cells #[.slice (some ⟨b0, 0, none⟩) l0.length c0, .slice (some ⟨b1, 0, none⟩) l1.length c1, .slice (some ⟨b2, 0, none⟩) l2.length c2, .slice (some ⟨b3, 0, none⟩) l3.length c3] 28)) (.slice none 0 0) (.slice none 0 0) (.slice none 0 0) (.slice none 0 0) 28
  have L0 : Below w.heap.size w ((w.alloc (.cells #[.slice (some ⟨b0, 0, none⟩) l0.length c0, .slice (some ⟨b1, 0, none⟩) l1.length c1, .slice (some ⟨b2, 0, none⟩) l2.length c2, .slice (some ⟨b3, 0, none⟩) l3.length c3] 28)).alloc (.cells #[.slice none 0 0, .slice none 0 0, .slice none 0 0, .slice none 0 0] 28)) := ((Below.refl _ _).alloc (Nat.le_refl _) _).alloc (by simp) _
  rw [World.size_alloc] at R0
  go_enter Try.func177, Try.ntmps177
  go_wp2_with fail
  refine (l1fresh_any _ _ _ _ _ _ _ _ l0 l1 l2 l3 _ n0 n1 n2 n3 (o0.row.below L0 (Nat.le_refl _)) (o1.row.below L0 (Nat.le_refl _)) (o2.row.below L0 (Nat.le_refl _)) (o3.row.below L0 (Nat.le_refl _)) ht).mono ?_
  rintro e w1 ⟨rfl, hb⟩
  rw [hff.out]
  replace A0 := A0.below hb A0.lt; replace R0 := R0.below hb R0.lt; replace L0 := L0.trans (hb.mono L0.size)
  replace o0 := o0.below (L0) o0.1; replace o1 := o1.below (L0) o1.1; replace o2 := o2.below (L0) o2.1; replace o3 := o3.below (L0) o3.1
  clear hb ht
  have A0c0 := A0.c0; have A0c1 := A0.c1; have A0c2 := A0.c2; have A0c3 := A0.c3
  have hfn : ¬ f < 0 := by omega
  have hrn : ¬ (6 ≤ (l2.length : Int) + (l3.length : Int)) := by omega
  have s0 := o3.2.2 i hi
  obtain ⟨sg, HSG⟩ : ∃ sg, Hid (l3.getD i (0, 0) = sg) := ⟨_, rfl⟩
  rw [HSG.out] at s0
  have hil : (i : Int) < (l3.length : Int) := by omega
  have zA := A0.lt
  have zR := R0.lt
  go_wp2_with fail
  have K1 := own_pair w1 sg.1 sg.2
  have al : Below w1.heap.size w1 (w1.alloc (.cells #[.int .i64 sg.1, .int .i64 sg.2] 69)) := (Below.refl _ _).alloc (Nat.le_refl _) _
  replace A0 := A0.below al A0.lt; replace R0 := R0.below al R0.lt; replace L0 := L0.trans (al.mono L0.size)
  replace o0 := o0.below (al) o0.1; replace o1 := o1.below (al) o1.1; replace o2 := o2.below (al) o2.1; replace o3 := o3.below (al) o3.1
  clear al A0c0 A0c1 A0c2 A0c3 s0
  have zS : (w1.alloc (.cells #[.int .i64 sg.1, .int .i64 sg.2] 69)).heap.size = w1.heap.size + 1 := by simp
  generalize w1.alloc (.cells #[.int .i64 sg.1, .int .i64 sg.2] 69) = w2 at *
  generalize hS : w1.heap.size = S at *
  clear hS
  refine (l1own_any b0 b1 b2 b3 c0 c1 c2 c3 l0 l1 l2 l3 _ n0 n1 n2 n3 o0 o1 o2 o3).mono ?_
  rintro e u0 ⟨a0, a1, a2, a3, e0, e1, e2, e3, m1, m2, m3, m4, rfl, t0, t1, t2, t3, g1, g2, g3, g4, g5, hb⟩
  have hz := hb.size
  have zb3 := Nat.lt_of_lt_of_le o3.1 hz
  replace A0 := A0.below hb A0.lt; replace R0 := R0.below hb R0.lt; replace L0 := L0.trans (hb.mono L0.size); replace K1 := K1.below hb K1.1; replace o3 := o3.below hb o3.1
  clear hb o0 o1 o2 t3
  have X0 := Box.new u0 (.slice a0 l0.length e0) (.slice a1 l1.length e1) (.slice a2 l2.length e2) (.slice a3 l3.length e3) 28
  have al : Below u0.heap.size u0 (u0.alloc (.cells #[.slice a0 l0.length e0, .slice a1 l1.length e1, .slice a2 l2.length e2, .slice a3 l3.length e3] 28)) := (Below.refl _ _).alloc (Nat.le_refl _) _
  have zU : (u0.alloc (.cells #[.slice a0 l0.length e0, .slice a1 l1.length e1, .slice a2 l2.length e2, .slice a3 l3.length e3] 28)).heap.size = u0.heap.size + 1 := by simp
  replace t0 := t0.below al (by omega); replace t1 := t1.below al (by omega); replace t2 := t2.below al (by omega)
  replace A0 := A0.below al A0.lt; replace R0 := R0.below al R0.lt; replace L0 := L0.trans (al.mono L0.size); replace K1 := K1.below al K1.1; replace o3 := o3.below al o3.1
  clear al
  have T2 := t2.below ((Below.refl _ _).alloc (Nat.le_refl _) (.cells #[.int .i64 sg.1, .int .i64 f] 69)) (by omega)
  have xx := Box.new u0 (.slice a0 l0.length e0) (.slice a1 l1.length e1) (.slice a2 l2.length e2) (.slice a3 l3.length e3) 28
  have x0 := X0.c0; have x1 := X0.c1; have x2 := X0.c2; have x3 := X0.c3; have xf := X0.f2
  have y1 := (K1.2.2 0 (by omega)).1
  have y2 := (K1.2.2 0 (by omega)).2
  have zS2 : S < u0.heap.size := by omega
  go_wp2_with (first | (at_builtin; refine wpList_room rfl _ _ rfl m2 m3 a2 l2.length e2 l2 rfl (by exact T2) (u0.heap.size + 1) 1 1 [(sg.1, f)] rfl rfl (by rw [← zU]; exact own_pair _ _ _) (by omega) (by simp; omega) ?_))
  intro p2 q2 u5 r2 ho
  have al : Below (u0.alloc (.cells #[.slice a0 l0.length e0, .slice a1 l1.length e1, .slice a2 l2.length e2, .slice a3 l3.length e3] 28)).heap.size (u0.alloc (.cells #[.slice a0 l0.length e0, .slice a1 l1.length e1, .slice a2 l2.length e2, .slice a3 l3.length e3] 28)) ((u0.alloc (.cells #[.slice a0 l0.length e0, .slice a1 l1.length e1, .slice a2 l2.length e2, .slice a3 l3.length e3] 28)).alloc (.cells #[.int .i64 sg.1, .int .i64 f] 69)) := (Below.refl _ _).alloc (Nat.le_refl _) _
  have zV : ((u0.alloc (.cells #[.slice a0 l0.length e0, .slice a1 l1.length e1, .slice a2 l2.length e2, .slice a3 l3.length e3] 28)).alloc (.cells #[.int .i64 sg.1, .int .i64 f] 69)).heap.size = u0.heap.size + 2 := by simp
  replace X0 := X0.below al X0.lt; replace t0 := t0.below al (by omega); replace t1 := t1.below al (by omega)
  replace A0 := A0.below al A0.lt; replace R0 := R0.below al R0.lt; replace L0 := L0.trans (al.mono L0.size); replace K1 := K1.below al K1.1; replace o3 := o3.below al o3.1
  clear al x0 x1 x2 x3 xf y1 y2 T2 xx t2
  have hs5 := ho.size
  replace X0 := X0.out ho (.inr (by omega)); replace t0 := t0.out ho (.inl (by omega)); replace t1 := t1.out ho (.inl (by omega))
  replace A0 := A0.out ho (.inl (by omega)); replace R0 := R0.out ho (.inl (by omega)); replace L0 := L0.trans (ho.below (by omega) L0.size); replace K1 := K1.out ho (.inl (by omega)); replace o3 := o3.out ho (.inl (by omega))
  clear ho
  generalize hZ : u0.heap.size = Z at *
  clear hZ
  have x2 := X0.c2; have xf := X0.f2
  go_upto_region 7 with fail
  have ho := Out.set Z 2 u5 (.slice p2 (l2.length + 1) q2)
  replace X0 := X0.set2 (.slice p2 (l2.length + 1) q2)
  replace t0 := t0.out ho (.inl (by omega)); replace t1 := t1.out ho (.inl (by omega)); replace r2 := r2.out ho (.inl (by omega)) (by omega)
  replace A0 := A0.out ho (.inl (by omega)); replace R0 := R0.out ho (.inl (by omega)); replace L0 := L0.trans (ho.below (by omega) L0.size); replace K1 := K1.out ho (.inl (by omega)); replace o3 := o3.out ho (.inl (by omega))
  have hsz : (u5.setCell ⟨Z, 2, none⟩ (.slice p2 (l2.length + 1) q2)).heap.size = u5.heap.size := by simp
  clear ho x2 xf
  generalize u5.setCell ⟨Z, 2, none⟩ (.slice p2 (l2.length + 1) q2) = wR at *
  rw [← hsz] at hs5
  clear hsz
  have zz : Z < wR.heap.size ∧ w.heap.size < wR.heap.size ∧ S < wR.heap.size := by omega
  have zn : w.heap.size ≠ Z ∧ S ≠ Z := by omega
  have zb3' : b3 < Z := by omega
  have ky := (K1.2.2 0 (by omega)).2
  have hS1 : UJ wR Z w.heap.size S (.slice a0 l0.length e0) (.slice a1 l1.length e1) (.slice p2 (l2.length + 1) q2) (.slice (some ⟨b3, 0, none⟩) l3.length c3) (.int .i64 sg.2) wR := ⟨Out.refl _ _ _, ⟨_, X0⟩, A0.c3, ky⟩
  have hS0 := uj_ad zz hS1
  go_cut [] (fun wz => ∃ p3 q3, Box wz Z (.slice a0 l0.length e0) (.slice a1 l1.length e1) (.slice p2 (l2.length + 1) q2) (.slice p3 (i + (l3.length - (i + 1)) + 1) q3) ∧ RowIn wz wR.heap.size wz.heap.size p3 (i + (l3.length - (i + 1)) + 1) (l3.take i ++ l3.drop (i + 1) ++ [(f, sg.2)]) ∧ Out Z (Z + 1) wR wz)
  case first =>
    go_region_held3 (fun W => Out Z (Z + 1) wR W ∧ (∃ x, Box W Z (.slice a0 l0.length e0) (.slice a1 l1.length e1) (.slice p2 (l2.length + 1) q2) x) ∧ W.cell? ⟨w.heap.size, 3, none⟩ = some (.slice (some ⟨b3, 0, none⟩) l3.length c3) ∧ W.cell? ⟨S, 1, none⟩ = some (.int .i64 sg.2))
      (first | exact hS0 | exact hS1 | assumption | (refine uj_ad zz ?_; assumption) | (refine uj_al zz _ ?_; (first | exact hS0 | exact hS1 | assumption)) | exact uj_ad zz (uj_al zz _ hS1) | (refine uj_store zn _ ?_; assumption) | (refine ⟨?_, ?_, ?_, ?_⟩ <;> assumption))
      (first
        | (go_at_call 180; refine (l4without_any b3 c3 l3 i _ hi n3 z3 (uj_own o3 zb3' (by assumption))).mono ?_; rintro e u6 ⟨x6, y6, rfl, d6, h6⟩; have kk := uj_room zz (by assumption) h6 d6; have k1 := kk.1; have d6' := kk.2.1; have g6 := kk.2.2)
        | (refine step_roomR (by rfl) _ _ (by rfl) wR.heap.size u6.heap.size x6 (i + (l3.length - (i + 1))) y6 (l3.take i ++ l3.drop (i + 1)) (by rfl) (d6'.below ((Below.refl _ _).alloc (Nat.le_refl _) _) (Nat.le_refl _)) ⟨u6.heap.size, 0, none⟩ 1 1 [(f, sg.2)] (by rfl) rfl (own_pair u6 f sg.2).row (by omega) (Nat.le_trans g6 (by simp)) (by simp) ?_; rintro x7 y7 u7 d7 h7; have k2 := uj_out (uj_al zz _ k1) h7 (Nat.le_refl _) zz.1 zz.2.1 zz.2.2; obtain ⟨xo, bx⟩ := k2.2.1; have c3' := bx.c3; have f3' := bx.f3)
        | (refine step_roomR (by rfl) _ _ (by rfl) wR.heap.size u6.heap.size x6 (i + (l3.length - (i + 1))) y6 (l3.take i ++ l3.drop (i + 1)) (by rfl) d6' ⟨wR.heap.size, 0, none⟩ 1 1 [(f, sg.2)] (by rfl) rfl (pair_be h6).row (by omega) g6 (Nat.le_refl _) ?_; rintro x7 y7 u7 d7 h7; have k2 := uj_out k1 h7 (Nat.le_refl _) zz.1 zz.2.1 zz.2.2; obtain ⟨xo, bx⟩ := k2.2.1; have c3' := bx.c3; have f3' := bx.f3))
    all_goals
      have bz := bx.set3 (.slice x7 (i + (l3.length - (i + 1)) + 1) y7)
      have ho7 := k2.1.trans (Out.set Z 3 u7 (.slice x7 (i + (l3.length - (i + 1)) + 1) y7))
      have d7' := d7.row.out (Out.set Z 3 u7 (.slice x7 (i + (l3.length - (i + 1)) + 1) y7)) (.inr (by omega))
      go_wp2_with fail
      go_meet
      exact ⟨x7, y7, bz, by simpa using d7', ho7⟩
  case rest =>
    obtain ⟨p3, q3, X7, r3, hO⟩ := hcut
    rename World => w7
    clear hS0 hS1 ky A0 K1 o3
    have s7 := hO.size
    replace t0 := t0.out hO (.inl (by omega)); replace t1 := t1.out hO (.inl (by omega)); replace r2 := r2.out hO (.inl (by omega)) (by omega)
    replace R0 := R0.out hO (.inl (by omega)); replace L0 := L0.trans (hO.below (by omega) L0.size)
    clear hO
    obtain ⟨F, FO⟩ := R0.fill (.slice a0 l0.length e0) (.slice a1 l1.length e1) (.slice p2 (l2.length + 1) q2) (.slice p3 (i + (l3.length - (i + 1)) + 1) q3)
    have x0 := X7.c0; have x1 := X7.c1; have x2 := X7.c2; have x3 := X7.c3
    have j0' := R0.c0; have j1' := R0.c1; have j2' := R0.c2; have j3' := R0.c3
    have g0 := R0.f0; have g1 := R0.f1; have g2 := R0.f2; have g3 := R0.f3
    go_wp2
    have i0 := F.c0; have i1 := F.c1; have i2 := F.c2; have i3 := F.c3
    refine bodyPost_ret (v := .tuple #[.agg #[.slice a0 l0.length e0, .slice a1 l1.length e1, .slice p2 (l2.length + 1) q2, .slice p3 (i + (l3.length - (i + 1)) + 1) q3], .bool true]) ?_ rfl ⟨a0, a1, p2, p3, e0, e1, q2, q3, rfl, ?_, ⟨t0.ne, t1.ne, r2.ne (by omega), r3.ne (by omega)⟩, ?_⟩
    · simp [results, Try.results177, go_sem, i0, i1, i2, i3]
    · have hfs := FO.size
      rw [HSG.out]
      exact ⟨(t0.row.out FO (.inr (by omega))).mono (by omega) (by omega), (t1.row.out FO (.inr (by omega))).mono (by omega) (by omega), ((r2.row (B := w.heap.size + 2) (by omega) (by omega)).out FO (.inr (by omega))).mono (by omega) (by omega), (r3.out FO (.inr (by omega))).mono (by omega) (by omega)⟩
    · exact L0.trans (FO.below (by omega) L0.size)

theorem l4unfold_yes (b0 b1 b2 b3 c0 c1 c2 c3 : Nat) (l0 l1 l2 l3 : List (Int × Int)) (i : Nat) (w : World) (n0 : l0.length ≤ 1048576) (n1 : l1.length ≤ 1048576) (n2 : l2.length ≤ 1048576) (n3 : l3.length ≤ 1048576) (o0 : Own w b0 l0.length l0 l0.length) (o1 : Own w b1 l1.length l1 l1.length) (o2 : Own w b2 l2.length l2 l2.length) (o3 : Own w b3 l3.length l3 l3.length) (z3 : l3.length ≤ c3) (ht : asnB l0 l1 l2 l3 = true) (hi : i < l3.length) (hf : 0 ≤ freshF (usedV l0 l1 l2 l3)) (hr : l2.length + l3.length < 6) :
    Calls Try.prog 177 #[.agg #[.slice (some ⟨b0, 0, none⟩) l0.length c0, .slice (some ⟨b1, 0, none⟩) l1.length c1, .slice (some ⟨b2, 0, none⟩) l2.length c2, .slice (some ⟨b3, 0, none⟩) l3.length c3], .int .i64 i] w fun e w' => ∃ p0 p1 p2 p3 q0 q1 q2 q3, e = .returned (.tuple #[.agg #[.slice p0 l0.length q0, .slice p1 l1.length q1, .slice p2 (l2.length + 1) q2, .slice p3 (i + (l3.length - (i + 1)) + 1) q3], .bool true]) ∧ Seen w' w.heap.size w'.heap.size p0 p1 p2 p3 l0.length l1.length (l2.length + 1) (i + (l3.length - (i + 1)) + 1) l0 l1 (unfC l2 (l3.getD i (0, 0)) (freshF (usedV l0 l1 l2 l3))) (unfS l3 i (l3.getD i (0, 0)) (freshF (usedV l0 l1 l2 l3))) ∧ Below w.heap.size w w' :=
  (l4unfold_ne b0 b1 b2 b3 c0 c1 c2 c3 l0 l1 l2 l3 i w n0 n1 n2 n3 o0 o1 o2 o3 z3 ht hi hf hr).mono fun e w' h => by
    obtain ⟨p0, p1, p2, p3, q0, q1, q2, q3, h1, h2, _, h3⟩ := h
    exact ⟨p0, p1, p2, p3, q0, q1, q2, q3, h1, h2, h3⟩

set_option maxRecDepth 20000 in
set_option maxHeartbeats 2000000 in
theorem l4unfold_no (b0 b1 b2 b3 c0 c1 c2 c3 : Nat) (l0 l1 l2 l3 : List (Int × Int)) (i : Nat) (w : World) (n0 : l0.length ≤ 1048576) (n1 : l1.length ≤ 1048576) (n2 : l2.length ≤ 1048576) (n3 : l3.length ≤ 1048576) (o0 : Own w b0 l0.length l0 l0.length) (o1 : Own w b1 l1.length l1 l1.length) (o2 : Own w b2 l2.length l2 l2.length) (o3 : Own w b3 l3.length l3 l3.length) (ht : asnB l0 l1 l2 l3 = true) (hno : freshF (usedV l0 l1 l2 l3) < 0 ∨ 6 ≤ l2.length + l3.length) :
    Calls Try.prog 177 #[.agg #[.slice (some ⟨b0, 0, none⟩) l0.length c0, .slice (some ⟨b1, 0, none⟩) l1.length c1, .slice (some ⟨b2, 0, none⟩) l2.length c2, .slice (some ⟨b3, 0, none⟩) l3.length c3], .int .i64 i] w fun e w' => e = .returned (.tuple #[.agg #[.slice (some ⟨b0, 0, none⟩) l0.length c0, .slice (some ⟨b1, 0, none⟩) l1.length c1, .slice (some ⟨b2, 0, none⟩) l2.length c2, .slice (some ⟨b3, 0, none⟩) l3.length c3], .bool false]) ∧ Below w.heap.size w w' := by
  obtain ⟨f, hff⟩ : ∃ f, Hid (freshF (usedV l0 l1 l2 l3) = f) := ⟨_, rfl⟩
  rw [hff.out] at hno
  have A0 := (Box.new w (.slice (some ⟨b0, 0, none⟩) l0.length c0) (.slice (some ⟨b1, 0, none⟩) l1.length c1) (.slice (some ⟨b2, 0, none⟩) l2.length c2) (.slice (some ⟨b3, 0, none⟩) l3.length c3) 28).alloc (.cells #[.slice none 0 0, .slice none 0 0, .slice none 0 0, .slice none 0 0] 28)
  have R0 := Box.new (w.alloc (.cells #[.slice (some ⟨b0, 0, none⟩) l0.length c0, .slice (some ⟨b1, 0, none⟩) l1.length c1, .slice (some ⟨b2, 0, none⟩) l2.length c2, .slice (some ⟨b3, 0, none⟩) l3.length c3] 28)) (.slice none 0 0) (.slice none 0 0) (.slice none 0 0) (.slice none 0 0) 28
  have L0 : Below w.heap.size w ((w.alloc (.cells #[.slice (some ⟨b0, 0, none⟩) l0.length c0, .slice (some ⟨b1, 0, none⟩) l1.length c1, .slice (some ⟨b2, 0, none⟩) l2.length c2, .slice (some ⟨b3, 0, none⟩) l3.length c3] 28)).alloc (.cells #[.slice none 0 0, .slice none 0 0, .slice none 0 0, .slice none 0 0] 28)) := ((Below.refl _ _).alloc (Nat.le_refl _) _).alloc (by simp) _
  rw [World.size_alloc] at R0
  go_enter Try.func177, Try.ntmps177
  go_wp2_with fail
  refine (l1fresh_any _ _ _ _ _ _ _ _ l0 l1 l2 l3 _ n0 n1 n2 n3 (o0.row.below L0 (Nat.le_refl _)) (o1.row.below L0 (Nat.le_refl _)) (o2.row.below L0 (Nat.le_refl _)) (o3.row.below L0 (Nat.le_refl _)) ht).mono ?_
  rintro e w1 ⟨rfl, hb⟩
  rw [hff.out]
  replace A0 := A0.below hb A0.lt; replace R0 := R0.below hb R0.lt; replace L0 := L0.trans (hb.mono L0.size)
  clear hb ht o0 o1 o2 o3
  have A0c0 := A0.c0; have A0c1 := A0.c1; have A0c2 := A0.c2; have A0c3 := A0.c3
  obtain ⟨F, FO⟩ := R0.fill (.slice (some ⟨b0, 0, none⟩) l0.length c0) (.slice (some ⟨b1, 0, none⟩) l1.length c1) (.slice (some ⟨b2, 0, none⟩) l2.length c2) (.slice (some ⟨b3, 0, none⟩) l3.length c3)
  have j0' := R0.c0; have j1' := R0.c1; have j2' := R0.c2; have j3' := R0.c3
  have g0 := R0.f0; have g1 := R0.f1; have g2 := R0.f2; have g3 := R0.f3
  have i0 := F.c0; have i1 := F.c1; have i2 := F.c2; have i3 := F.c3
  by_cases hf : f < 0
  · go_wp2
    refine bodyPost_ret (v := .tuple #[.agg #[.slice (some ⟨b0, 0, none⟩) l0.length c0, .slice (some ⟨b1, 0, none⟩) l1.length c1, .slice (some ⟨b2, 0, none⟩) l2.length c2, .slice (some ⟨b3, 0, none⟩) l3.length c3], .bool false]) ?_ rfl ⟨rfl, L0.trans (FO.below (by omega) L0.size)⟩
    simp [results, Try.results177, go_sem, i0, i1, i2, i3]
  · have hr : 6 ≤ (l2.length : Int) + (l3.length : Int) := by omega
    go_wp2
    refine bodyPost_ret (v := .tuple #[.agg #[.slice (some ⟨b0, 0, none⟩) l0.length c0, .slice (some ⟨b1, 0, none⟩) l1.length c1, .slice (some ⟨b2, 0, none⟩) l2.length c2, .slice (some ⟨b3, 0, none⟩) l3.length c3], .bool false]) ?_ rfl ⟨rfl, L0.trans (FO.below (by omega) L0.size)⟩
    simp [results, Try.results177, go_sem, i0, i1, i2, i3]

end Go.Proofs.Ytphchdjbhbmnbaa
namespace Go.Proofs.Ytphchdjbhbmnbaa
open Go.RowKit
set_option linter.unusedVariables false

/-- What spec.l7expose answers: the assertion itself with the place of a cell; nothing there; unfolded; no room. -/
def ExP (w w' : World) (e : Ending) (b0 b1 b2 b3 c0 c1 c2 c3 : Nat) (l0 l1 l2 l3 : List (Int × Int)) (t : Nat) : Prop :=
  (0 ≤ idxV (headsOf (clsV l0) l2) ((clsV l0).getD t 0) ∧ e = .returned (.tuple #[.agg #[.slice (some ⟨b0, 0, none⟩) l0.length c0, .slice (some ⟨b1, 0, none⟩) l1.length c1, .slice (some ⟨b2, 0, none⟩) l2.length c2, .slice (some ⟨b3, 0, none⟩) l3.length c3], .int .i64 (idxV (headsOf (clsV l0) l2) ((clsV l0).getD t 0)), .int .i64 0])) ∨
  (idxV (headsOf (clsV l0) l2) ((clsV l0).getD t 0) < 0 ∧ idxV (headsOf (clsV l0) l3) ((clsV l0).getD t 0) < 0 ∧ e = .returned (.tuple #[.agg #[.slice (some ⟨b0, 0, none⟩) l0.length c0, .slice (some ⟨b1, 0, none⟩) l1.length c1, .slice (some ⟨b2, 0, none⟩) l2.length c2, .slice (some ⟨b3, 0, none⟩) l3.length c3], .int .i64 (-1), .int .i64 1])) ∨
  (idxV (headsOf (clsV l0) l2) ((clsV l0).getD t 0) < 0 ∧ ∃ k : Nat, k < l3.length ∧ idxV (headsOf (clsV l0) l3) ((clsV l0).getD t 0) = (k : Int) ∧ (0 ≤ freshF (usedV l0 l1 l2 l3) ∧ l2.length + l3.length < 6) ∧ ∃ p0 p1 p2 p3 q0 q1 q2 q3, e = .returned (.tuple #[.agg #[.slice p0 l0.length q0, .slice p1 l1.length q1, .slice p2 (l2.length + 1) q2, .slice p3 (k + (l3.length - (k + 1)) + 1) q3], .int .i64 (l2.length : Int), .int .i64 0]) ∧ Seen w' w.heap.size w'.heap.size p0 p1 p2 p3 l0.length l1.length (l2.length + 1) (k + (l3.length - (k + 1)) + 1) l0 l1 (unfC l2 (l3.getD k (0, 0)) (freshF (usedV l0 l1 l2 l3))) (unfS l3 k (l3.getD k (0, 0)) (freshF (usedV l0 l1 l2 l3))) ∧ (p0 ≠ none ∧ p1 ≠ none ∧ p2 ≠ none ∧ p3 ≠ none)) ∨
  (idxV (headsOf (clsV l0) l2) ((clsV l0).getD t 0) < 0 ∧ ∃ k : Nat, k < l3.length ∧ idxV (headsOf (clsV l0) l3) ((clsV l0).getD t 0) = (k : Int) ∧ ¬ (0 ≤ freshF (usedV l0 l1 l2 l3) ∧ l2.length + l3.length < 6) ∧ e = .returned (.tuple #[.agg #[.slice (some ⟨b0, 0, none⟩) l0.length c0, .slice (some ⟨b1, 0, none⟩) l1.length c1, .slice (some ⟨b2, 0, none⟩) l2.length c2, .slice (some ⟨b3, 0, none⟩) l3.length c3], .int .i64 (-1), .int .i64 2]))

theorem xe_store {W : World} {Z R : Nat} {v0 v1 v2 v3 : Value} (hz : Z ≠ R) (y0 y1 y2 y3 : Value) (h : W.cell? ⟨Z, 0, none⟩ = some v0 ∧ W.cell? ⟨Z, 1, none⟩ = some v1 ∧ W.cell? ⟨Z, 2, none⟩ = some v2 ∧ W.cell? ⟨Z, 3, none⟩ = some v3) :
    ((((W.setCell ⟨R, 0, none⟩ y0).setCell ⟨R, 1, none⟩ y1).setCell ⟨R, 2, none⟩ y2).setCell ⟨R, 3, none⟩ y3).cell? ⟨Z, 0, none⟩ = some v0 ∧ ((((W.setCell ⟨R, 0, none⟩ y0).setCell ⟨R, 1, none⟩ y1).setCell ⟨R, 2, none⟩ y2).setCell ⟨R, 3, none⟩ y3).cell? ⟨Z, 1, none⟩ = some v1 ∧ ((((W.setCell ⟨R, 0, none⟩ y0).setCell ⟨R, 1, none⟩ y1).setCell ⟨R, 2, none⟩ y2).setCell ⟨R, 3, none⟩ y3).cell? ⟨Z, 2, none⟩ = some v2 ∧ ((((W.setCell ⟨R, 0, none⟩ y0).setCell ⟨R, 1, none⟩ y1).setCell ⟨R, 2, none⟩ y2).setCell ⟨R, 3, none⟩ y3).cell? ⟨Z, 3, none⟩ = some v3 := by
  have key : ∀ (V : World) (i o : Nat) (u : Value), (V.setCell ⟨R, i, none⟩ u).cell? ⟨Z, o, none⟩ = V.cell? ⟨Z, o, none⟩ := fun V i o u => World.cell?_setCell_other _ _ _ _ (by intro e; injection e with e1; omega)
  simp only [key]
  exact h

set_option maxRecDepth 20000 in
set_option maxHeartbeats 4000000 in
theorem l7expose_any (b0 b1 b2 b3 c0 c1 c2 c3 : Nat) (l0 l1 l2 l3 : List (Int × Int)) (t : Nat) (ht : t < 16) (w : World) (n0 : l0.length ≤ 1048576) (n1 : l1.length ≤ 1048576) (n2 : l2.length ≤ 1048576) (n3 : l3.length ≤ 1048576) (o0 : Own w b0 l0.length l0 l0.length) (o1 : Own w b1 l1.length l1 l1.length) (o2 : Own w b2 l2.length l2 l2.length) (o3 : Own w b3 l3.length l3 l3.length) (z3 : l3.length ≤ c3) (hok : asnB l0 l1 l2 l3 = true) :
    Calls Try.prog 197 #[.agg #[.slice (some ⟨b0, 0, none⟩) l0.length c0, .slice (some ⟨b1, 0, none⟩) l1.length c1, .slice (some ⟨b2, 0, none⟩) l2.length c2, .slice (some ⟨b3, 0, none⟩) l3.length c3], .int .i64 t] w fun e w' => ExP w w' e b0 b1 b2 b3 c0 c1 c2 c3 l0 l1 l2 l3 t ∧ Below w.heap.size w w' := by
  obtain ⟨t0, t1, t2, t3⟩ := asnB_toks hok
  have A0 := (Box.new w (.slice (some ⟨b0, 0, none⟩) l0.length c0) (.slice (some ⟨b1, 0, none⟩) l1.length c1) (.slice (some ⟨b2, 0, none⟩) l2.length c2) (.slice (some ⟨b3, 0, none⟩) l3.length c3) 28).alloc (.cells #[.slice none 0 0, .slice none 0 0, .slice none 0 0, .slice none 0 0] 28)
  have R0 := Box.new (w.alloc (.cells #[.slice (some ⟨b0, 0, none⟩) l0.length c0, .slice (some ⟨b1, 0, none⟩) l1.length c1, .slice (some ⟨b2, 0, none⟩) l2.length c2, .slice (some ⟨b3, 0, none⟩) l3.length c3] 28)) (.slice none 0 0) (.slice none 0 0) (.slice none 0 0) (.slice none 0 0) 28
  have L0 : Below w.heap.size w ((w.alloc (.cells #[.slice (some ⟨b0, 0, none⟩) l0.length c0, .slice (some ⟨b1, 0, none⟩) l1.length c1, .slice (some ⟨b2, 0, none⟩) l2.length c2, .slice (some ⟨b3, 0, none⟩) l3.length c3] 28)).alloc (.cells #[.slice none 0 0, .slice none 0 0, .slice none 0 0, .slice none 0 0] 28)) := ((Below.refl _ _).alloc (Nat.le_refl _) _).alloc (by simp) _
  rw [World.size_alloc] at R0
  replace o0 := o0.below (L0) o0.1; replace o1 := o1.below (L0) o1.1; replace o2 := o2.below (L0) o2.1; replace o3 := o3.below (L0) o3.1
  go_enter Try.func197, Try.ntmps197
  have A0c0 := A0.c0; have A0c1 := A0.c1; have A0c2 := A0.c2; have A0c3 := A0.c3
  go_wp2_with fail
  clear A0c0 A0c1 A0c2 A0c3
  refine (l7cell_any _ _ _ _ _ _ _ _ l0 l1 l2 l3 t ht _ n0 n2 t0 t2 o0.row o2.row).mono ?_
  rintro e w1 ⟨rfl, hb⟩
  replace A0 := A0.below hb A0.lt; replace R0 := R0.below hb R0.lt; replace L0 := L0.trans (hb.mono L0.size)
  replace o0 := o0.below (hb) o0.1; replace o1 := o1.below (hb) o1.1; replace o2 := o2.below (hb) o2.1; replace o3 := o3.below (hb) o3.1
  clear hb
  obtain ⟨ci, hci⟩ : ∃ ci, Hid (idxV (headsOf (clsV l0) l2) ((clsV l0).getD t 0) = ci) := ⟨_, rfl⟩
  rw [hci.out]
  by_cases hc0 : 0 ≤ ci
  · have hge : ¬ ci < 0 := by omega
    obtain ⟨F, FO⟩ := R0.fill (.slice (some ⟨b0, 0, none⟩) l0.length c0) (.slice (some ⟨b1, 0, none⟩) l1.length c1) (.slice (some ⟨b2, 0, none⟩) l2.length c2) (.slice (some ⟨b3, 0, none⟩) l3.length c3)
    have j0' := R0.c0; have j1' := R0.c1; have j2' := R0.c2; have j3' := R0.c3
    have g0 := R0.f0; have g1 := R0.f1; have g2 := R0.f2; have g3 := R0.f3
    have A0c0 := A0.c0; have A0c1 := A0.c1; have A0c2 := A0.c2; have A0c3 := A0.c3
    go_wp2
    have i0 := F.c0; have i1 := F.c1; have i2 := F.c2; have i3 := F.c3
    refine bodyPost_ret (v := .tuple #[.agg #[.slice (some ⟨b0, 0, none⟩) l0.length c0, .slice (some ⟨b1, 0, none⟩) l1.length c1, .slice (some ⟨b2, 0, none⟩) l2.length c2, .slice (some ⟨b3, 0, none⟩) l3.length c3], .int .i64 ci, .int .i64 0]) ?_ rfl ⟨.inl ⟨by rw [hci.out]; exact hc0, by rw [hci.out]⟩, L0.trans (FO.below (by omega) L0.size)⟩
    simp [results, Try.results197, go_sem, i0, i1, i2, i3]
  have hcn : ci < 0 := by omega
  have HCN : Hid (idxV (headsOf (clsV l0) l2) ((clsV l0).getD t 0) < 0) := by show idxV _ _ < 0; rw [hci.out]; exact hcn
  have A0c0 := A0.c0; have A0c1 := A0.c1; have A0c2 := A0.c2; have A0c3 := A0.c3
  go_wp2_with fail
  clear A0c0 A0c1 A0c2 A0c3 hcn hc0
  refine (l3classes_any _ _ _ _ _ _ _ _ l0 l1 l2 l3 _ n0 t0 o0.row).mono ?_
  rintro e w2 ⟨bR, cR, rfl, hzR, CO, hb⟩
  replace A0 := A0.below hb A0.lt; replace R0 := R0.below hb R0.lt; replace L0 := L0.trans (hb.mono L0.size)
  replace o0 := o0.below (hb) o0.1; replace o1 := o1.below (hb) o1.1; replace o2 := o2.below (hb) o2.1; replace o3 := o3.below (hb) o3.1
  clear hb
  have HLEN : Hid ((headsOf (clsV l0) l3).length = l3.length) := headsOf_length _ l3
  have HEX : Hid (clsV l0 = clsV l0) := rfl
  obtain ⟨c, HCE⟩ : ∃ c, Hid (clsV l0 = c) := ⟨_, rfl⟩
  rw [HCE.out] at CO HLEN
  obtain ⟨v, hv⟩ : ∃ v, Hid (c.getD t 0 = v) := ⟨_, rfl⟩
  have zW : w.heap.size + 1 < w2.heap.size := R0.lt
  go_wp2
  go_loopw [9] (fun i wr => ∃ k : Nat, k ≤ l3.length ∧ i = .int .i64 k ∧ Hid (∀ j, j < k → ¬ (headsOf c l3).getD j 0 = v) ∧ Below w2.heap.size w2 wr) (fun i _ => l3.length - (intOf i).toNat)
  case atStart => exact ⟨0, Nat.zero_le _, rfl, fun j hj => absurd hj (Nat.not_lt_zero _), Below.refl _ _⟩
  case round =>
    obtain ⟨k, hk, rfl, HM, hbw⟩ := hrel
    replace CO := CO.below hbw CO.1
    replace A0 := A0.below hbw A0.lt; replace R0 := R0.below hbw R0.lt; replace L0 := L0.trans (hbw.mono L0.size)
    replace o0 := o0.below (hbw) o0.1; replace o1 := o1.below (hbw) o1.1; replace o2 := o2.below (hbw) o2.1; replace o3 := o3.below (hbw) o3.1
    have e3 := A0.c3
    by_cases hltx : k < l3.length
    · have hq0 := (o3.2.2 k hltx).1
      have hkn : (k : Int) < (l3.length : Int) := by omega
      have hk0' : (0 : Int) ≤ (k : Int) := by omega
      have htk := (toks_get t3 hltx).1
      have HAT : Hid ((headsOf c l3).getD k 0 = c.getD (l3.getD k (0, 0)).1.toNat 0) := headsOf_at c hltx
      obtain ⟨q1, q2⟩ := htk
      obtain ⟨x, hx0, hx⟩ : ∃ x : Nat, (l3.getD k (0, 0)).1 = (x : Int) ∧ x < 16 := ⟨(l3.getD k (0, 0)).1.toNat, by omega, by omega⟩
      rw [hx0] at hq0 HAT
      rw [Int.toNat_natCast] at HAT
      clear q1 q2 hx0
      have hxi : (x : Int) < 16 := by omega
      have hxz : (0 : Int) ≤ (x : Int) := by omega
      have hti : (t : Int) < 16 := by omega
      have htz : (0 : Int) ≤ (t : Int) := by omega
      have ex := CO.2.2 x hx
      have et := CO.2.2 t ht
      rw [hv.out] at et
      generalize c.getD x 0 = u at *
      have hlw := L0
      go_upto_region 8 with fail
      have hS0 : Below wr.heap.size wr wr.drew ∧ wr.drew.cell? ⟨w.heap.size, 3, none⟩ = some (.slice (some ⟨b3, 0, none⟩) l3.length c3) ∧ wr.drew.cell? ⟨b3, k * 2, none⟩ = some (.int .i64 x) ∧ wr.drew.cell? ⟨bR, x, none⟩ = some (.int .i64 u) ∧ wr.drew.cell? ⟨bR, t, none⟩ = some (.int .i64 v) := ⟨(Below.refl _ _).drew, e3, hq0, ex, et⟩
      go_region_held3 (fun w' => Below wr.heap.size wr w' ∧ w'.cell? ⟨w.heap.size, 3, none⟩ = some (.slice (some ⟨b3, 0, none⟩) l3.length c3) ∧ w'.cell? ⟨b3, k * 2, none⟩ = some (.int .i64 x) ∧ w'.cell? ⟨bR, x, none⟩ = some (.int .i64 u) ∧ w'.cell? ⟨bR, t, none⟩ = some (.int .i64 v))
        (first | exact hS0 | assumption | (refine ⟨?_, ?_, ?_, ?_, ?_⟩ <;> assumption))
        (fail)
      have hb := hS0.1
      replace A0 := A0.below hb A0.lt; replace R0 := R0.below hb R0.lt; replace L0 := L0.trans (hb.mono L0.size)
      replace o0 := o0.below (hb) o0.1; replace o1 := o1.below (hb) o1.1; replace o2 := o2.below (hb) o2.1; replace o3 := o3.below (hb) o3.1
      have hbw2 := hbw.trans (hb.mono hbw.size)
      clear hS0 e3 hq0 ex et hb hbw hlw CO
      generalize wr.drew = wd at *
      by_cases huv : u = v
      · have HR : Hid (idxV (headsOf (clsV l0) l3) ((clsV l0).getD t 0) = (k : Int)) := by
          show idxV _ _ = _
          rw [HCE.out, hv.out]
          exact (idx_hit (by rw [HLEN.out]; exact hltx) HM.out (HAT.out.trans huv)).1
        subst huv
        clear HM HAT HLEN
        have A0c0 := A0.c0; have A0c1 := A0.c1; have A0c2 := A0.c2; have A0c3 := A0.c3
        by_cases hy : 0 ≤ freshF (usedV l0 l1 l2 l3) ∧ l2.length + l3.length < 6
        · have HY' : Hid (0 ≤ freshF (usedV l0 l1 l2 l3) ∧ l2.length + l3.length < 6) := hy
          go_wp2_with fail
          clear A0c0 A0c1 A0c2 A0c3
          refine (l4unfold_ne b0 b1 b2 b3 c0 c1 c2 c3 l0 l1 l2 l3 k _ n0 n1 n2 n3 o0 o1 o2 o3 z3 hok hltx hy.1 hy.2).mono ?_
          rintro e w6 ⟨p0, p1, p2, p3, q0, q1, q2, q3, rfl, T, ne, hb⟩
          have al : Below w6.heap.size w6 (w6.alloc (.cells #[.slice p0 l0.length q0, .slice p1 l1.length q1, .slice p2 (l2.length + 1) q2, .slice p3 (k + (l3.length - (k + 1)) + 1) q3] 28)) := (Below.refl _ _).alloc (Nat.le_refl _) _
          have BX := Box.new w6 (.slice p0 l0.length q0) (.slice p1 l1.length q1) (.slice p2 (l2.length + 1) q2) (.slice p3 (k + (l3.length - (k + 1)) + 1) q3) 28
          have zr := R0.lt
          replace R0 := (R0.below hb R0.lt).below al (Nat.lt_of_lt_of_le R0.lt hb.size); replace L0 := (L0.trans (hb.mono L0.size)).trans (al.mono (Nat.le_trans L0.size hb.size))
          replace T := T.below al (Nat.le_refl _)
          have s6 := hb.size
          have s7 := al.size
          have T2 := T.mono (show w.heap.size + 2 ≤ wd.heap.size by omega) (Nat.le_refl _)
          have zZ : w.heap.size + 1 < w6.heap.size := by omega
          clear hb al A0 T o0 o1 o2 o3
          go_upto_region 10 with fail
          generalize w6.alloc (.cells #[.slice p0 l0.length q0, .slice p1 l1.length q1, .slice p2 (l2.length + 1) q2, .slice p3 (k + (l3.length - (k + 1)) + 1) q3] 28) = w7 at *
          generalize hZ : w6.heap.size = Z at *
          clear hZ
          go_upto_region 12 with fail
          have hS0 : w7.drew.cell? ⟨Z, 0, none⟩ = some (.slice p0 l0.length q0) ∧ w7.drew.cell? ⟨Z, 1, none⟩ = some (.slice p1 l1.length q1) ∧ w7.drew.cell? ⟨Z, 2, none⟩ = some (.slice p2 (l2.length + 1) q2) ∧ w7.drew.cell? ⟨Z, 3, none⟩ = some (.slice p3 (k + (l3.length - (k + 1)) + 1) q3) := ⟨BX.c0, BX.c1, BX.c2, BX.c3⟩
          have hzn : Z ≠ w.heap.size + 1 := by omega
          have hS2 : ((((w7.setCell ⟨w.heap.size + 1, 0, none⟩ (.slice p0 l0.length q0)).setCell ⟨w.heap.size + 1, 1, none⟩ (.slice p1 l1.length q1)).setCell ⟨w.heap.size + 1, 2, none⟩ (.slice p2 (l2.length + 1) q2)).setCell ⟨w.heap.size + 1, 3, none⟩ (.slice p3 (k + (l3.length - (k + 1)) + 1) q3)).drew.cell? ⟨Z, 0, none⟩ = some (.slice p0 l0.length q0) ∧ ((((w7.setCell ⟨w.heap.size + 1, 0, none⟩ (.slice p0 l0.length q0)).setCell ⟨w.heap.size + 1, 1, none⟩ (.slice p1 l1.length q1)).setCell ⟨w.heap.size + 1, 2, none⟩ (.slice p2 (l2.length + 1) q2)).setCell ⟨w.heap.size + 1, 3, none⟩ (.slice p3 (k + (l3.length - (k + 1)) + 1) q3)).drew.cell? ⟨Z, 1, none⟩ = some (.slice p1 l1.length q1) ∧ ((((w7.setCell ⟨w.heap.size + 1, 0, none⟩ (.slice p0 l0.length q0)).setCell ⟨w.heap.size + 1, 1, none⟩ (.slice p1 l1.length q1)).setCell ⟨w.heap.size + 1, 2, none⟩ (.slice p2 (l2.length + 1) q2)).setCell ⟨w.heap.size + 1, 3, none⟩ (.slice p3 (k + (l3.length - (k + 1)) + 1) q3)).drew.cell? ⟨Z, 2, none⟩ = some (.slice p2 (l2.length + 1) q2) ∧ ((((w7.setCell ⟨w.heap.size + 1, 0, none⟩ (.slice p0 l0.length q0)).setCell ⟨w.heap.size + 1, 1, none⟩ (.slice p1 l1.length q1)).setCell ⟨w.heap.size + 1, 2, none⟩ (.slice p2 (l2.length + 1) q2)).setCell ⟨w.heap.size + 1, 3, none⟩ (.slice p3 (k + (l3.length - (k + 1)) + 1) q3)).drew.cell? ⟨Z, 3, none⟩ = some (.slice p3 (k + (l3.length - (k + 1)) + 1) q3) := xe_store hzn _ _ _ _ ⟨BX.c0, BX.c1, BX.c2, BX.c3⟩
          clear BX
          obtain ⟨F, FO⟩ := R0.fill (.slice p0 l0.length q0) (.slice p1 l1.length q1) (.slice p2 (l2.length + 1) q2) (.slice p3 (k + (l3.length - (k + 1)) + 1) q3)
          have m0 := R0.c0; have m1 := R0.c1; have m2 := R0.c2; have m3 := R0.c3
          have h0 := R0.f0; have h1 := R0.f1; have h2 := R0.f2; have h3 := R0.f3
          have hwr : IntKind.i64.wrap (((l2.length + 1 : Nat) : Int) - 1) = (l2.length : Int) := by rw [IntKind.wrap_i64]; omega
          go_region_held3 (fun W => W.cell? ⟨Z, 0, none⟩ = some (.slice p0 l0.length q0) ∧ W.cell? ⟨Z, 1, none⟩ = some (.slice p1 l1.length q1) ∧ W.cell? ⟨Z, 2, none⟩ = some (.slice p2 (l2.length + 1) q2) ∧ W.cell? ⟨Z, 3, none⟩ = some (.slice p3 (k + (l3.length - (k + 1)) + 1) q3))
            (first | with_reducible exact hS0 | with_reducible exact hS2 | with_reducible assumption)
            (fail)
          all_goals
            go_wp2
            have F2 := F.drew
            have hfs := FO.size
            have T3 := (T2.out FO (.inr (Nat.le_refl _))).below ((Below.refl _ _).drew) (Nat.le_trans s7 hfs)
            have L3 := (L0.trans (FO.below (by omega) L0.size)).drew
            have i0 := F2.c0; have i1 := F2.c1; have i2 := F2.c2; have i3 := F2.c3
            have hw2 : IntKind.i64.wrap (l2.length : Int) = (l2.length : Int) := by rw [IntKind.wrap_i64]; omega
            refine bodyPost_ret (v := .tuple #[.agg #[.slice p0 l0.length q0, .slice p1 l1.length q1, .slice p2 (l2.length + 1) q2, .slice p3 (k + (l3.length - (k + 1)) + 1) q3], .int .i64 (l2.length : Int), .int .i64 0]) ?_ rfl ⟨.inr (.inr (.inl ⟨HCN.out, k, hltx, HR.out, HY'.out, p0, p1, p2, p3, q0, q1, q2, q3, rfl, ?_, ne⟩)), ?_⟩
            · simp [results, Try.results197, go_sem, i0, i1, i2, i3, hw2]
            · exact T3.mono (by omega) (Nat.le_trans s7 hfs)
            · exact L3
        · have HY' : Hid (¬ (0 ≤ freshF (usedV l0 l1 l2 l3) ∧ l2.length + l3.length < 6)) := hy
          have hno : freshF (usedV l0 l1 l2 l3) < 0 ∨ 6 ≤ l2.length + l3.length := by omega
          go_wp2_with fail
          clear A0c0 A0c1 A0c2 A0c3
          refine (l4unfold_no b0 b1 b2 b3 c0 c1 c2 c3 l0 l1 l2 l3 k _ n0 n1 n2 n3 o0 o1 o2 o3 hok hno).mono ?_
          rintro e w6 ⟨rfl, hb⟩
          have al : Below w6.heap.size w6 (w6.alloc (.cells #[.slice (some ⟨b0, 0, none⟩) l0.length c0, .slice (some ⟨b1, 0, none⟩) l1.length c1, .slice (some ⟨b2, 0, none⟩) l2.length c2, .slice (some ⟨b3, 0, none⟩) l3.length c3] 28)) := (Below.refl _ _).alloc (Nat.le_refl _) _
          have zz : w.heap.size + 1 < w6.heap.size := Nat.lt_of_lt_of_le R0.lt hb.size
          have za : w.heap.size < w6.heap.size := Nat.lt_of_lt_of_le A0.lt hb.size
          replace R0 := (R0.below hb R0.lt).below al zz; replace A0 := (A0.below hb A0.lt).below al za; replace L0 := (L0.trans (hb.mono L0.size)).trans (al.mono (Nat.le_trans L0.size hb.size))
          clear hb al hno hy o0 o1 o2 o3
          go_upto_region 10 with fail
          generalize w6.alloc (.cells #[.slice (some ⟨b0, 0, none⟩) l0.length c0, .slice (some ⟨b1, 0, none⟩) l1.length c1, .slice (some ⟨b2, 0, none⟩) l2.length c2, .slice (some ⟨b3, 0, none⟩) l3.length c3] 28) = w7 at *
          obtain ⟨F, FO⟩ := R0.fill (.slice (some ⟨b0, 0, none⟩) l0.length c0) (.slice (some ⟨b1, 0, none⟩) l1.length c1) (.slice (some ⟨b2, 0, none⟩) l2.length c2) (.slice (some ⟨b3, 0, none⟩) l3.length c3)
          have j0' := R0.c0; have j1' := R0.c1; have j2' := R0.c2; have j3' := R0.c3
          have g0 := R0.f0; have g1 := R0.f1; have g2 := R0.f2; have g3 := R0.f3
          have A0c0 := A0.c0; have A0c1 := A0.c1; have A0c2 := A0.c2; have A0c3 := A0.c3
          go_wp2
          have i0 := F.c0; have i1 := F.c1; have i2 := F.c2; have i3 := F.c3
          refine bodyPost_ret (v := .tuple #[.agg #[.slice (some ⟨b0, 0, none⟩) l0.length c0, .slice (some ⟨b1, 0, none⟩) l1.length c1, .slice (some ⟨b2, 0, none⟩) l2.length c2, .slice (some ⟨b3, 0, none⟩) l3.length c3], .int .i64 (-1), .int .i64 2]) ?_ rfl ⟨.inr (.inr (.inr ⟨HCN.out, k, hltx, HR.out, HY'.out, rfl⟩)), L0.trans (FO.below (by omega) L0.size)⟩
          simp [results, Try.results197, go_sem, i0, i1, i2, i3]
      · have HM2 : Hid (∀ j, j < k + 1 → ¬ (headsOf c l3).getD j 0 = v) := by
          intro j hj
          by_cases e : j = k
          · subst e; rw [HAT.out]; exact huv
          · exact HM.out j (by omega)
        go_wp2
        go_roundw
        case rel => exact ⟨k + 1, by omega, by go_num, HM2, hbw2⟩
        case measure => simp [intOf]; omega
    · have HR : Hid (idxV (headsOf (clsV l0) l3) ((clsV l0).getD t 0) < 0) := by
        show idxV _ _ < 0
        rw [HCE.out, hv.out, (idx_none (fun j hj => HM.out j (by rw [HLEN.out] at hj; omega))).1]
        omega
      have hge : ¬ ((k : Int) < (l3.length : Int)) := by omega
      obtain ⟨F, FO⟩ := R0.fill (.slice (some ⟨b0, 0, none⟩) l0.length c0) (.slice (some ⟨b1, 0, none⟩) l1.length c1) (.slice (some ⟨b2, 0, none⟩) l2.length c2) (.slice (some ⟨b3, 0, none⟩) l3.length c3)
      have j0' := R0.c0; have j1' := R0.c1; have j2' := R0.c2; have j3' := R0.c3
      have g0 := R0.f0; have g1 := R0.f1; have g2 := R0.f2; have g3 := R0.f3
      have A0c0 := A0.c0; have A0c1 := A0.c1; have A0c2 := A0.c2; have A0c3 := A0.c3
      go_wp2
      have i0 := F.c0; have i1 := F.c1; have i2 := F.c2; have i3 := F.c3
      refine bodyPost_ret (v := .tuple #[.agg #[.slice (some ⟨b0, 0, none⟩) l0.length c0, .slice (some ⟨b1, 0, none⟩) l1.length c1, .slice (some ⟨b2, 0, none⟩) l2.length c2, .slice (some ⟨b3, 0, none⟩) l3.length c3], .int .i64 (-1), .int .i64 1]) ?_ rfl ⟨.inr (.inl ⟨HCN.out, HR.out, rfl⟩), L0.trans (FO.below (by omega) L0.size)⟩
      simp [results, Try.results197, go_sem, i0, i1, i2, i3]

end Go.Proofs.Ytphchdjbhbmnbaa
namespace Go.Proofs.Ytphchdjbhbmnbaa
open Go.RowKit
set_option linter.unusedVariables false

set_option maxRecDepth 20000 in
set_option maxHeartbeats 4000000 in
theorem ownp_nd4_n {b0 b1 b2 b3 : Addr} {c0 c1 c2 c3 : Nat} {l0 l1 l2 l3 : List (Int × Int)} {w : World} {Q : Exit → Act → World → Prop} (n0 : l0.length ≤ 1048576) (n1 : l1.length ≤ 1048576) (n2 : l2.length ≤ 1048576) (n3 : l3.length ≤ 1048576) (o0 : PRow w (some b0) l0) (o1 : PRow w (some b1) l1) (o2 : PRow w (some b2) l2) (o3 : PRow w (some b3) l3)
    (hQ : ∀ (W : World) (hS : ownS w (.slice (some b0) l0.length c0) (.slice (some b1) l1.length c1) (.slice (some b2) l2.length c2) (.slice (some b3) l3.length c3) W) (z0 z1 z2 z3 : Nat) (a0 : Option Addr) (e0 m1 : Nat) (t0 : RoomIn W (w.heap.size + 2) m1 a0 l0.length e0 l0) (g1 : m1 ≤ W.heap.size) (k1 : (w.heap.size + 2) ≤ m1) (a1 : Option Addr) (e1 m2 : Nat) (t1 : RoomIn W m1 m2 a1 l1.length e1 l1) (g2 : m2 ≤ W.heap.size) (k2 : m1 ≤ m2) (a2 : Option Addr) (e2 m3 : Nat) (t2 : RoomIn W m2 m3 a2 l2.length e2 l2) (g3 : m3 ≤ W.heap.size) (k3 : m2 ≤ m3) (a3 : Option Addr) (e3 m4 : Nat) (t3 : RoomIn W m3 m4 a3 l3.length e3 l3) (g4 : m4 ≤ W.heap.size) (k4 : m3 ≤ m4), Q .normal { tmps := #[.agg #[.slice (some b0) l0.length c0, .slice (some b1) l1.length c1, .slice (some b2) l2.length c2, .slice (some b3) l3.length c3], .pointer (some ⟨w.heap.size, 0, none⟩), .pointer (some ⟨w.heap.size + 1, 0, none⟩), .slice (some ⟨z0, 0, none⟩) 0 0, .pointer (some ⟨w.heap.size, 0, none⟩), .slice (some b0) l0.length c0, .slice a0 l0.length e0, .slice (some ⟨z1, 0, none⟩) 0 0, .pointer (some ⟨w.heap.size, 1, none⟩), .slice (some b1) l1.length c1, .slice a1 l1.length e1, .slice (some ⟨z2, 0, none⟩) 0 0, .pointer (some ⟨w.heap.size, 2, none⟩), .slice (some b2) l2.length c2, .slice a2 l2.length e2, .slice (some ⟨z3, 0, none⟩) 0 0, .pointer (some ⟨w.heap.size, 3, none⟩), .slice (some b3) l3.length c3, .slice a3 l3.length e3, .agg #[.slice a0 l0.length e0, .slice a1 l1.length e1, .slice a2 l2.length e2, .slice a3 l3.length e3]], defers := [] } ((((W.setCell ⟨w.heap.size + 1, 0, none⟩ (.slice a0 l0.length e0)).setCell ⟨w.heap.size + 1, 1, none⟩ (.slice a1 l1.length e1)).setCell ⟨w.heap.size + 1, 2, none⟩ (.slice a2 l2.length e2)).setCell ⟨w.heap.size + 1, 3, none⟩ (.slice a3 l3.length e3)))
    (W : World) (hS : ownS w (.slice (some b0) l0.length c0) (.slice (some b1) l1.length c1) (.slice (some b2) l2.length c2) (.slice (some b3) l3.length c3) W) (z0 z1 z2 z3 : Nat) (a0 : Option Addr) (e0 m1 : Nat) (t0 : RoomIn W (w.heap.size + 2) m1 a0 l0.length e0 l0) (g1 : m1 ≤ W.heap.size) (k1 : (w.heap.size + 2) ≤ m1) (a1 : Option Addr) (e1 m2 : Nat) (t1 : RoomIn W m1 m2 a1 l1.length e1 l1) (g2 : m2 ≤ W.heap.size) (k2 : m1 ≤ m2) (a2 : Option Addr) (e2 m3 : Nat) (t2 : RoomIn W m2 m3 a2 l2.length e2 l2) (g3 : m3 ≤ W.heap.size) (k3 : m2 ≤ m3) (a3 : Option Addr) (e3 m4 : Nat) (t3 : RoomIn W m3 m4 a3 l3.length e3 l3) (g4 : m4 ≤ W.heap.size) (k4 : m3 ≤ m4) :
    wpAnyH Try.prog .any ownOps Q (ownS w (.slice (some b0) l0.length c0) (.slice (some b1) l1.length c1) (.slice (some b2) l2.length c2) (.slice (some b3) l3.length c3)) 2 #[true, true, true, true, true, true, true, true, true, true, true, true, true, true, true, true, false, false] { tmps := #[.agg #[.slice (some b0) l0.length c0, .slice (some b1) l1.length c1, .slice (some b2) l2.length c2, .slice (some b3) l3.length c3], .pointer (some ⟨w.heap.size, 0, none⟩), .pointer (some ⟨w.heap.size + 1, 0, none⟩), .slice (some ⟨z0, 0, none⟩) 0 0, .pointer (some ⟨w.heap.size, 0, none⟩), .slice (some b0) l0.length c0, .slice a0 l0.length e0, .slice (some ⟨z1, 0, none⟩) 0 0, .pointer (some ⟨w.heap.size, 1, none⟩), .slice (some b1) l1.length c1, .slice a1 l1.length e1, .slice (some ⟨z2, 0, none⟩) 0 0, .pointer (some ⟨w.heap.size, 2, none⟩), .slice (some b2) l2.length c2, .slice a2 l2.length e2, .slice (some ⟨z3, 0, none⟩) 0 0, .pointer (some ⟨w.heap.size, 3, none⟩), .slice (some b3) l3.length c3, .slice a3 l3.length e3, undef], defers := [] } W := by
  refine wpAnyH_ready (rs := [16]) (by kernel_rfl) (by simp) ?_
  refine AllReadyH.cons (o := { dst := some 19, op := Op.build 28 #[(0, Operand.tmp 6), (1, Operand.tmp 10), (2, Operand.tmp 14), (3, Operand.tmp 18)], type := 28, pos := "l01_asn.go:137", after := #[{ on := 3, ground := Ground.data }, { on := 7, ground := Ground.data }, { on := 11, ground := Ground.data }, { on := 15, ground := Ground.data }], guard := none }) rfl (fun K hK => ?_) AllReadyH.nil
  go_simp
  refine hK.out _ _ hS (fun _ => ?_)
  show wpAnyH Try.prog .any ownOps Q (ownS w (.slice (some b0) l0.length c0) (.slice (some b1) l1.length c1) (.slice (some b2) l2.length c2) (.slice (some b3) l3.length c3)) 1 #[true, true, true, true, true, true, true, true, true, true, true, true, true, true, true, true, true, false] { tmps := #[.agg #[.slice (some b0) l0.length c0, .slice (some b1) l1.length c1, .slice (some b2) l2.length c2, .slice (some b3) l3.length c3], .pointer (some ⟨w.heap.size, 0, none⟩), .pointer (some ⟨w.heap.size + 1, 0, none⟩), .slice (some ⟨z0, 0, none⟩) 0 0, .pointer (some ⟨w.heap.size, 0, none⟩), .slice (some b0) l0.length c0, .slice a0 l0.length e0, .slice (some ⟨z1, 0, none⟩) 0 0, .pointer (some ⟨w.heap.size, 1, none⟩), .slice (some b1) l1.length c1, .slice a1 l1.length e1, .slice (some ⟨z2, 0, none⟩) 0 0, .pointer (some ⟨w.heap.size, 2, none⟩), .slice (some b2) l2.length c2, .slice a2 l2.length e2, .slice (some ⟨z3, 0, none⟩) 0 0, .pointer (some ⟨w.heap.size, 3, none⟩), .slice (some b3) l3.length c3, .slice a3 l3.length e3, .agg #[.slice a0 l0.length e0, .slice a1 l1.length e1, .slice a2 l2.length e2, .slice a3 l3.length e3]], defers := [] } W
  refine wpAnyH_ready (rs := [17]) (by kernel_rfl) (by simp) ?_
  refine AllReadyH.cons (o := { dst := none, op := Op.store 28 (Operand.tmp 2) (Operand.tmp 19), type := 0, pos := "l01_asn.go:137", after := #[{ on := 16, ground := Ground.data }, { on := 15, ground := Ground.chain }, { on := 0, ground := Ground.phase }, { on := 1, ground := Ground.phase }, { on := 2, ground := Ground.phase }, { on := 3, ground := Ground.phase }, { on := 4, ground := Ground.phase }, { on := 5, ground := Ground.phase }, { on := 6, ground := Ground.phase }, { on := 7, ground := Ground.phase }, { on := 8, ground := Ground.phase }, { on := 9, ground := Ground.phase }, { on := 10, ground := Ground.phase }, { on := 11, ground := Ground.phase }, { on := 12, ground := Ground.phase }, { on := 13, ground := Ground.phase }, { on := 14, ground := Ground.phase }, { on := 15, ground := Ground.phase }, { on := 16, ground := Ground.phase }], guard := none }) rfl (fun K hK => ?_) AllReadyH.nil
  obtain ⟨x0, hx0⟩ := (hS.2.1.2.1 0 (by omega)).1; obtain ⟨x1, hx1⟩ := (hS.2.1.2.1 1 (by omega)).1; obtain ⟨x2, hx2⟩ := (hS.2.1.2.1 2 (by omega)).1; obtain ⟨x3, hx3⟩ := (hS.2.1.2.1 3 (by omega)).1
  have f0 := (hS.2.1.2.1 0 (by omega)).2; have f1 := (hS.2.1.2.1 1 (by omega)).2; have f2 := (hS.2.1.2.1 2 (by omega)).2; have f3 := (hS.2.1.2.1 3 (by omega)).2
  go_simp
  refine hK.out _ _ (ownS_store _ _ _ _ hS) (fun _ => ?_)
  refine wpAnyH_done (by kernel_rfl) ?_ _
  exact hQ W hS z0 z1 z2 z3 a0 e0 m1 t0 g1 k1 a1 e1 m2 t1 g2 k2 a2 e2 m3 t2 g3 k3 a3 e3 m4 t3 g4 k4

set_option maxRecDepth 20000 in
set_option maxHeartbeats 4000000 in
theorem ownp_nd3_3 {b0 b1 b2 b3 : Addr} {c0 c1 c2 c3 : Nat} {l0 l1 l2 l3 : List (Int × Int)} {w : World} {Q : Exit → Act → World → Prop} (n0 : l0.length ≤ 1048576) (n1 : l1.length ≤ 1048576) (n2 : l2.length ≤ 1048576) (n3 : l3.length ≤ 1048576) (o0 : PRow w (some b0) l0) (o1 : PRow w (some b1) l1) (o2 : PRow w (some b2) l2) (o3 : PRow w (some b3) l3)
    (hQ : ∀ (W : World) (hS : ownS w (.slice (some b0) l0.length c0) (.slice (some b1) l1.length c1) (.slice (some b2) l2.length c2) (.slice (some b3) l3.length c3) W) (z0 z1 z2 z3 : Nat) (a0 : Option Addr) (e0 m1 : Nat) (t0 : RoomIn W (w.heap.size + 2) m1 a0 l0.length e0 l0) (g1 : m1 ≤ W.heap.size) (k1 : (w.heap.size + 2) ≤ m1) (a1 : Option Addr) (e1 m2 : Nat) (t1 : RoomIn W m1 m2 a1 l1.length e1 l1) (g2 : m2 ≤ W.heap.size) (k2 : m1 ≤ m2) (a2 : Option Addr) (e2 m3 : Nat) (t2 : RoomIn W m2 m3 a2 l2.length e2 l2) (g3 : m3 ≤ W.heap.size) (k3 : m2 ≤ m3) (a3 : Option Addr) (e3 m4 : Nat) (t3 : RoomIn W m3 m4 a3 l3.length e3 l3) (g4 : m4 ≤ W.heap.size) (k4 : m3 ≤ m4), Q .normal { tmps := #[.agg #[.slice (some b0) l0.length c0, .slice (some b1) l1.length c1, .slice (some b2) l2.length c2, .slice (some b3) l3.length c3], .pointer (some ⟨w.heap.size, 0, none⟩), .pointer (some ⟨w.heap.size + 1, 0, none⟩), .slice (some ⟨z0, 0, none⟩) 0 0, .pointer (some ⟨w.heap.size, 0, none⟩), .slice (some b0) l0.length c0, .slice a0 l0.length e0, .slice (some ⟨z1, 0, none⟩) 0 0, .pointer (some ⟨w.heap.size, 1, none⟩), .slice (some b1) l1.length c1, .slice a1 l1.length e1, .slice (some ⟨z2, 0, none⟩) 0 0, .pointer (some ⟨w.heap.size, 2, none⟩), .slice (some b2) l2.length c2, .slice a2 l2.length e2, .slice (some ⟨z3, 0, none⟩) 0 0, .pointer (some ⟨w.heap.size, 3, none⟩), .slice (some b3) l3.length c3, .slice a3 l3.length e3, .agg #[.slice a0 l0.length e0, .slice a1 l1.length e1, .slice a2 l2.length e2, .slice a3 l3.length e3]], defers := [] } ((((W.setCell ⟨w.heap.size + 1, 0, none⟩ (.slice a0 l0.length e0)).setCell ⟨w.heap.size + 1, 1, none⟩ (.slice a1 l1.length e1)).setCell ⟨w.heap.size + 1, 2, none⟩ (.slice a2 l2.length e2)).setCell ⟨w.heap.size + 1, 3, none⟩ (.slice a3 l3.length e3)))
    (W : World) (hS : ownS w (.slice (some b0) l0.length c0) (.slice (some b1) l1.length c1) (.slice (some b2) l2.length c2) (.slice (some b3) l3.length c3) W) (z0 z1 z2 z3 : Nat) (a0 : Option Addr) (e0 m1 : Nat) (t0 : RoomIn W (w.heap.size + 2) m1 a0 l0.length e0 l0) (g1 : m1 ≤ W.heap.size) (k1 : (w.heap.size + 2) ≤ m1) (a1 : Option Addr) (e1 m2 : Nat) (t1 : RoomIn W m1 m2 a1 l1.length e1 l1) (g2 : m2 ≤ W.heap.size) (k2 : m1 ≤ m2) (a2 : Option Addr) (e2 m3 : Nat) (t2 : RoomIn W m2 m3 a2 l2.length e2 l2) (g3 : m3 ≤ W.heap.size) (k3 : m2 ≤ m3) :
    wpAnyH Try.prog .any ownOps Q (ownS w (.slice (some b0) l0.length c0) (.slice (some b1) l1.length c1) (.slice (some b2) l2.length c2) (.slice (some b3) l3.length c3)) 3 #[true, true, true, true, true, true, true, true, true, true, true, true, true, true, true, false, false, false] { tmps := #[.agg #[.slice (some b0) l0.length c0, .slice (some b1) l1.length c1, .slice (some b2) l2.length c2, .slice (some b3) l3.length c3], .pointer (some ⟨w.heap.size, 0, none⟩), .pointer (some ⟨w.heap.size + 1, 0, none⟩), .slice (some ⟨z0, 0, none⟩) 0 0, .pointer (some ⟨w.heap.size, 0, none⟩), .slice (some b0) l0.length c0, .slice a0 l0.length e0, .slice (some ⟨z1, 0, none⟩) 0 0, .pointer (some ⟨w.heap.size, 1, none⟩), .slice (some b1) l1.length c1, .slice a1 l1.length e1, .slice (some ⟨z2, 0, none⟩) 0 0, .pointer (some ⟨w.heap.size, 2, none⟩), .slice (some b2) l2.length c2, .slice a2 l2.length e2, .slice (some ⟨z3, 0, none⟩) 0 0, .pointer (some ⟨w.heap.size, 3, none⟩), .slice (some b3) l3.length c3, undef, undef], defers := [] } W := by
  refine wpAnyH_ready (rs := [15]) (by kernel_rfl) (by simp) ?_
  refine AllReadyH.cons (o := ownOp15) rfl (fun K hK => ?_) ?_
  · refine step_freshP (by rfl) (Operand.tmp 15) (Operand.tmp 17) (by rfl) z3 b3 l3.length c3 l3 (by rfl) (by rfl) rfl (o3.below hS.1 (Nat.le_refl _)) n3 ?_
    intro a3 e3 W' hr hb
    have hS' := ownS_keep hS hb
    refine hK.out _ _ hS' (fun _ => ?_)
    exact ownp_nd4_n n0 n1 n2 n3 o0 o1 o2 o3 hQ W' hS' z0 z1 z2 z3 a0 e0 m1 (t0.below hb g1) (Nat.le_trans g1 hb.size) k1 a1 e1 m2 (t1.below hb g2) (Nat.le_trans g2 hb.size) k2 a2 e2 m3 (t2.below hb g3) (Nat.le_trans g3 hb.size) k3 a3 e3 W'.heap.size (hr.mono g3 (Nat.le_refl _)) (Nat.le_refl _) (Nat.le_trans g3 hb.size)
  exact AllReadyH.nil

set_option maxRecDepth 20000 in
set_option maxHeartbeats 4000000 in
theorem ownp_nd3_n {b0 b1 b2 b3 : Addr} {c0 c1 c2 c3 : Nat} {l0 l1 l2 l3 : List (Int × Int)} {w : World} {Q : Exit → Act → World → Prop} (n0 : l0.length ≤ 1048576) (n1 : l1.length ≤ 1048576) (n2 : l2.length ≤ 1048576) (n3 : l3.length ≤ 1048576) (o0 : PRow w (some b0) l0) (o1 : PRow w (some b1) l1) (o2 : PRow w (some b2) l2) (o3 : PRow w (some b3) l3)
    (hQ : ∀ (W : World) (hS : ownS w (.slice (some b0) l0.length c0) (.slice (some b1) l1.length c1) (.slice (some b2) l2.length c2) (.slice (some b3) l3.length c3) W) (z0 z1 z2 z3 : Nat) (a0 : Option Addr) (e0 m1 : Nat) (t0 : RoomIn W (w.heap.size + 2) m1 a0 l0.length e0 l0) (g1 : m1 ≤ W.heap.size) (k1 : (w.heap.size + 2) ≤ m1) (a1 : Option Addr) (e1 m2 : Nat) (t1 : RoomIn W m1 m2 a1 l1.length e1 l1) (g2 : m2 ≤ W.heap.size) (k2 : m1 ≤ m2) (a2 : Option Addr) (e2 m3 : Nat) (t2 : RoomIn W m2 m3 a2 l2.length e2 l2) (g3 : m3 ≤ W.heap.size) (k3 : m2 ≤ m3) (a3 : Option Addr) (e3 m4 : Nat) (t3 : RoomIn W m3 m4 a3 l3.length e3 l3) (g4 : m4 ≤ W.heap.size) (k4 : m3 ≤ m4), Q .normal { tmps := #[.agg #[.slice (some b0) l0.length c0, .slice (some b1) l1.length c1, .slice (some b2) l2.length c2, .slice (some b3) l3.length c3], .pointer (some ⟨w.heap.size, 0, none⟩), .pointer (some ⟨w.heap.size + 1, 0, none⟩), .slice (some ⟨z0, 0, none⟩) 0 0, .pointer (some ⟨w.heap.size, 0, none⟩), .slice (some b0) l0.length c0, .slice a0 l0.length e0, .slice (some ⟨z1, 0, none⟩) 0 0, .pointer (some ⟨w.heap.size, 1, none⟩), .slice (some b1) l1.length c1, .slice a1 l1.length e1, .slice (some ⟨z2, 0, none⟩) 0 0, .pointer (some ⟨w.heap.size, 2, none⟩), .slice (some b2) l2.length c2, .slice a2 l2.length e2, .slice (some ⟨z3, 0, none⟩) 0 0, .pointer (some ⟨w.heap.size, 3, none⟩), .slice (some b3) l3.length c3, .slice a3 l3.length e3, .agg #[.slice a0 l0.length e0, .slice a1 l1.length e1, .slice a2 l2.length e2, .slice a3 l3.length e3]], defers := [] } ((((W.setCell ⟨w.heap.size + 1, 0, none⟩ (.slice a0 l0.length e0)).setCell ⟨w.heap.size + 1, 1, none⟩ (.slice a1 l1.length e1)).setCell ⟨w.heap.size + 1, 2, none⟩ (.slice a2 l2.length e2)).setCell ⟨w.heap.size + 1, 3, none⟩ (.slice a3 l3.length e3)))
    (W : World) (hS : ownS w (.slice (some b0) l0.length c0) (.slice (some b1) l1.length c1) (.slice (some b2) l2.length c2) (.slice (some b3) l3.length c3) W) (z0 z1 z2 : Nat) (a0 : Option Addr) (e0 m1 : Nat) (t0 : RoomIn W (w.heap.size + 2) m1 a0 l0.length e0 l0) (g1 : m1 ≤ W.heap.size) (k1 : (w.heap.size + 2) ≤ m1) (a1 : Option Addr) (e1 m2 : Nat) (t1 : RoomIn W m1 m2 a1 l1.length e1 l1) (g2 : m2 ≤ W.heap.size) (k2 : m1 ≤ m2) (a2 : Option Addr) (e2 m3 : Nat) (t2 : RoomIn W m2 m3 a2 l2.length e2 l2) (g3 : m3 ≤ W.heap.size) (k3 : m2 ≤ m3) :
    wpAnyH Try.prog .any ownOps Q (ownS w (.slice (some b0) l0.length c0) (.slice (some b1) l1.length c1) (.slice (some b2) l2.length c2) (.slice (some b3) l3.length c3)) 4 #[true, true, true, true, true, true, true, true, true, true, true, true, false, true, true, false, false, false] { tmps := #[.agg #[.slice (some b0) l0.length c0, .slice (some b1) l1.length c1, .slice (some b2) l2.length c2, .slice (some b3) l3.length c3], .pointer (some ⟨w.heap.size, 0, none⟩), .pointer (some ⟨w.heap.size + 1, 0, none⟩), .slice (some ⟨z0, 0, none⟩) 0 0, .pointer (some ⟨w.heap.size, 0, none⟩), .slice (some b0) l0.length c0, .slice a0 l0.length e0, .slice (some ⟨z1, 0, none⟩) 0 0, .pointer (some ⟨w.heap.size, 1, none⟩), .slice (some b1) l1.length c1, .slice a1 l1.length e1, .slice (some ⟨z2, 0, none⟩) 0 0, .pointer (some ⟨w.heap.size, 2, none⟩), .slice (some b2) l2.length c2, .slice a2 l2.length e2, undef, .pointer (some ⟨w.heap.size, 3, none⟩), .slice (some b3) l3.length c3, undef, undef], defers := [] } W := by
  refine wpAnyH_ready (rs := [12]) (by kernel_rfl) (by simp) ?_
  refine AllReadyH.cons (o := ownOp12) rfl (fun K hK => ?_) ?_
  · refine step_lit (by rfl) (by rfl) ?_
    intro z3 W' hb
    have hS' := ownS_keep hS hb
    refine hK.out _ _ hS' (fun _ => ?_)
    exact ownp_nd3_3 n0 n1 n2 n3 o0 o1 o2 o3 hQ W' hS' z0 z1 z2 z3 a0 e0 m1 (t0.below hb g1) (Nat.le_trans g1 hb.size) k1 a1 e1 m2 (t1.below hb g2) (Nat.le_trans g2 hb.size) k2 a2 e2 m3 (t2.below hb g3) (Nat.le_trans g3 hb.size) k3
  exact AllReadyH.nil

set_option maxRecDepth 20000 in
set_option maxHeartbeats 4000000 in
theorem ownp_nd2_23 {b0 b1 b2 b3 : Addr} {c0 c1 c2 c3 : Nat} {l0 l1 l2 l3 : List (Int × Int)} {w : World} {Q : Exit → Act → World → Prop} (n0 : l0.length ≤ 1048576) (n1 : l1.length ≤ 1048576) (n2 : l2.length ≤ 1048576) (n3 : l3.length ≤ 1048576) (o0 : PRow w (some b0) l0) (o1 : PRow w (some b1) l1) (o2 : PRow w (some b2) l2) (o3 : PRow w (some b3) l3)
    (hQ : ∀ (W : World) (hS : ownS w (.slice (some b0) l0.length c0) (.slice (some b1) l1.length c1) (.slice (some b2) l2.length c2) (.slice (some b3) l3.length c3) W) (z0 z1 z2 z3 : Nat) (a0 : Option Addr) (e0 m1 : Nat) (t0 : RoomIn W (w.heap.size + 2) m1 a0 l0.length e0 l0) (g1 : m1 ≤ W.heap.size) (k1 : (w.heap.size + 2) ≤ m1) (a1 : Option Addr) (e1 m2 : Nat) (t1 : RoomIn W m1 m2 a1 l1.length e1 l1) (g2 : m2 ≤ W.heap.size) (k2 : m1 ≤ m2) (a2 : Option Addr) (e2 m3 : Nat) (t2 : RoomIn W m2 m3 a2 l2.length e2 l2) (g3 : m3 ≤ W.heap.size) (k3 : m2 ≤ m3) (a3 : Option Addr) (e3 m4 : Nat) (t3 : RoomIn W m3 m4 a3 l3.length e3 l3) (g4 : m4 ≤ W.heap.size) (k4 : m3 ≤ m4), Q .normal { tmps := #[.agg #[.slice (some b0) l0.length c0, .slice (some b1) l1.length c1, .slice (some b2) l2.length c2, .slice (some b3) l3.length c3], .pointer (some ⟨w.heap.size, 0, none⟩), .pointer (some ⟨w.heap.size + 1, 0, none⟩), .slice (some ⟨z0, 0, none⟩) 0 0, .pointer (some ⟨w.heap.size, 0, none⟩), .slice (some b0) l0.length c0, .slice a0 l0.length e0, .slice (some ⟨z1, 0, none⟩) 0 0, .pointer (some ⟨w.heap.size, 1, none⟩), .slice (some b1) l1.length c1, .slice a1 l1.length e1, .slice (some ⟨z2, 0, none⟩) 0 0, .pointer (some ⟨w.heap.size, 2, none⟩), .slice (some b2) l2.length c2, .slice a2 l2.length e2, .slice (some ⟨z3, 0, none⟩) 0 0, .pointer (some ⟨w.heap.size, 3, none⟩), .slice (some b3) l3.length c3, .slice a3 l3.length e3, .agg #[.slice a0 l0.length e0, .slice a1 l1.length e1, .slice a2 l2.length e2, .slice a3 l3.length e3]], defers := [] } ((((W.setCell ⟨w.heap.size + 1, 0, none⟩ (.slice a0 l0.length e0)).setCell ⟨w.heap.size + 1, 1, none⟩ (.slice a1 l1.length e1)).setCell ⟨w.heap.size + 1, 2, none⟩ (.slice a2 l2.length e2)).setCell ⟨w.heap.size + 1, 3, none⟩ (.slice a3 l3.length e3)))
    (W : World) (hS : ownS w (.slice (some b0) l0.length c0) (.slice (some b1) l1.length c1) (.slice (some b2) l2.length c2) (.slice (some b3) l3.length c3) W) (z0 z1 z2 z3 : Nat) (a0 : Option Addr) (e0 m1 : Nat) (t0 : RoomIn W (w.heap.size + 2) m1 a0 l0.length e0 l0) (g1 : m1 ≤ W.heap.size) (k1 : (w.heap.size + 2) ≤ m1) (a1 : Option Addr) (e1 m2 : Nat) (t1 : RoomIn W m1 m2 a1 l1.length e1 l1) (g2 : m2 ≤ W.heap.size) (k2 : m1 ≤ m2) :
    wpAnyH Try.prog .any ownOps Q (ownS w (.slice (some b0) l0.length c0) (.slice (some b1) l1.length c1) (.slice (some b2) l2.length c2) (.slice (some b3) l3.length c3)) 4 #[true, true, true, true, true, true, true, true, true, true, true, false, true, true, true, false, false, false] { tmps := #[.agg #[.slice (some b0) l0.length c0, .slice (some b1) l1.length c1, .slice (some b2) l2.length c2, .slice (some b3) l3.length c3], .pointer (some ⟨w.heap.size, 0, none⟩), .pointer (some ⟨w.heap.size + 1, 0, none⟩), .slice (some ⟨z0, 0, none⟩) 0 0, .pointer (some ⟨w.heap.size, 0, none⟩), .slice (some b0) l0.length c0, .slice a0 l0.length e0, .slice (some ⟨z1, 0, none⟩) 0 0, .pointer (some ⟨w.heap.size, 1, none⟩), .slice (some b1) l1.length c1, .slice a1 l1.length e1, .slice (some ⟨z2, 0, none⟩) 0 0, .pointer (some ⟨w.heap.size, 2, none⟩), .slice (some b2) l2.length c2, undef, .slice (some ⟨z3, 0, none⟩) 0 0, .pointer (some ⟨w.heap.size, 3, none⟩), .slice (some b3) l3.length c3, undef, undef], defers := [] } W := by
  refine wpAnyH_ready (rs := [11]) (by kernel_rfl) (by simp) ?_
  refine AllReadyH.cons (o := ownOp11) rfl (fun K hK => ?_) ?_
  · refine step_freshP (by rfl) (Operand.tmp 11) (Operand.tmp 13) (by rfl) z2 b2 l2.length c2 l2 (by rfl) (by rfl) rfl (o2.below hS.1 (Nat.le_refl _)) n2 ?_
    intro a2 e2 W' hr hb
    have hS' := ownS_keep hS hb
    refine hK.out _ _ hS' (fun _ => ?_)
    exact ownp_nd3_3 n0 n1 n2 n3 o0 o1 o2 o3 hQ W' hS' z0 z1 z2 z3 a0 e0 m1 (t0.below hb g1) (Nat.le_trans g1 hb.size) k1 a1 e1 m2 (t1.below hb g2) (Nat.le_trans g2 hb.size) k2 a2 e2 W'.heap.size (hr.mono g2 (Nat.le_refl _)) (Nat.le_refl _) (Nat.le_trans g2 hb.size)
  exact AllReadyH.nil

set_option maxRecDepth 20000 in
set_option maxHeartbeats 4000000 in
theorem ownp_nd2_2 {b0 b1 b2 b3 : Addr} {c0 c1 c2 c3 : Nat} {l0 l1 l2 l3 : List (Int × Int)} {w : World} {Q : Exit → Act → World → Prop} (n0 : l0.length ≤ 1048576) (n1 : l1.length ≤ 1048576) (n2 : l2.length ≤ 1048576) (n3 : l3.length ≤ 1048576) (o0 : PRow w (some b0) l0) (o1 : PRow w (some b1) l1) (o2 : PRow w (some b2) l2) (o3 : PRow w (some b3) l3)
    (hQ : ∀ (W : World) (hS : ownS w (.slice (some b0) l0.length c0) (.slice (some b1) l1.length c1) (.slice (some b2) l2.length c2) (.slice (some b3) l3.length c3) W) (z0 z1 z2 z3 : Nat) (a0 : Option Addr) (e0 m1 : Nat) (t0 : RoomIn W (w.heap.size + 2) m1 a0 l0.length e0 l0) (g1 : m1 ≤ W.heap.size) (k1 : (w.heap.size + 2) ≤ m1) (a1 : Option Addr) (e1 m2 : Nat) (t1 : RoomIn W m1 m2 a1 l1.length e1 l1) (g2 : m2 ≤ W.heap.size) (k2 : m1 ≤ m2) (a2 : Option Addr) (e2 m3 : Nat) (t2 : RoomIn W m2 m3 a2 l2.length e2 l2) (g3 : m3 ≤ W.heap.size) (k3 : m2 ≤ m3) (a3 : Option Addr) (e3 m4 : Nat) (t3 : RoomIn W m3 m4 a3 l3.length e3 l3) (g4 : m4 ≤ W.heap.size) (k4 : m3 ≤ m4), Q .normal { tmps := #[.agg #[.slice (some b0) l0.length c0, .slice (some b1) l1.length c1, .slice (some b2) l2.length c2, .slice (some b3) l3.length c3], .pointer (some ⟨w.heap.size, 0, none⟩), .pointer (some ⟨w.heap.size + 1, 0, none⟩), .slice (some ⟨z0, 0, none⟩) 0 0, .pointer (some ⟨w.heap.size, 0, none⟩), .slice (some b0) l0.length c0, .slice a0 l0.length e0, .slice (some ⟨z1, 0, none⟩) 0 0, .pointer (some ⟨w.heap.size, 1, none⟩), .slice (some b1) l1.length c1, .slice a1 l1.length e1, .slice (some ⟨z2, 0, none⟩) 0 0, .pointer (some ⟨w.heap.size, 2, none⟩), .slice (some b2) l2.length c2, .slice a2 l2.length e2, .slice (some ⟨z3, 0, none⟩) 0 0, .pointer (some ⟨w.heap.size, 3, none⟩), .slice (some b3) l3.length c3, .slice a3 l3.length e3, .agg #[.slice a0 l0.length e0, .slice a1 l1.length e1, .slice a2 l2.length e2, .slice a3 l3.length e3]], defers := [] } ((((W.setCell ⟨w.heap.size + 1, 0, none⟩ (.slice a0 l0.length e0)).setCell ⟨w.heap.size + 1, 1, none⟩ (.slice a1 l1.length e1)).setCell ⟨w.heap.size + 1, 2, none⟩ (.slice a2 l2.length e2)).setCell ⟨w.heap.size + 1, 3, none⟩ (.slice a3 l3.length e3)))
    (W : World) (hS : ownS w (.slice (some b0) l0.length c0) (.slice (some b1) l1.length c1) (.slice (some b2) l2.length c2) (.slice (some b3) l3.length c3) W) (z0 z1 z2 : Nat) (a0 : Option Addr) (e0 m1 : Nat) (t0 : RoomIn W (w.heap.size + 2) m1 a0 l0.length e0 l0) (g1 : m1 ≤ W.heap.size) (k1 : (w.heap.size + 2) ≤ m1) (a1 : Option Addr) (e1 m2 : Nat) (t1 : RoomIn W m1 m2 a1 l1.length e1 l1) (g2 : m2 ≤ W.heap.size) (k2 : m1 ≤ m2) :
    wpAnyH Try.prog .any ownOps Q (ownS w (.slice (some b0) l0.length c0) (.slice (some b1) l1.length c1) (.slice (some b2) l2.length c2) (.slice (some b3) l3.length c3)) 5 #[true, true, true, true, true, true, true, true, true, true, true, false, false, true, true, false, false, false] { tmps := #[.agg #[.slice (some b0) l0.length c0, .slice (some b1) l1.length c1, .slice (some b2) l2.length c2, .slice (some b3) l3.length c3], .pointer (some ⟨w.heap.size, 0, none⟩), .pointer (some ⟨w.heap.size + 1, 0, none⟩), .slice (some ⟨z0, 0, none⟩) 0 0, .pointer (some ⟨w.heap.size, 0, none⟩), .slice (some b0) l0.length c0, .slice a0 l0.length e0, .slice (some ⟨z1, 0, none⟩) 0 0, .pointer (some ⟨w.heap.size, 1, none⟩), .slice (some b1) l1.length c1, .slice a1 l1.length e1, .slice (some ⟨z2, 0, none⟩) 0 0, .pointer (some ⟨w.heap.size, 2, none⟩), .slice (some b2) l2.length c2, undef, undef, .pointer (some ⟨w.heap.size, 3, none⟩), .slice (some b3) l3.length c3, undef, undef], defers := [] } W := by
  refine wpAnyH_ready (rs := [11, 12]) (by kernel_rfl) (by simp) ?_
  refine AllReadyH.cons (o := ownOp11) rfl (fun K hK => ?_) ?_
  · refine step_freshP (by rfl) (Operand.tmp 11) (Operand.tmp 13) (by rfl) z2 b2 l2.length c2 l2 (by rfl) (by rfl) rfl (o2.below hS.1 (Nat.le_refl _)) n2 ?_
    intro a2 e2 W' hr hb
    have hS' := ownS_keep hS hb
    refine hK.out _ _ hS' (fun _ => ?_)
    exact ownp_nd3_n n0 n1 n2 n3 o0 o1 o2 o3 hQ W' hS' z0 z1 z2 a0 e0 m1 (t0.below hb g1) (Nat.le_trans g1 hb.size) k1 a1 e1 m2 (t1.below hb g2) (Nat.le_trans g2 hb.size) k2 a2 e2 W'.heap.size (hr.mono g2 (Nat.le_refl _)) (Nat.le_refl _) (Nat.le_trans g2 hb.size)
  refine AllReadyH.cons (o := ownOp12) rfl (fun K hK => ?_) ?_
  · refine step_lit (by rfl) (by rfl) ?_
    intro z3 W' hb
    have hS' := ownS_keep hS hb
    refine hK.out _ _ hS' (fun _ => ?_)
    exact ownp_nd2_23 n0 n1 n2 n3 o0 o1 o2 o3 hQ W' hS' z0 z1 z2 z3 a0 e0 m1 (t0.below hb g1) (Nat.le_trans g1 hb.size) k1 a1 e1 m2 (t1.below hb g2) (Nat.le_trans g2 hb.size) k2
  exact AllReadyH.nil

set_option maxRecDepth 20000 in
set_option maxHeartbeats 4000000 in
theorem ownp_nd2_3 {b0 b1 b2 b3 : Addr} {c0 c1 c2 c3 : Nat} {l0 l1 l2 l3 : List (Int × Int)} {w : World} {Q : Exit → Act → World → Prop} (n0 : l0.length ≤ 1048576) (n1 : l1.length ≤ 1048576) (n2 : l2.length ≤ 1048576) (n3 : l3.length ≤ 1048576) (o0 : PRow w (some b0) l0) (o1 : PRow w (some b1) l1) (o2 : PRow w (some b2) l2) (o3 : PRow w (some b3) l3)
    (hQ : ∀ (W : World) (hS : ownS w (.slice (some b0) l0.length c0) (.slice (some b1) l1.length c1) (.slice (some b2) l2.length c2) (.slice (some b3) l3.length c3) W) (z0 z1 z2 z3 : Nat) (a0 : Option Addr) (e0 m1 : Nat) (t0 : RoomIn W (w.heap.size + 2) m1 a0 l0.length e0 l0) (g1 : m1 ≤ W.heap.size) (k1 : (w.heap.size + 2) ≤ m1) (a1 : Option Addr) (e1 m2 : Nat) (t1 : RoomIn W m1 m2 a1 l1.length e1 l1) (g2 : m2 ≤ W.heap.size) (k2 : m1 ≤ m2) (a2 : Option Addr) (e2 m3 : Nat) (t2 : RoomIn W m2 m3 a2 l2.length e2 l2) (g3 : m3 ≤ W.heap.size) (k3 : m2 ≤ m3) (a3 : Option Addr) (e3 m4 : Nat) (t3 : RoomIn W m3 m4 a3 l3.length e3 l3) (g4 : m4 ≤ W.heap.size) (k4 : m3 ≤ m4), Q .normal { tmps := #[.agg #[.slice (some b0) l0.length c0, .slice (some b1) l1.length c1, .slice (some b2) l2.length c2, .slice (some b3) l3.length c3], .pointer (some ⟨w.heap.size, 0, none⟩), .pointer (some ⟨w.heap.size + 1, 0, none⟩), .slice (some ⟨z0, 0, none⟩) 0 0, .pointer (some ⟨w.heap.size, 0, none⟩), .slice (some b0) l0.length c0, .slice a0 l0.length e0, .slice (some ⟨z1, 0, none⟩) 0 0, .pointer (some ⟨w.heap.size, 1, none⟩), .slice (some b1) l1.length c1, .slice a1 l1.length e1, .slice (some ⟨z2, 0, none⟩) 0 0, .pointer (some ⟨w.heap.size, 2, none⟩), .slice (some b2) l2.length c2, .slice a2 l2.length e2, .slice (some ⟨z3, 0, none⟩) 0 0, .pointer (some ⟨w.heap.size, 3, none⟩), .slice (some b3) l3.length c3, .slice a3 l3.length e3, .agg #[.slice a0 l0.length e0, .slice a1 l1.length e1, .slice a2 l2.length e2, .slice a3 l3.length e3]], defers := [] } ((((W.setCell ⟨w.heap.size + 1, 0, none⟩ (.slice a0 l0.length e0)).setCell ⟨w.heap.size + 1, 1, none⟩ (.slice a1 l1.length e1)).setCell ⟨w.heap.size + 1, 2, none⟩ (.slice a2 l2.length e2)).setCell ⟨w.heap.size + 1, 3, none⟩ (.slice a3 l3.length e3)))
    (W : World) (hS : ownS w (.slice (some b0) l0.length c0) (.slice (some b1) l1.length c1) (.slice (some b2) l2.length c2) (.slice (some b3) l3.length c3) W) (z0 z1 z3 : Nat) (a0 : Option Addr) (e0 m1 : Nat) (t0 : RoomIn W (w.heap.size + 2) m1 a0 l0.length e0 l0) (g1 : m1 ≤ W.heap.size) (k1 : (w.heap.size + 2) ≤ m1) (a1 : Option Addr) (e1 m2 : Nat) (t1 : RoomIn W m1 m2 a1 l1.length e1 l1) (g2 : m2 ≤ W.heap.size) (k2 : m1 ≤ m2) :
    wpAnyH Try.prog .any ownOps Q (ownS w (.slice (some b0) l0.length c0) (.slice (some b1) l1.length c1) (.slice (some b2) l2.length c2) (.slice (some b3) l3.length c3)) 5 #[true, true, true, true, true, true, true, true, false, true, true, false, true, true, true, false, false, false] { tmps := #[.agg #[.slice (some b0) l0.length c0, .slice (some b1) l1.length c1, .slice (some b2) l2.length c2, .slice (some b3) l3.length c3], .pointer (some ⟨w.heap.size, 0, none⟩), .pointer (some ⟨w.heap.size + 1, 0, none⟩), .slice (some ⟨z0, 0, none⟩) 0 0, .pointer (some ⟨w.heap.size, 0, none⟩), .slice (some b0) l0.length c0, .slice a0 l0.length e0, .slice (some ⟨z1, 0, none⟩) 0 0, .pointer (some ⟨w.heap.size, 1, none⟩), .slice (some b1) l1.length c1, .slice a1 l1.length e1, undef, .pointer (some ⟨w.heap.size, 2, none⟩), .slice (some b2) l2.length c2, undef, .slice (some ⟨z3, 0, none⟩) 0 0, .pointer (some ⟨w.heap.size, 3, none⟩), .slice (some b3) l3.length c3, undef, undef], defers := [] } W := by
  refine wpAnyH_ready (rs := [8]) (by kernel_rfl) (by simp) ?_
  refine AllReadyH.cons (o := ownOp8) rfl (fun K hK => ?_) ?_
  · refine step_lit (by rfl) (by rfl) ?_
    intro z2 W' hb
    have hS' := ownS_keep hS hb
    refine hK.out _ _ hS' (fun _ => ?_)
    exact ownp_nd2_23 n0 n1 n2 n3 o0 o1 o2 o3 hQ W' hS' z0 z1 z2 z3 a0 e0 m1 (t0.below hb g1) (Nat.le_trans g1 hb.size) k1 a1 e1 m2 (t1.below hb g2) (Nat.le_trans g2 hb.size) k2
  exact AllReadyH.nil

set_option maxRecDepth 20000 in
set_option maxHeartbeats 4000000 in
theorem ownp_nd2_n {b0 b1 b2 b3 : Addr} {c0 c1 c2 c3 : Nat} {l0 l1 l2 l3 : List (Int × Int)} {w : World} {Q : Exit → Act → World → Prop} (n0 : l0.length ≤ 1048576) (n1 : l1.length ≤ 1048576) (n2 : l2.length ≤ 1048576) (n3 : l3.length ≤ 1048576) (o0 : PRow w (some b0) l0) (o1 : PRow w (some b1) l1) (o2 : PRow w (some b2) l2) (o3 : PRow w (some b3) l3)
    (hQ : ∀ (W : World) (hS : ownS w (.slice (some b0) l0.length c0) (.slice (some b1) l1.length c1) (.slice (some b2) l2.length c2) (.slice (some b3) l3.length c3) W) (z0 z1 z2 z3 : Nat) (a0 : Option Addr) (e0 m1 : Nat) (t0 : RoomIn W (w.heap.size + 2) m1 a0 l0.length e0 l0) (g1 : m1 ≤ W.heap.size) (k1 : (w.heap.size + 2) ≤ m1) (a1 : Option Addr) (e1 m2 : Nat) (t1 : RoomIn W m1 m2 a1 l1.length e1 l1) (g2 : m2 ≤ W.heap.size) (k2 : m1 ≤ m2) (a2 : Option Addr) (e2 m3 : Nat) (t2 : RoomIn W m2 m3 a2 l2.length e2 l2) (g3 : m3 ≤ W.heap.size) (k3 : m2 ≤ m3) (a3 : Option Addr) (e3 m4 : Nat) (t3 : RoomIn W m3 m4 a3 l3.length e3 l3) (g4 : m4 ≤ W.heap.size) (k4 : m3 ≤ m4), Q .normal { tmps := #[.agg #[.slice (some b0) l0.length c0, .slice (some b1) l1.length c1, .slice (some b2) l2.length c2, .slice (some b3) l3.length c3], .pointer (some ⟨w.heap.size, 0, none⟩), .pointer (some ⟨w.heap.size + 1, 0, none⟩), .slice (some ⟨z0, 0, none⟩) 0 0, .pointer (some ⟨w.heap.size, 0, none⟩), .slice (some b0) l0.length c0, .slice a0 l0.length e0, .slice (some ⟨z1, 0, none⟩) 0 0, .pointer (some ⟨w.heap.size, 1, none⟩), .slice (some b1) l1.length c1, .slice a1 l1.length e1, .slice (some ⟨z2, 0, none⟩) 0 0, .pointer (some ⟨w.heap.size, 2, none⟩), .slice (some b2) l2.length c2, .slice a2 l2.length e2, .slice (some ⟨z3, 0, none⟩) 0 0, .pointer (some ⟨w.heap.size, 3, none⟩), .slice (some b3) l3.length c3, .slice a3 l3.length e3, .agg #[.slice a0 l0.length e0, .slice a1 l1.length e1, .slice a2 l2.length e2, .slice a3 l3.length e3]], defers := [] } ((((W.setCell ⟨w.heap.size + 1, 0, none⟩ (.slice a0 l0.length e0)).setCell ⟨w.heap.size + 1, 1, none⟩ (.slice a1 l1.length e1)).setCell ⟨w.heap.size + 1, 2, none⟩ (.slice a2 l2.length e2)).setCell ⟨w.heap.size + 1, 3, none⟩ (.slice a3 l3.length e3)))
    (W : World) (hS : ownS w (.slice (some b0) l0.length c0) (.slice (some b1) l1.length c1) (.slice (some b2) l2.length c2) (.slice (some b3) l3.length c3) W) (z0 z1 : Nat) (a0 : Option Addr) (e0 m1 : Nat) (t0 : RoomIn W (w.heap.size + 2) m1 a0 l0.length e0 l0) (g1 : m1 ≤ W.heap.size) (k1 : (w.heap.size + 2) ≤ m1) (a1 : Option Addr) (e1 m2 : Nat) (t1 : RoomIn W m1 m2 a1 l1.length e1 l1) (g2 : m2 ≤ W.heap.size) (k2 : m1 ≤ m2) :
    wpAnyH Try.prog .any ownOps Q (ownS w (.slice (some b0) l0.length c0) (.slice (some b1) l1.length c1) (.slice (some b2) l2.length c2) (.slice (some b3) l3.length c3)) 6 #[true, true, true, true, true, true, true, true, false, true, true, false, false, true, true, false, false, false] { tmps := #[.agg #[.slice (some b0) l0.length c0, .slice (some b1) l1.length c1, .slice (some b2) l2.length c2, .slice (some b3) l3.length c3], .pointer (some ⟨w.heap.size, 0, none⟩), .pointer (some ⟨w.heap.size + 1, 0, none⟩), .slice (some ⟨z0, 0, none⟩) 0 0, .pointer (some ⟨w.heap.size, 0, none⟩), .slice (some b0) l0.length c0, .slice a0 l0.length e0, .slice (some ⟨z1, 0, none⟩) 0 0, .pointer (some ⟨w.heap.size, 1, none⟩), .slice (some b1) l1.length c1, .slice a1 l1.length e1, undef, .pointer (some ⟨w.heap.size, 2, none⟩), .slice (some b2) l2.length c2, undef, undef, .pointer (some ⟨w.heap.size, 3, none⟩), .slice (some b3) l3.length c3, undef, undef], defers := [] } W := by
  refine wpAnyH_ready (rs := [8, 12]) (by kernel_rfl) (by simp) ?_
  refine AllReadyH.cons (o := ownOp8) rfl (fun K hK => ?_) ?_
  · refine step_lit (by rfl) (by rfl) ?_
    intro z2 W' hb
    have hS' := ownS_keep hS hb
    refine hK.out _ _ hS' (fun _ => ?_)
    exact ownp_nd2_2 n0 n1 n2 n3 o0 o1 o2 o3 hQ W' hS' z0 z1 z2 a0 e0 m1 (t0.below hb g1) (Nat.le_trans g1 hb.size) k1 a1 e1 m2 (t1.below hb g2) (Nat.le_trans g2 hb.size) k2
  refine AllReadyH.cons (o := ownOp12) rfl (fun K hK => ?_) ?_
  · refine step_lit (by rfl) (by rfl) ?_
    intro z3 W' hb
    have hS' := ownS_keep hS hb
    refine hK.out _ _ hS' (fun _ => ?_)
    exact ownp_nd2_3 n0 n1 n2 n3 o0 o1 o2 o3 hQ W' hS' z0 z1 z3 a0 e0 m1 (t0.below hb g1) (Nat.le_trans g1 hb.size) k1 a1 e1 m2 (t1.below hb g2) (Nat.le_trans g2 hb.size) k2
  exact AllReadyH.nil

set_option maxRecDepth 20000 in
set_option maxHeartbeats 4000000 in
theorem ownp_nd1_123 {b0 b1 b2 b3 : Addr} {c0 c1 c2 c3 : Nat} {l0 l1 l2 l3 : List (Int × Int)} {w : World} {Q : Exit → Act → World → Prop} (n0 : l0.length ≤ 1048576) (n1 : l1.length ≤ 1048576) (n2 : l2.length ≤ 1048576) (n3 : l3.length ≤ 1048576) (o0 : PRow w (some b0) l0) (o1 : PRow w (some b1) l1) (o2 : PRow w (some b2) l2) (o3 : PRow w (some b3) l3)
    (hQ : ∀ (W : World) (hS : ownS w (.slice (some b0) l0.length c0) (.slice (some b1) l1.length c1) (.slice (some b2) l2.length c2) (.slice (some b3) l3.length c3) W) (z0 z1 z2 z3 : Nat) (a0 : Option Addr) (e0 m1 : Nat) (t0 : RoomIn W (w.heap.size + 2) m1 a0 l0.length e0 l0) (g1 : m1 ≤ W.heap.size) (k1 : (w.heap.size + 2) ≤ m1) (a1 : Option Addr) (e1 m2 : Nat) (t1 : RoomIn W m1 m2 a1 l1.length e1 l1) (g2 : m2 ≤ W.heap.size) (k2 : m1 ≤ m2) (a2 : Option Addr) (e2 m3 : Nat) (t2 : RoomIn W m2 m3 a2 l2.length e2 l2) (g3 : m3 ≤ W.heap.size) (k3 : m2 ≤ m3) (a3 : Option Addr) (e3 m4 : Nat) (t3 : RoomIn W m3 m4 a3 l3.length e3 l3) (g4 : m4 ≤ W.heap.size) (k4 : m3 ≤ m4), Q .normal { tmps := #[.agg #[.slice (some b0) l0.length c0, .slice (some b1) l1.length c1, .slice (some b2) l2.length c2, .slice (some b3) l3.length c3], .pointer (some ⟨w.heap.size, 0, none⟩), .pointer (some ⟨w.heap.size + 1, 0, none⟩), .slice (some ⟨z0, 0, none⟩) 0 0, .pointer (some ⟨w.heap.size, 0, none⟩), .slice (some b0) l0.length c0, .slice a0 l0.length e0, .slice (some ⟨z1, 0, none⟩) 0 0, .pointer (some ⟨w.heap.size, 1, none⟩), .slice (some b1) l1.length c1, .slice a1 l1.length e1, .slice (some ⟨z2, 0, none⟩) 0 0, .pointer (some ⟨w.heap.size, 2, none⟩), .slice (some b2) l2.length c2, .slice a2 l2.length e2, .slice (some ⟨z3, 0, none⟩) 0 0, .pointer (some ⟨w.heap.size, 3, none⟩), .slice (some b3) l3.length c3, .slice a3 l3.length e3, .agg #[.slice a0 l0.length e0, .slice a1 l1.length e1, .slice a2 l2.length e2, .slice a3 l3.length e3]], defers := [] } ((((W.setCell ⟨w.heap.size + 1, 0, none⟩ (.slice a0 l0.length e0)).setCell ⟨w.heap.size + 1, 1, none⟩ (.slice a1 l1.length e1)).setCell ⟨w.heap.size + 1, 2, none⟩ (.slice a2 l2.length e2)).setCell ⟨w.heap.size + 1, 3, none⟩ (.slice a3 l3.length e3)))
    (W : World) (hS : ownS w (.slice (some b0) l0.length c0) (.slice (some b1) l1.length c1) (.slice (some b2) l2.length c2) (.slice (some b3) l3.length c3) W) (z0 z1 z2 z3 : Nat) (a0 : Option Addr) (e0 m1 : Nat) (t0 : RoomIn W (w.heap.size + 2) m1 a0 l0.length e0 l0) (g1 : m1 ≤ W.heap.size) (k1 : (w.heap.size + 2) ≤ m1) :
    wpAnyH Try.prog .any ownOps Q (ownS w (.slice (some b0) l0.length c0) (.slice (some b1) l1.length c1) (.slice (some b2) l2.length c2) (.slice (some b3) l3.length c3)) 5 #[true, true, true, true, true, true, true, false, true, true, true, false, true, true, true, false, false, false] { tmps := #[.agg #[.slice (some b0) l0.length c0, .slice (some b1) l1.length c1, .slice (some b2) l2.length c2, .slice (some b3) l3.length c3], .pointer (some ⟨w.heap.size, 0, none⟩), .pointer (some ⟨w.heap.size + 1, 0, none⟩), .slice (some ⟨z0, 0, none⟩) 0 0, .pointer (some ⟨w.heap.size, 0, none⟩), .slice (some b0) l0.length c0, .slice a0 l0.length e0, .slice (some ⟨z1, 0, none⟩) 0 0, .pointer (some ⟨w.heap.size, 1, none⟩), .slice (some b1) l1.length c1, undef, .slice (some ⟨z2, 0, none⟩) 0 0, .pointer (some ⟨w.heap.size, 2, none⟩), .slice (some b2) l2.length c2, undef, .slice (some ⟨z3, 0, none⟩) 0 0, .pointer (some ⟨w.heap.size, 3, none⟩), .slice (some b3) l3.length c3, undef, undef], defers := [] } W := by
  refine wpAnyH_ready (rs := [7]) (by kernel_rfl) (by simp) ?_
  refine AllReadyH.cons (o := ownOp7) rfl (fun K hK => ?_) ?_
  · refine step_freshP (by rfl) (Operand.tmp 7) (Operand.tmp 9) (by rfl) z1 b1 l1.length c1 l1 (by rfl) (by rfl) rfl (o1.below hS.1 (Nat.le_refl _)) n1 ?_
    intro a1 e1 W' hr hb
    have hS' := ownS_keep hS hb
    refine hK.out _ _ hS' (fun _ => ?_)
    exact ownp_nd2_23 n0 n1 n2 n3 o0 o1 o2 o3 hQ W' hS' z0 z1 z2 z3 a0 e0 m1 (t0.below hb g1) (Nat.le_trans g1 hb.size) k1 a1 e1 W'.heap.size (hr.mono g1 (Nat.le_refl _)) (Nat.le_refl _) (Nat.le_trans g1 hb.size)
  exact AllReadyH.nil

set_option maxRecDepth 20000 in
set_option maxHeartbeats 4000000 in
theorem ownp_nd1_12 {b0 b1 b2 b3 : Addr} {c0 c1 c2 c3 : Nat} {l0 l1 l2 l3 : List (Int × Int)} {w : World} {Q : Exit → Act → World → Prop} (n0 : l0.length ≤ 1048576) (n1 : l1.length ≤ 1048576) (n2 : l2.length ≤ 1048576) (n3 : l3.length ≤ 1048576) (o0 : PRow w (some b0) l0) (o1 : PRow w (some b1) l1) (o2 : PRow w (some b2) l2) (o3 : PRow w (some b3) l3)
    (hQ : ∀ (W : World) (hS : ownS w (.slice (some b0) l0.length c0) (.slice (some b1) l1.length c1) (.slice (some b2) l2.length c2) (.slice (some b3) l3.length c3) W) (z0 z1 z2 z3 : Nat) (a0 : Option Addr) (e0 m1 : Nat) (t0 : RoomIn W (w.heap.size + 2) m1 a0 l0.length e0 l0) (g1 : m1 ≤ W.heap.size) (k1 : (w.heap.size + 2) ≤ m1) (a1 : Option Addr) (e1 m2 : Nat) (t1 : RoomIn W m1 m2 a1 l1.length e1 l1) (g2 : m2 ≤ W.heap.size) (k2 : m1 ≤ m2) (a2 : Option Addr) (e2 m3 : Nat) (t2 : RoomIn W m2 m3 a2 l2.length e2 l2) (g3 : m3 ≤ W.heap.size) (k3 : m2 ≤ m3) (a3 : Option Addr) (e3 m4 : Nat) (t3 : RoomIn W m3 m4 a3 l3.length e3 l3) (g4 : m4 ≤ W.heap.size) (k4 : m3 ≤ m4), Q .normal { tmps := #[.agg #[.slice (some b0) l0.length c0, .slice (some b1) l1.length c1, .slice (some b2) l2.length c2, .slice (some b3) l3.length c3], .pointer (some ⟨w.heap.size, 0, none⟩), .pointer (some ⟨w.heap.size + 1, 0, none⟩), .slice (some ⟨z0, 0, none⟩) 0 0, .pointer (some ⟨w.heap.size, 0, none⟩), .slice (some b0) l0.length c0, .slice a0 l0.length e0, .slice (some ⟨z1, 0, none⟩) 0 0, .pointer (some ⟨w.heap.size, 1, none⟩), .slice (some b1) l1.length c1, .slice a1 l1.length e1, .slice (some ⟨z2, 0, none⟩) 0 0, .pointer (some ⟨w.heap.size, 2, none⟩), .slice (some b2) l2.length c2, .slice a2 l2.length e2, .slice (some ⟨z3, 0, none⟩) 0 0, .pointer (some ⟨w.heap.size, 3, none⟩), .slice (some b3) l3.length c3, .slice a3 l3.length e3, .agg #[.slice a0 l0.length e0, .slice a1 l1.length e1, .slice a2 l2.length e2, .slice a3 l3.length e3]], defers := [] } ((((W.setCell ⟨w.heap.size + 1, 0, none⟩ (.slice a0 l0.length e0)).setCell ⟨w.heap.size + 1, 1, none⟩ (.slice a1 l1.length e1)).setCell ⟨w.heap.size + 1, 2, none⟩ (.slice a2 l2.length e2)).setCell ⟨w.heap.size + 1, 3, none⟩ (.slice a3 l3.length e3)))
    (W : World) (hS : ownS w (.slice (some b0) l0.length c0) (.slice (some b1) l1.length c1) (.slice (some b2) l2.length c2) (.slice (some b3) l3.length c3) W) (z0 z1 z2 : Nat) (a0 : Option Addr) (e0 m1 : Nat) (t0 : RoomIn W (w.heap.size + 2) m1 a0 l0.length e0 l0) (g1 : m1 ≤ W.heap.size) (k1 : (w.heap.size + 2) ≤ m1) :
    wpAnyH Try.prog .any ownOps Q (ownS w (.slice (some b0) l0.length c0) (.slice (some b1) l1.length c1) (.slice (some b2) l2.length c2) (.slice (some b3) l3.length c3)) 6 #[true, true, true, true, true, true, true, false, true, true, true, false, false, true, true, false, false, false] { tmps := #[.agg #[.slice (some b0) l0.length c0, .slice (some b1) l1.length c1, .slice (some b2) l2.length c2, .slice (some b3) l3.length c3], .pointer (some ⟨w.heap.size, 0, none⟩), .pointer (some ⟨w.heap.size + 1, 0, none⟩), .slice (some ⟨z0, 0, none⟩) 0 0, .pointer (some ⟨w.heap.size, 0, none⟩), .slice (some b0) l0.length c0, .slice a0 l0.length e0, .slice (some ⟨z1, 0, none⟩) 0 0, .pointer (some ⟨w.heap.size, 1, none⟩), .slice (some b1) l1.length c1, undef, .slice (some ⟨z2, 0, none⟩) 0 0, .pointer (some ⟨w.heap.size, 2, none⟩), .slice (some b2) l2.length c2, undef, undef, .pointer (some ⟨w.heap.size, 3, none⟩), .slice (some b3) l3.length c3, undef, undef], defers := [] } W := by
  refine wpAnyH_ready (rs := [7, 12]) (by kernel_rfl) (by simp) ?_
  refine AllReadyH.cons (o := ownOp7) rfl (fun K hK => ?_) ?_
  · refine step_freshP (by rfl) (Operand.tmp 7) (Operand.tmp 9) (by rfl) z1 b1 l1.length c1 l1 (by rfl) (by rfl) rfl (o1.below hS.1 (Nat.le_refl _)) n1 ?_
    intro a1 e1 W' hr hb
    have hS' := ownS_keep hS hb
    refine hK.out _ _ hS' (fun _ => ?_)
    exact ownp_nd2_2 n0 n1 n2 n3 o0 o1 o2 o3 hQ W' hS' z0 z1 z2 a0 e0 m1 (t0.below hb g1) (Nat.le_trans g1 hb.size) k1 a1 e1 W'.heap.size (hr.mono g1 (Nat.le_refl _)) (Nat.le_refl _) (Nat.le_trans g1 hb.size)
  refine AllReadyH.cons (o := ownOp12) rfl (fun K hK => ?_) ?_
  · refine step_lit (by rfl) (by rfl) ?_
    intro z3 W' hb
    have hS' := ownS_keep hS hb
    refine hK.out _ _ hS' (fun _ => ?_)
    exact ownp_nd1_123 n0 n1 n2 n3 o0 o1 o2 o3 hQ W' hS' z0 z1 z2 z3 a0 e0 m1 (t0.below hb g1) (Nat.le_trans g1 hb.size) k1
  exact AllReadyH.nil

set_option maxRecDepth 20000 in
set_option maxHeartbeats 4000000 in
theorem ownp_nd1_13 {b0 b1 b2 b3 : Addr} {c0 c1 c2 c3 : Nat} {l0 l1 l2 l3 : List (Int × Int)} {w : World} {Q : Exit → Act → World → Prop} (n0 : l0.length ≤ 1048576) (n1 : l1.length ≤ 1048576) (n2 : l2.length ≤ 1048576) (n3 : l3.length ≤ 1048576) (o0 : PRow w (some b0) l0) (o1 : PRow w (some b1) l1) (o2 : PRow w (some b2) l2) (o3 : PRow w (some b3) l3)
    (hQ : ∀ (W : World) (hS : ownS w (.slice (some b0) l0.length c0) (.slice (some b1) l1.length c1) (.slice (some b2) l2.length c2) (.slice (some b3) l3.length c3) W) (z0 z1 z2 z3 : Nat) (a0 : Option Addr) (e0 m1 : Nat) (t0 : RoomIn W (w.heap.size + 2) m1 a0 l0.length e0 l0) (g1 : m1 ≤ W.heap.size) (k1 : (w.heap.size + 2) ≤ m1) (a1 : Option Addr) (e1 m2 : Nat) (t1 : RoomIn W m1 m2 a1 l1.length e1 l1) (g2 : m2 ≤ W.heap.size) (k2 : m1 ≤ m2) (a2 : Option Addr) (e2 m3 : Nat) (t2 : RoomIn W m2 m3 a2 l2.length e2 l2) (g3 : m3 ≤ W.heap.size) (k3 : m2 ≤ m3) (a3 : Option Addr) (e3 m4 : Nat) (t3 : RoomIn W m3 m4 a3 l3.length e3 l3) (g4 : m4 ≤ W.heap.size) (k4 : m3 ≤ m4), Q .normal { tmps := #[.agg #[.slice (some b0) l0.length c0, .slice (some b1) l1.length c1, .slice (some b2) l2.length c2, .slice (some b3) l3.length c3], .pointer (some ⟨w.heap.size, 0, none⟩), .pointer (some ⟨w.heap.size + 1, 0, none⟩), .slice (some ⟨z0, 0, none⟩) 0 0, .pointer (some ⟨w.heap.size, 0, none⟩), .slice (some b0) l0.length c0, .slice a0 l0.length e0, .slice (some ⟨z1, 0, none⟩) 0 0, .pointer (some ⟨w.heap.size, 1, none⟩), .slice (some b1) l1.length c1, .slice a1 l1.length e1, .slice (some ⟨z2, 0, none⟩) 0 0, .pointer (some ⟨w.heap.size, 2, none⟩), .slice (some b2) l2.length c2, .slice a2 l2.length e2, .slice (some ⟨z3, 0, none⟩) 0 0, .pointer (some ⟨w.heap.size, 3, none⟩), .slice (some b3) l3.length c3, .slice a3 l3.length e3, .agg #[.slice a0 l0.length e0, .slice a1 l1.length e1, .slice a2 l2.length e2, .slice a3 l3.length e3]], defers := [] } ((((W.setCell ⟨w.heap.size + 1, 0, none⟩ (.slice a0 l0.length e0)).setCell ⟨w.heap.size + 1, 1, none⟩ (.slice a1 l1.length e1)).setCell ⟨w.heap.size + 1, 2, none⟩ (.slice a2 l2.length e2)).setCell ⟨w.heap.size + 1, 3, none⟩ (.slice a3 l3.length e3)))
    (W : World) (hS : ownS w (.slice (some b0) l0.length c0) (.slice (some b1) l1.length c1) (.slice (some b2) l2.length c2) (.slice (some b3) l3.length c3) W) (z0 z1 z3 : Nat) (a0 : Option Addr) (e0 m1 : Nat) (t0 : RoomIn W (w.heap.size + 2) m1 a0 l0.length e0 l0) (g1 : m1 ≤ W.heap.size) (k1 : (w.heap.size + 2) ≤ m1) :
    wpAnyH Try.prog .any ownOps Q (ownS w (.slice (some b0) l0.length c0) (.slice (some b1) l1.length c1) (.slice (some b2) l2.length c2) (.slice (some b3) l3.length c3)) 6 #[true, true, true, true, true, true, true, false, false, true, true, false, true, true, true, false, false, false] { tmps := #[.agg #[.slice (some b0) l0.length c0, .slice (some b1) l1.length c1, .slice (some b2) l2.length c2, .slice (some b3) l3.length c3], .pointer (some ⟨w.heap.size, 0, none⟩), .pointer (some ⟨w.heap.size + 1, 0, none⟩), .slice (some ⟨z0, 0, none⟩) 0 0, .pointer (some ⟨w.heap.size, 0, none⟩), .slice (some b0) l0.length c0, .slice a0 l0.length e0, .slice (some ⟨z1, 0, none⟩) 0 0, .pointer (some ⟨w.heap.size, 1, none⟩), .slice (some b1) l1.length c1, undef, undef, .pointer (some ⟨w.heap.size, 2, none⟩), .slice (some b2) l2.length c2, undef, .slice (some ⟨z3, 0, none⟩) 0 0, .pointer (some ⟨w.heap.size, 3, none⟩), .slice (some b3) l3.length c3, undef, undef], defers := [] } W := by
  refine wpAnyH_ready (rs := [7, 8]) (by kernel_rfl) (by simp) ?_
  refine AllReadyH.cons (o := ownOp7) rfl (fun K hK => ?_) ?_
  · refine step_freshP (by rfl) (Operand.tmp 7) (Operand.tmp 9) (by rfl) z1 b1 l1.length c1 l1 (by rfl) (by rfl) rfl (o1.below hS.1 (Nat.le_refl _)) n1 ?_
    intro a1 e1 W' hr hb
    have hS' := ownS_keep hS hb
    refine hK.out _ _ hS' (fun _ => ?_)
    exact ownp_nd2_3 n0 n1 n2 n3 o0 o1 o2 o3 hQ W' hS' z0 z1 z3 a0 e0 m1 (t0.below hb g1) (Nat.le_trans g1 hb.size) k1 a1 e1 W'.heap.size (hr.mono g1 (Nat.le_refl _)) (Nat.le_refl _) (Nat.le_trans g1 hb.size)
  refine AllReadyH.cons (o := ownOp8) rfl (fun K hK => ?_) ?_
  · refine step_lit (by rfl) (by rfl) ?_
    intro z2 W' hb
    have hS' := ownS_keep hS hb
    refine hK.out _ _ hS' (fun _ => ?_)
    exact ownp_nd1_123 n0 n1 n2 n3 o0 o1 o2 o3 hQ W' hS' z0 z1 z2 z3 a0 e0 m1 (t0.below hb g1) (Nat.le_trans g1 hb.size) k1
  exact AllReadyH.nil

set_option maxRecDepth 20000 in
set_option maxHeartbeats 4000000 in
theorem ownp_nd1_23 {b0 b1 b2 b3 : Addr} {c0 c1 c2 c3 : Nat} {l0 l1 l2 l3 : List (Int × Int)} {w : World} {Q : Exit → Act → World → Prop} (n0 : l0.length ≤ 1048576) (n1 : l1.length ≤ 1048576) (n2 : l2.length ≤ 1048576) (n3 : l3.length ≤ 1048576) (o0 : PRow w (some b0) l0) (o1 : PRow w (some b1) l1) (o2 : PRow w (some b2) l2) (o3 : PRow w (some b3) l3)
    (hQ : ∀ (W : World) (hS : ownS w (.slice (some b0) l0.length c0) (.slice (some b1) l1.length c1) (.slice (some b2) l2.length c2) (.slice (some b3) l3.length c3) W) (z0 z1 z2 z3 : Nat) (a0 : Option Addr) (e0 m1 : Nat) (t0 : RoomIn W (w.heap.size + 2) m1 a0 l0.length e0 l0) (g1 : m1 ≤ W.heap.size) (k1 : (w.heap.size + 2) ≤ m1) (a1 : Option Addr) (e1 m2 : Nat) (t1 : RoomIn W m1 m2 a1 l1.length e1 l1) (g2 : m2 ≤ W.heap.size) (k2 : m1 ≤ m2) (a2 : Option Addr) (e2 m3 : Nat) (t2 : RoomIn W m2 m3 a2 l2.length e2 l2) (g3 : m3 ≤ W.heap.size) (k3 : m2 ≤ m3) (a3 : Option Addr) (e3 m4 : Nat) (t3 : RoomIn W m3 m4 a3 l3.length e3 l3) (g4 : m4 ≤ W.heap.size) (k4 : m3 ≤ m4), Q .normal { tmps := #[.agg #[.slice (some b0) l0.length c0, .slice (some b1) l1.length c1, .slice (some b2) l2.length c2, .slice (some b3) l3.length c3], .pointer (some ⟨w.heap.size, 0, none⟩), .pointer (some ⟨w.heap.size + 1, 0, none⟩), .slice (some ⟨z0, 0, none⟩) 0 0, .pointer (some ⟨w.heap.size, 0, none⟩), .slice (some b0) l0.length c0, .slice a0 l0.length e0, .slice (some ⟨z1, 0, none⟩) 0 0, .pointer (some ⟨w.heap.size, 1, none⟩), .slice (some b1) l1.length c1, .slice a1 l1.length e1, .slice (some ⟨z2, 0, none⟩) 0 0, .pointer (some ⟨w.heap.size, 2, none⟩), .slice (some b2) l2.length c2, .slice a2 l2.length e2, .slice (some ⟨z3, 0, none⟩) 0 0, .pointer (some ⟨w.heap.size, 3, none⟩), .slice (some b3) l3.length c3, .slice a3 l3.length e3, .agg #[.slice a0 l0.length e0, .slice a1 l1.length e1, .slice a2 l2.length e2, .slice a3 l3.length e3]], defers := [] } ((((W.setCell ⟨w.heap.size + 1, 0, none⟩ (.slice a0 l0.length e0)).setCell ⟨w.heap.size + 1, 1, none⟩ (.slice a1 l1.length e1)).setCell ⟨w.heap.size + 1, 2, none⟩ (.slice a2 l2.length e2)).setCell ⟨w.heap.size + 1, 3, none⟩ (.slice a3 l3.length e3)))
    (W : World) (hS : ownS w (.slice (some b0) l0.length c0) (.slice (some b1) l1.length c1) (.slice (some b2) l2.length c2) (.slice (some b3) l3.length c3) W) (z0 z2 z3 : Nat) (a0 : Option Addr) (e0 m1 : Nat) (t0 : RoomIn W (w.heap.size + 2) m1 a0 l0.length e0 l0) (g1 : m1 ≤ W.heap.size) (k1 : (w.heap.size + 2) ≤ m1) :
    wpAnyH Try.prog .any ownOps Q (ownS w (.slice (some b0) l0.length c0) (.slice (some b1) l1.length c1) (.slice (some b2) l2.length c2) (.slice (some b3) l3.length c3)) 6 #[true, true, true, true, false, true, true, false, true, true, true, false, true, true, true, false, false, false] { tmps := #[.agg #[.slice (some b0) l0.length c0, .slice (some b1) l1.length c1, .slice (some b2) l2.length c2, .slice (some b3) l3.length c3], .pointer (some ⟨w.heap.size, 0, none⟩), .pointer (some ⟨w.heap.size + 1, 0, none⟩), .slice (some ⟨z0, 0, none⟩) 0 0, .pointer (some ⟨w.heap.size, 0, none⟩), .slice (some b0) l0.length c0, .slice a0 l0.length e0, undef, .pointer (some ⟨w.heap.size, 1, none⟩), .slice (some b1) l1.length c1, undef, .slice (some ⟨z2, 0, none⟩) 0 0, .pointer (some ⟨w.heap.size, 2, none⟩), .slice (some b2) l2.length c2, undef, .slice (some ⟨z3, 0, none⟩) 0 0, .pointer (some ⟨w.heap.size, 3, none⟩), .slice (some b3) l3.length c3, undef, undef], defers := [] } W := by
  refine wpAnyH_ready (rs := [4]) (by kernel_rfl) (by simp) ?_
  refine AllReadyH.cons (o := ownOp4) rfl (fun K hK => ?_) ?_
  · refine step_lit (by rfl) (by rfl) ?_
    intro z1 W' hb
    have hS' := ownS_keep hS hb
    refine hK.out _ _ hS' (fun _ => ?_)
    exact ownp_nd1_123 n0 n1 n2 n3 o0 o1 o2 o3 hQ W' hS' z0 z1 z2 z3 a0 e0 m1 (t0.below hb g1) (Nat.le_trans g1 hb.size) k1
  exact AllReadyH.nil

set_option maxRecDepth 20000 in
set_option maxHeartbeats 4000000 in
theorem ownp_nd1_1 {b0 b1 b2 b3 : Addr} {c0 c1 c2 c3 : Nat} {l0 l1 l2 l3 : List (Int × Int)} {w : World} {Q : Exit → Act → World → Prop} (n0 : l0.length ≤ 1048576) (n1 : l1.length ≤ 1048576) (n2 : l2.length ≤ 1048576) (n3 : l3.length ≤ 1048576) (o0 : PRow w (some b0) l0) (o1 : PRow w (some b1) l1) (o2 : PRow w (some b2) l2) (o3 : PRow w (some b3) l3)
    (hQ : ∀ (W : World) (hS : ownS w (.slice (some b0) l0.length c0) (.slice (some b1) l1.length c1) (.slice (some b2) l2.length c2) (.slice (some b3) l3.length c3) W) (z0 z1 z2 z3 : Nat) (a0 : Option Addr) (e0 m1 : Nat) (t0 : RoomIn W (w.heap.size + 2) m1 a0 l0.length e0 l0) (g1 : m1 ≤ W.heap.size) (k1 : (w.heap.size + 2) ≤ m1) (a1 : Option Addr) (e1 m2 : Nat) (t1 : RoomIn W m1 m2 a1 l1.length e1 l1) (g2 : m2 ≤ W.heap.size) (k2 : m1 ≤ m2) (a2 : Option Addr) (e2 m3 : Nat) (t2 : RoomIn W m2 m3 a2 l2.length e2 l2) (g3 : m3 ≤ W.heap.size) (k3 : m2 ≤ m3) (a3 : Option Addr) (e3 m4 : Nat) (t3 : RoomIn W m3 m4 a3 l3.length e3 l3) (g4 : m4 ≤ W.heap.size) (k4 : m3 ≤ m4), Q .normal { tmps := #[.agg #[.slice (some b0) l0.length c0, .slice (some b1) l1.length c1, .slice (some b2) l2.length c2, .slice (some b3) l3.length c3], .pointer (some ⟨w.heap.size, 0, none⟩), .pointer (some ⟨w.heap.size + 1, 0, none⟩), .slice (some ⟨z0, 0, none⟩) 0 0, .pointer (some ⟨w.heap.size, 0, none⟩), .slice (some b0) l0.length c0, .slice a0 l0.length e0, .slice (some ⟨z1, 0, none⟩) 0 0, .pointer (some ⟨w.heap.size, 1, none⟩), .slice (some b1) l1.length c1, .slice a1 l1.length e1, .slice (some ⟨z2, 0, none⟩) 0 0, .pointer (some ⟨w.heap.size, 2, none⟩), .slice (some b2) l2.length c2, .slice a2 l2.length e2, .slice (some ⟨z3, 0, none⟩) 0 0, .pointer (some ⟨w.heap.size, 3, none⟩), .slice (some b3) l3.length c3, .slice a3 l3.length e3, .agg #[.slice a0 l0.length e0, .slice a1 l1.length e1, .slice a2 l2.length e2, .slice a3 l3.length e3]], defers := [] } ((((W.setCell ⟨w.heap.size + 1, 0, none⟩ (.slice a0 l0.length e0)).setCell ⟨w.heap.size + 1, 1, none⟩ (.slice a1 l1.length e1)).setCell ⟨w.heap.size + 1, 2, none⟩ (.slice a2 l2.length e2)).setCell ⟨w.heap.size + 1, 3, none⟩ (.slice a3 l3.length e3)))
    (W : World) (hS : ownS w (.slice (some b0) l0.length c0) (.slice (some b1) l1.length c1) (.slice (some b2) l2.length c2) (.slice (some b3) l3.length c3) W) (z0 z1 : Nat) (a0 : Option Addr) (e0 m1 : Nat) (t0 : RoomIn W (w.heap.size + 2) m1 a0 l0.length e0 l0) (g1 : m1 ≤ W.heap.size) (k1 : (w.heap.size + 2) ≤ m1) :
    wpAnyH Try.prog .any ownOps Q (ownS w (.slice (some b0) l0.length c0) (.slice (some b1) l1.length c1) (.slice (some b2) l2.length c2) (.slice (some b3) l3.length c3)) 7 #[true, true, true, true, true, true, true, false, false, true, true, false, false, true, true, false, false, false] { tmps := #[.agg #[.slice (some b0) l0.length c0, .slice (some b1) l1.length c1, .slice (some b2) l2.length c2, .slice (some b3) l3.length c3], .pointer (some ⟨w.heap.size, 0, none⟩), .pointer (some ⟨w.heap.size + 1, 0, none⟩), .slice (some ⟨z0, 0, none⟩) 0 0, .pointer (some ⟨w.heap.size, 0, none⟩), .slice (some b0) l0.length c0, .slice a0 l0.length e0, .slice (some ⟨z1, 0, none⟩) 0 0, .pointer (some ⟨w.heap.size, 1, none⟩), .slice (some b1) l1.length c1, undef, undef, .pointer (some ⟨w.heap.size, 2, none⟩), .slice (some b2) l2.length c2, undef, undef, .pointer (some ⟨w.heap.size, 3, none⟩), .slice (some b3) l3.length c3, undef, undef], defers := [] } W := by
  refine wpAnyH_ready (rs := [7, 8, 12]) (by kernel_rfl) (by simp) ?_
  refine AllReadyH.cons (o := ownOp7) rfl (fun K hK => ?_) ?_
  · refine step_freshP (by rfl) (Operand.tmp 7) (Operand.tmp 9) (by rfl) z1 b1 l1.length c1 l1 (by rfl) (by rfl) rfl (o1.below hS.1 (Nat.le_refl _)) n1 ?_
    intro a1 e1 W' hr hb
    have hS' := ownS_keep hS hb
    refine hK.out _ _ hS' (fun _ => ?_)
    exact ownp_nd2_n n0 n1 n2 n3 o0 o1 o2 o3 hQ W' hS' z0 z1 a0 e0 m1 (t0.below hb g1) (Nat.le_trans g1 hb.size) k1 a1 e1 W'.heap.size (hr.mono g1 (Nat.le_refl _)) (Nat.le_refl _) (Nat.le_trans g1 hb.size)
  refine AllReadyH.cons (o := ownOp8) rfl (fun K hK => ?_) ?_
  · refine step_lit (by rfl) (by rfl) ?_
    intro z2 W' hb
    have hS' := ownS_keep hS hb
    refine hK.out _ _ hS' (fun _ => ?_)
    exact ownp_nd1_12 n0 n1 n2 n3 o0 o1 o2 o3 hQ W' hS' z0 z1 z2 a0 e0 m1 (t0.below hb g1) (Nat.le_trans g1 hb.size) k1
  refine AllReadyH.cons (o := ownOp12) rfl (fun K hK => ?_) ?_
  · refine step_lit (by rfl) (by rfl) ?_
    intro z3 W' hb
    have hS' := ownS_keep hS hb
    refine hK.out _ _ hS' (fun _ => ?_)
    exact ownp_nd1_13 n0 n1 n2 n3 o0 o1 o2 o3 hQ W' hS' z0 z1 z3 a0 e0 m1 (t0.below hb g1) (Nat.le_trans g1 hb.size) k1
  exact AllReadyH.nil

set_option maxRecDepth 20000 in
set_option maxHeartbeats 4000000 in
theorem ownp_nd1_2 {b0 b1 b2 b3 : Addr} {c0 c1 c2 c3 : Nat} {l0 l1 l2 l3 : List (Int × Int)} {w : World} {Q : Exit → Act → World → Prop} (n0 : l0.length ≤ 1048576) (n1 : l1.length ≤ 1048576) (n2 : l2.length ≤ 1048576) (n3 : l3.length ≤ 1048576) (o0 : PRow w (some b0) l0) (o1 : PRow w (some b1) l1) (o2 : PRow w (some b2) l2) (o3 : PRow w (some b3) l3)
    (hQ : ∀ (W : World) (hS : ownS w (.slice (some b0) l0.length c0) (.slice (some b1) l1.length c1) (.slice (some b2) l2.length c2) (.slice (some b3) l3.length c3) W) (z0 z1 z2 z3 : Nat) (a0 : Option Addr) (e0 m1 : Nat) (t0 : RoomIn W (w.heap.size + 2) m1 a0 l0.length e0 l0) (g1 : m1 ≤ W.heap.size) (k1 : (w.heap.size + 2) ≤ m1) (a1 : Option Addr) (e1 m2 : Nat) (t1 : RoomIn W m1 m2 a1 l1.length e1 l1) (g2 : m2 ≤ W.heap.size) (k2 : m1 ≤ m2) (a2 : Option Addr) (e2 m3 : Nat) (t2 : RoomIn W m2 m3 a2 l2.length e2 l2) (g3 : m3 ≤ W.heap.size) (k3 : m2 ≤ m3) (a3 : Option Addr) (e3 m4 : Nat) (t3 : RoomIn W m3 m4 a3 l3.length e3 l3) (g4 : m4 ≤ W.heap.size) (k4 : m3 ≤ m4), Q .normal { tmps := #[.agg #[.slice (some b0) l0.length c0, .slice (some b1) l1.length c1, .slice (some b2) l2.length c2, .slice (some b3) l3.length c3], .pointer (some ⟨w.heap.size, 0, none⟩), .pointer (some ⟨w.heap.size + 1, 0, none⟩), .slice (some ⟨z0, 0, none⟩) 0 0, .pointer (some ⟨w.heap.size, 0, none⟩), .slice (some b0) l0.length c0, .slice a0 l0.length e0, .slice (some ⟨z1, 0, none⟩) 0 0, .pointer (some ⟨w.heap.size, 1, none⟩), .slice (some b1) l1.length c1, .slice a1 l1.length e1, .slice (some ⟨z2, 0, none⟩) 0 0, .pointer (some ⟨w.heap.size, 2, none⟩), .slice (some b2) l2.length c2, .slice a2 l2.length e2, .slice (some ⟨z3, 0, none⟩) 0 0, .pointer (some ⟨w.heap.size, 3, none⟩), .slice (some b3) l3.length c3, .slice a3 l3.length e3, .agg #[.slice a0 l0.length e0, .slice a1 l1.length e1, .slice a2 l2.length e2, .slice a3 l3.length e3]], defers := [] } ((((W.setCell ⟨w.heap.size + 1, 0, none⟩ (.slice a0 l0.length e0)).setCell ⟨w.heap.size + 1, 1, none⟩ (.slice a1 l1.length e1)).setCell ⟨w.heap.size + 1, 2, none⟩ (.slice a2 l2.length e2)).setCell ⟨w.heap.size + 1, 3, none⟩ (.slice a3 l3.length e3)))
    (W : World) (hS : ownS w (.slice (some b0) l0.length c0) (.slice (some b1) l1.length c1) (.slice (some b2) l2.length c2) (.slice (some b3) l3.length c3) W) (z0 z2 : Nat) (a0 : Option Addr) (e0 m1 : Nat) (t0 : RoomIn W (w.heap.size + 2) m1 a0 l0.length e0 l0) (g1 : m1 ≤ W.heap.size) (k1 : (w.heap.size + 2) ≤ m1) :
    wpAnyH Try.prog .any ownOps Q (ownS w (.slice (some b0) l0.length c0) (.slice (some b1) l1.length c1) (.slice (some b2) l2.length c2) (.slice (some b3) l3.length c3)) 7 #[true, true, true, true, false, true, true, false, true, true, true, false, false, true, true, false, false, false] { tmps := #[.agg #[.slice (some b0) l0.length c0, .slice (some b1) l1.length c1, .slice (some b2) l2.length c2, .slice (some b3) l3.length c3], .pointer (some ⟨w.heap.size, 0, none⟩), .pointer (some ⟨w.heap.size + 1, 0, none⟩), .slice (some ⟨z0, 0, none⟩) 0 0, .pointer (some ⟨w.heap.size, 0, none⟩), .slice (some b0) l0.length c0, .slice a0 l0.length e0, undef, .pointer (some ⟨w.heap.size, 1, none⟩), .slice (some b1) l1.length c1, undef, .slice (some ⟨z2, 0, none⟩) 0 0, .pointer (some ⟨w.heap.size, 2, none⟩), .slice (some b2) l2.length c2, undef, undef, .pointer (some ⟨w.heap.size, 3, none⟩), .slice (some b3) l3.length c3, undef, undef], defers := [] } W := by
  refine wpAnyH_ready (rs := [4, 12]) (by kernel_rfl) (by simp) ?_
  refine AllReadyH.cons (o := ownOp4) rfl (fun K hK => ?_) ?_
  · refine step_lit (by rfl) (by rfl) ?_
    intro z1 W' hb
    have hS' := ownS_keep hS hb
    refine hK.out _ _ hS' (fun _ => ?_)
    exact ownp_nd1_12 n0 n1 n2 n3 o0 o1 o2 o3 hQ W' hS' z0 z1 z2 a0 e0 m1 (t0.below hb g1) (Nat.le_trans g1 hb.size) k1
  refine AllReadyH.cons (o := ownOp12) rfl (fun K hK => ?_) ?_
  · refine step_lit (by rfl) (by rfl) ?_
    intro z3 W' hb
    have hS' := ownS_keep hS hb
    refine hK.out _ _ hS' (fun _ => ?_)
    exact ownp_nd1_23 n0 n1 n2 n3 o0 o1 o2 o3 hQ W' hS' z0 z2 z3 a0 e0 m1 (t0.below hb g1) (Nat.le_trans g1 hb.size) k1
  exact AllReadyH.nil

set_option maxRecDepth 20000 in
set_option maxHeartbeats 4000000 in
theorem ownp_nd1_3 {b0 b1 b2 b3 : Addr} {c0 c1 c2 c3 : Nat} {l0 l1 l2 l3 : List (Int × Int)} {w : World} {Q : Exit → Act → World → Prop} (n0 : l0.length ≤ 1048576) (n1 : l1.length ≤ 1048576) (n2 : l2.length ≤ 1048576) (n3 : l3.length ≤ 1048576) (o0 : PRow w (some b0) l0) (o1 : PRow w (some b1) l1) (o2 : PRow w (some b2) l2) (o3 : PRow w (some b3) l3)
    (hQ : ∀ (W : World) (hS : ownS w (.slice (some b0) l0.length c0) (.slice (some b1) l1.length c1) (.slice (some b2) l2.length c2) (.slice (some b3) l3.length c3) W) (z0 z1 z2 z3 : Nat) (a0 : Option Addr) (e0 m1 : Nat) (t0 : RoomIn W (w.heap.size + 2) m1 a0 l0.length e0 l0) (g1 : m1 ≤ W.heap.size) (k1 : (w.heap.size + 2) ≤ m1) (a1 : Option Addr) (e1 m2 : Nat) (t1 : RoomIn W m1 m2 a1 l1.length e1 l1) (g2 : m2 ≤ W.heap.size) (k2 : m1 ≤ m2) (a2 : Option Addr) (e2 m3 : Nat) (t2 : RoomIn W m2 m3 a2 l2.length e2 l2) (g3 : m3 ≤ W.heap.size) (k3 : m2 ≤ m3) (a3 : Option Addr) (e3 m4 : Nat) (t3 : RoomIn W m3 m4 a3 l3.length e3 l3) (g4 : m4 ≤ W.heap.size) (k4 : m3 ≤ m4), Q .normal { tmps := #[.agg #[.slice (some b0) l0.length c0, .slice (some b1) l1.length c1, .slice (some b2) l2.length c2, .slice (some b3) l3.length c3], .pointer (some ⟨w.heap.size, 0, none⟩), .pointer (some ⟨w.heap.size + 1, 0, none⟩), .slice (some ⟨z0, 0, none⟩) 0 0, .pointer (some ⟨w.heap.size, 0, none⟩), .slice (some b0) l0.length c0, .slice a0 l0.length e0, .slice (some ⟨z1, 0, none⟩) 0 0, .pointer (some ⟨w.heap.size, 1, none⟩), .slice (some b1) l1.length c1, .slice a1 l1.length e1, .slice (some ⟨z2, 0, none⟩) 0 0, .pointer (some ⟨w.heap.size, 2, none⟩), .slice (some b2) l2.length c2, .slice a2 l2.length e2, .slice (some ⟨z3, 0, none⟩) 0 0, .pointer (some ⟨w.heap.size, 3, none⟩), .slice (some b3) l3.length c3, .slice a3 l3.length e3, .agg #[.slice a0 l0.length e0, .slice a1 l1.length e1, .slice a2 l2.length e2, .slice a3 l3.length e3]], defers := [] } ((((W.setCell ⟨w.heap.size + 1, 0, none⟩ (.slice a0 l0.length e0)).setCell ⟨w.heap.size + 1, 1, none⟩ (.slice a1 l1.length e1)).setCell ⟨w.heap.size + 1, 2, none⟩ (.slice a2 l2.length e2)).setCell ⟨w.heap.size + 1, 3, none⟩ (.slice a3 l3.length e3)))
    (W : World) (hS : ownS w (.slice (some b0) l0.length c0) (.slice (some b1) l1.length c1) (.slice (some b2) l2.length c2) (.slice (some b3) l3.length c3) W) (z0 z3 : Nat) (a0 : Option Addr) (e0 m1 : Nat) (t0 : RoomIn W (w.heap.size + 2) m1 a0 l0.length e0 l0) (g1 : m1 ≤ W.heap.size) (k1 : (w.heap.size + 2) ≤ m1) :
    wpAnyH Try.prog .any ownOps Q (ownS w (.slice (some b0) l0.length c0) (.slice (some b1) l1.length c1) (.slice (some b2) l2.length c2) (.slice (some b3) l3.length c3)) 7 #[true, true, true, true, false, true, true, false, false, true, true, false, true, true, true, false, false, false] { tmps := #[.agg #[.slice (some b0) l0.length c0, .slice (some b1) l1.length c1, .slice (some b2) l2.length c2, .slice (some b3) l3.length c3], .pointer (some ⟨w.heap.size, 0, none⟩), .pointer (some ⟨w.heap.size + 1, 0, none⟩), .slice (some ⟨z0, 0, none⟩) 0 0, .pointer (some ⟨w.heap.size, 0, none⟩), .slice (some b0) l0.length c0, .slice a0 l0.length e0, undef, .pointer (some ⟨w.heap.size, 1, none⟩), .slice (some b1) l1.length c1, undef, undef, .pointer (some ⟨w.heap.size, 2, none⟩), .slice (some b2) l2.length c2, undef, .slice (some ⟨z3, 0, none⟩) 0 0, .pointer (some ⟨w.heap.size, 3, none⟩), .slice (some b3) l3.length c3, undef, undef], defers := [] } W := by
  refine wpAnyH_ready (rs := [4, 8]) (by kernel_rfl) (by simp) ?_
  refine AllReadyH.cons (o := ownOp4) rfl (fun K hK => ?_) ?_
  · refine step_lit (by rfl) (by rfl) ?_
    intro z1 W' hb
    have hS' := ownS_keep hS hb
    refine hK.out _ _ hS' (fun _ => ?_)
    exact ownp_nd1_13 n0 n1 n2 n3 o0 o1 o2 o3 hQ W' hS' z0 z1 z3 a0 e0 m1 (t0.below hb g1) (Nat.le_trans g1 hb.size) k1
  refine AllReadyH.cons (o := ownOp8) rfl (fun K hK => ?_) ?_
  · refine step_lit (by rfl) (by rfl) ?_
    intro z2 W' hb
    have hS' := ownS_keep hS hb
    refine hK.out _ _ hS' (fun _ => ?_)
    exact ownp_nd1_23 n0 n1 n2 n3 o0 o1 o2 o3 hQ W' hS' z0 z2 z3 a0 e0 m1 (t0.below hb g1) (Nat.le_trans g1 hb.size) k1
  exact AllReadyH.nil

set_option maxRecDepth 20000 in
set_option maxHeartbeats 4000000 in
theorem ownp_nd1_n {b0 b1 b2 b3 : Addr} {c0 c1 c2 c3 : Nat} {l0 l1 l2 l3 : List (Int × Int)} {w : World} {Q : Exit → Act → World → Prop} (n0 : l0.length ≤ 1048576) (n1 : l1.length ≤ 1048576) (n2 : l2.length ≤ 1048576) (n3 : l3.length ≤ 1048576) (o0 : PRow w (some b0) l0) (o1 : PRow w (some b1) l1) (o2 : PRow w (some b2) l2) (o3 : PRow w (some b3) l3)
    (hQ : ∀ (W : World) (hS : ownS w (.slice (some b0) l0.length c0) (.slice (some b1) l1.length c1) (.slice (some b2) l2.length c2) (.slice (some b3) l3.length c3) W) (z0 z1 z2 z3 : Nat) (a0 : Option Addr) (e0 m1 : Nat) (t0 : RoomIn W (w.heap.size + 2) m1 a0 l0.length e0 l0) (g1 : m1 ≤ W.heap.size) (k1 : (w.heap.size + 2) ≤ m1) (a1 : Option Addr) (e1 m2 : Nat) (t1 : RoomIn W m1 m2 a1 l1.length e1 l1) (g2 : m2 ≤ W.heap.size) (k2 : m1 ≤ m2) (a2 : Option Addr) (e2 m3 : Nat) (t2 : RoomIn W m2 m3 a2 l2.length e2 l2) (g3 : m3 ≤ W.heap.size) (k3 : m2 ≤ m3) (a3 : Option Addr) (e3 m4 : Nat) (t3 : RoomIn W m3 m4 a3 l3.length e3 l3) (g4 : m4 ≤ W.heap.size) (k4 : m3 ≤ m4), Q .normal { tmps := #[.agg #[.slice (some b0) l0.length c0, .slice (some b1) l1.length c1, .slice (some b2) l2.length c2, .slice (some b3) l3.length c3], .pointer (some ⟨w.heap.size, 0, none⟩), .pointer (some ⟨w.heap.size + 1, 0, none⟩), .slice (some ⟨z0, 0, none⟩) 0 0, .pointer (some ⟨w.heap.size, 0, none⟩), .slice (some b0) l0.length c0, .slice a0 l0.length e0, .slice (some ⟨z1, 0, none⟩) 0 0, .pointer (some ⟨w.heap.size, 1, none⟩), .slice (some b1) l1.length c1, .slice a1 l1.length e1, .slice (some ⟨z2, 0, none⟩) 0 0, .pointer (some ⟨w.heap.size, 2, none⟩), .slice (some b2) l2.length c2, .slice a2 l2.length e2, .slice (some ⟨z3, 0, none⟩) 0 0, .pointer (some ⟨w.heap.size, 3, none⟩), .slice (some b3) l3.length c3, .slice a3 l3.length e3, .agg #[.slice a0 l0.length e0, .slice a1 l1.length e1, .slice a2 l2.length e2, .slice a3 l3.length e3]], defers := [] } ((((W.setCell ⟨w.heap.size + 1, 0, none⟩ (.slice a0 l0.length e0)).setCell ⟨w.heap.size + 1, 1, none⟩ (.slice a1 l1.length e1)).setCell ⟨w.heap.size + 1, 2, none⟩ (.slice a2 l2.length e2)).setCell ⟨w.heap.size + 1, 3, none⟩ (.slice a3 l3.length e3)))
    (W : World) (hS : ownS w (.slice (some b0) l0.length c0) (.slice (some b1) l1.length c1) (.slice (some b2) l2.length c2) (.slice (some b3) l3.length c3) W) (z0 : Nat) (a0 : Option Addr) (e0 m1 : Nat) (t0 : RoomIn W (w.heap.size + 2) m1 a0 l0.length e0 l0) (g1 : m1 ≤ W.heap.size) (k1 : (w.heap.size + 2) ≤ m1) :
    wpAnyH Try.prog .any ownOps Q (ownS w (.slice (some b0) l0.length c0) (.slice (some b1) l1.length c1) (.slice (some b2) l2.length c2) (.slice (some b3) l3.length c3)) 8 #[true, true, true, true, false, true, true, false, false, true, true, false, false, true, true, false, false, false] { tmps := #[.agg #[.slice (some b0) l0.length c0, .slice (some b1) l1.length c1, .slice (some b2) l2.length c2, .slice (some b3) l3.length c3], .pointer (some ⟨w.heap.size, 0, none⟩), .pointer (some ⟨w.heap.size + 1, 0, none⟩), .slice (some ⟨z0, 0, none⟩) 0 0, .pointer (some ⟨w.heap.size, 0, none⟩), .slice (some b0) l0.length c0, .slice a0 l0.length e0, undef, .pointer (some ⟨w.heap.size, 1, none⟩), .slice (some b1) l1.length c1, undef, undef, .pointer (some ⟨w.heap.size, 2, none⟩), .slice (some b2) l2.length c2, undef, undef, .pointer (some ⟨w.heap.size, 3, none⟩), .slice (some b3) l3.length c3, undef, undef], defers := [] } W := by
  refine wpAnyH_ready (rs := [4, 8, 12]) (by kernel_rfl) (by simp) ?_
  refine AllReadyH.cons (o := ownOp4) rfl (fun K hK => ?_) ?_
  · refine step_lit (by rfl) (by rfl) ?_
    intro z1 W' hb
    have hS' := ownS_keep hS hb
    refine hK.out _ _ hS' (fun _ => ?_)
    exact ownp_nd1_1 n0 n1 n2 n3 o0 o1 o2 o3 hQ W' hS' z0 z1 a0 e0 m1 (t0.below hb g1) (Nat.le_trans g1 hb.size) k1
  refine AllReadyH.cons (o := ownOp8) rfl (fun K hK => ?_) ?_
  · refine step_lit (by rfl) (by rfl) ?_
    intro z2 W' hb
    have hS' := ownS_keep hS hb
    refine hK.out _ _ hS' (fun _ => ?_)
    exact ownp_nd1_2 n0 n1 n2 n3 o0 o1 o2 o3 hQ W' hS' z0 z2 a0 e0 m1 (t0.below hb g1) (Nat.le_trans g1 hb.size) k1
  refine AllReadyH.cons (o := ownOp12) rfl (fun K hK => ?_) ?_
  · refine step_lit (by rfl) (by rfl) ?_
    intro z3 W' hb
    have hS' := ownS_keep hS hb
    refine hK.out _ _ hS' (fun _ => ?_)
    exact ownp_nd1_3 n0 n1 n2 n3 o0 o1 o2 o3 hQ W' hS' z0 z3 a0 e0 m1 (t0.below hb g1) (Nat.le_trans g1 hb.size) k1
  exact AllReadyH.nil

set_option maxRecDepth 20000 in
set_option maxHeartbeats 4000000 in
theorem ownp_nd0_0123 {b0 b1 b2 b3 : Addr} {c0 c1 c2 c3 : Nat} {l0 l1 l2 l3 : List (Int × Int)} {w : World} {Q : Exit → Act → World → Prop} (n0 : l0.length ≤ 1048576) (n1 : l1.length ≤ 1048576) (n2 : l2.length ≤ 1048576) (n3 : l3.length ≤ 1048576) (o0 : PRow w (some b0) l0) (o1 : PRow w (some b1) l1) (o2 : PRow w (some b2) l2) (o3 : PRow w (some b3) l3)
    (hQ : ∀ (W : World) (hS : ownS w (.slice (some b0) l0.length c0) (.slice (some b1) l1.length c1) (.slice (some b2) l2.length c2) (.slice (some b3) l3.length c3) W) (z0 z1 z2 z3 : Nat) (a0 : Option Addr) (e0 m1 : Nat) (t0 : RoomIn W (w.heap.size + 2) m1 a0 l0.length e0 l0) (g1 : m1 ≤ W.heap.size) (k1 : (w.heap.size + 2) ≤ m1) (a1 : Option Addr) (e1 m2 : Nat) (t1 : RoomIn W m1 m2 a1 l1.length e1 l1) (g2 : m2 ≤ W.heap.size) (k2 : m1 ≤ m2) (a2 : Option Addr) (e2 m3 : Nat) (t2 : RoomIn W m2 m3 a2 l2.length e2 l2) (g3 : m3 ≤ W.heap.size) (k3 : m2 ≤ m3) (a3 : Option Addr) (e3 m4 : Nat) (t3 : RoomIn W m3 m4 a3 l3.length e3 l3) (g4 : m4 ≤ W.heap.size) (k4 : m3 ≤ m4), Q .normal { tmps := #[.agg #[.slice (some b0) l0.length c0, .slice (some b1) l1.length c1, .slice (some b2) l2.length c2, .slice (some b3) l3.length c3], .pointer (some ⟨w.heap.size, 0, none⟩), .pointer (some ⟨w.heap.size + 1, 0, none⟩), .slice (some ⟨z0, 0, none⟩) 0 0, .pointer (some ⟨w.heap.size, 0, none⟩), .slice (some b0) l0.length c0, .slice a0 l0.length e0, .slice (some ⟨z1, 0, none⟩) 0 0, .pointer (some ⟨w.heap.size, 1, none⟩), .slice (some b1) l1.length c1, .slice a1 l1.length e1, .slice (some ⟨z2, 0, none⟩) 0 0, .pointer (some ⟨w.heap.size, 2, none⟩), .slice (some b2) l2.length c2, .slice a2 l2.length e2, .slice (some ⟨z3, 0, none⟩) 0 0, .pointer (some ⟨w.heap.size, 3, none⟩), .slice (some b3) l3.length c3, .slice a3 l3.length e3, .agg #[.slice a0 l0.length e0, .slice a1 l1.length e1, .slice a2 l2.length e2, .slice a3 l3.length e3]], defers := [] } ((((W.setCell ⟨w.heap.size + 1, 0, none⟩ (.slice a0 l0.length e0)).setCell ⟨w.heap.size + 1, 1, none⟩ (.slice a1 l1.length e1)).setCell ⟨w.heap.size + 1, 2, none⟩ (.slice a2 l2.length e2)).setCell ⟨w.heap.size + 1, 3, none⟩ (.slice a3 l3.length e3)))
    (W : World) (hS : ownS w (.slice (some b0) l0.length c0) (.slice (some b1) l1.length c1) (.slice (some b2) l2.length c2) (.slice (some b3) l3.length c3) W) (z0 z1 z2 z3 : Nat) :
    wpAnyH Try.prog .any ownOps Q (ownS w (.slice (some b0) l0.length c0) (.slice (some b1) l1.length c1) (.slice (some b2) l2.length c2) (.slice (some b3) l3.length c3)) 6 #[true, true, true, false, true, true, true, false, true, true, true, false, true, true, true, false, false, false] { tmps := #[.agg #[.slice (some b0) l0.length c0, .slice (some b1) l1.length c1, .slice (some b2) l2.length c2, .slice (some b3) l3.length c3], .pointer (some ⟨w.heap.size, 0, none⟩), .pointer (some ⟨w.heap.size + 1, 0, none⟩), .slice (some ⟨z0, 0, none⟩) 0 0, .pointer (some ⟨w.heap.size, 0, none⟩), .slice (some b0) l0.length c0, undef, .slice (some ⟨z1, 0, none⟩) 0 0, .pointer (some ⟨w.heap.size, 1, none⟩), .slice (some b1) l1.length c1, undef, .slice (some ⟨z2, 0, none⟩) 0 0, .pointer (some ⟨w.heap.size, 2, none⟩), .slice (some b2) l2.length c2, undef, .slice (some ⟨z3, 0, none⟩) 0 0, .pointer (some ⟨w.heap.size, 3, none⟩), .slice (some b3) l3.length c3, undef, undef], defers := [] } W := by
  refine wpAnyH_ready (rs := [3]) (by kernel_rfl) (by simp) ?_
  refine AllReadyH.cons (o := ownOp3) rfl (fun K hK => ?_) ?_
  · refine step_freshP (by rfl) (Operand.tmp 3) (Operand.tmp 5) (by rfl) z0 b0 l0.length c0 l0 (by rfl) (by rfl) rfl (o0.below hS.1 (Nat.le_refl _)) n0 ?_
    intro a0 e0 W' hr hb
    have hS' := ownS_keep hS hb
    refine hK.out _ _ hS' (fun _ => ?_)
    exact ownp_nd1_123 n0 n1 n2 n3 o0 o1 o2 o3 hQ W' hS' z0 z1 z2 z3  a0 e0 W'.heap.size (hr.mono (ownS_ge hS) (Nat.le_refl _)) (Nat.le_refl _) (Nat.le_trans (ownS_ge hS) hb.size)
  exact AllReadyH.nil

set_option maxRecDepth 20000 in
set_option maxHeartbeats 4000000 in
theorem ownp_nd0_012 {b0 b1 b2 b3 : Addr} {c0 c1 c2 c3 : Nat} {l0 l1 l2 l3 : List (Int × Int)} {w : World} {Q : Exit → Act → World → Prop} (n0 : l0.length ≤ 1048576) (n1 : l1.length ≤ 1048576) (n2 : l2.length ≤ 1048576) (n3 : l3.length ≤ 1048576) (o0 : PRow w (some b0) l0) (o1 : PRow w (some b1) l1) (o2 : PRow w (some b2) l2) (o3 : PRow w (some b3) l3)
    (hQ : ∀ (W : World) (hS : ownS w (.slice (some b0) l0.length c0) (.slice (some b1) l1.length c1) (.slice (some b2) l2.length c2) (.slice (some b3) l3.length c3) W) (z0 z1 z2 z3 : Nat) (a0 : Option Addr) (e0 m1 : Nat) (t0 : RoomIn W (w.heap.size + 2) m1 a0 l0.length e0 l0) (g1 : m1 ≤ W.heap.size) (k1 : (w.heap.size + 2) ≤ m1) (a1 : Option Addr) (e1 m2 : Nat) (t1 : RoomIn W m1 m2 a1 l1.length e1 l1) (g2 : m2 ≤ W.heap.size) (k2 : m1 ≤ m2) (a2 : Option Addr) (e2 m3 : Nat) (t2 : RoomIn W m2 m3 a2 l2.length e2 l2) (g3 : m3 ≤ W.heap.size) (k3 : m2 ≤ m3) (a3 : Option Addr) (e3 m4 : Nat) (t3 : RoomIn W m3 m4 a3 l3.length e3 l3) (g4 : m4 ≤ W.heap.size) (k4 : m3 ≤ m4), Q .normal { tmps := #[.agg #[.slice (some b0) l0.length c0, .slice (some b1) l1.length c1, .slice (some b2) l2.length c2, .slice (some b3) l3.length c3], .pointer (some ⟨w.heap.size, 0, none⟩), .pointer (some ⟨w.heap.size + 1, 0, none⟩), .slice (some ⟨z0, 0, none⟩) 0 0, .pointer (some ⟨w.heap.size, 0, none⟩), .slice (some b0) l0.length c0, .slice a0 l0.length e0, .slice (some ⟨z1, 0, none⟩) 0 0, .pointer (some ⟨w.heap.size, 1, none⟩), .slice (some b1) l1.length c1, .slice a1 l1.length e1, .slice (some ⟨z2, 0, none⟩) 0 0, .pointer (some ⟨w.heap.size, 2, none⟩), .slice (some b2) l2.length c2, .slice a2 l2.length e2, .slice (some ⟨z3, 0, none⟩) 0 0, .pointer (some ⟨w.heap.size, 3, none⟩), .slice (some b3) l3.length c3, .slice a3 l3.length e3, .agg #[.slice a0 l0.length e0, .slice a1 l1.length e1, .slice a2 l2.length e2, .slice a3 l3.length e3]], defers := [] } ((((W.setCell ⟨w.heap.size + 1, 0, none⟩ (.slice a0 l0.length e0)).setCell ⟨w.heap.size + 1, 1, none⟩ (.slice a1 l1.length e1)).setCell ⟨w.heap.size + 1, 2, none⟩ (.slice a2 l2.length e2)).setCell ⟨w.heap.size + 1, 3, none⟩ (.slice a3 l3.length e3)))
    (W : World) (hS : ownS w (.slice (some b0) l0.length c0) (.slice (some b1) l1.length c1) (.slice (some b2) l2.length c2) (.slice (some b3) l3.length c3) W) (z0 z1 z2 : Nat) :
    wpAnyH Try.prog .any ownOps Q (ownS w (.slice (some b0) l0.length c0) (.slice (some b1) l1.length c1) (.slice (some b2) l2.length c2) (.slice (some b3) l3.length c3)) 7 #[true, true, true, false, true, true, true, false, true, true, true, false, false, true, true, false, false, false] { tmps := #[.agg #[.slice (some b0) l0.length c0, .slice (some b1) l1.length c1, .slice (some b2) l2.length c2, .slice (some b3) l3.length c3], .pointer (some ⟨w.heap.size, 0, none⟩), .pointer (some ⟨w.heap.size + 1, 0, none⟩), .slice (some ⟨z0, 0, none⟩) 0 0, .pointer (some ⟨w.heap.size, 0, none⟩), .slice (some b0) l0.length c0, undef, .slice (some ⟨z1, 0, none⟩) 0 0, .pointer (some ⟨w.heap.size, 1, none⟩), .slice (some b1) l1.length c1, undef, .slice (some ⟨z2, 0, none⟩) 0 0, .pointer (some ⟨w.heap.size, 2, none⟩), .slice (some b2) l2.length c2, undef, undef, .pointer (some ⟨w.heap.size, 3, none⟩), .slice (some b3) l3.length c3, undef, undef], defers := [] } W := by
  refine wpAnyH_ready (rs := [3, 12]) (by kernel_rfl) (by simp) ?_
  refine AllReadyH.cons (o := ownOp3) rfl (fun K hK => ?_) ?_
  · refine step_freshP (by rfl) (Operand.tmp 3) (Operand.tmp 5) (by rfl) z0 b0 l0.length c0 l0 (by rfl) (by rfl) rfl (o0.below hS.1 (Nat.le_refl _)) n0 ?_
    intro a0 e0 W' hr hb
    have hS' := ownS_keep hS hb
    refine hK.out _ _ hS' (fun _ => ?_)
    exact ownp_nd1_12 n0 n1 n2 n3 o0 o1 o2 o3 hQ W' hS' z0 z1 z2  a0 e0 W'.heap.size (hr.mono (ownS_ge hS) (Nat.le_refl _)) (Nat.le_refl _) (Nat.le_trans (ownS_ge hS) hb.size)
  refine AllReadyH.cons (o := ownOp12) rfl (fun K hK => ?_) ?_
  · refine step_lit (by rfl) (by rfl) ?_
    intro z3 W' hb
    have hS' := ownS_keep hS hb
    refine hK.out _ _ hS' (fun _ => ?_)
    exact ownp_nd0_0123 n0 n1 n2 n3 o0 o1 o2 o3 hQ W' hS' z0 z1 z2 z3 
  exact AllReadyH.nil

set_option maxRecDepth 20000 in
set_option maxHeartbeats 4000000 in
theorem ownp_nd0_013 {b0 b1 b2 b3 : Addr} {c0 c1 c2 c3 : Nat} {l0 l1 l2 l3 : List (Int × Int)} {w : World} {Q : Exit → Act → World → Prop} (n0 : l0.length ≤ 1048576) (n1 : l1.length ≤ 1048576) (n2 : l2.length ≤ 1048576) (n3 : l3.length ≤ 1048576) (o0 : PRow w (some b0) l0) (o1 : PRow w (some b1) l1) (o2 : PRow w (some b2) l2) (o3 : PRow w (some b3) l3)
    (hQ : ∀ (W : World) (hS : ownS w (.slice (some b0) l0.length c0) (.slice (some b1) l1.length c1) (.slice (some b2) l2.length c2) (.slice (some b3) l3.length c3) W) (z0 z1 z2 z3 : Nat) (a0 : Option Addr) (e0 m1 : Nat) (t0 : RoomIn W (w.heap.size + 2) m1 a0 l0.length e0 l0) (g1 : m1 ≤ W.heap.size) (k1 : (w.heap.size + 2) ≤ m1) (a1 : Option Addr) (e1 m2 : Nat) (t1 : RoomIn W m1 m2 a1 l1.length e1 l1) (g2 : m2 ≤ W.heap.size) (k2 : m1 ≤ m2) (a2 : Option Addr) (e2 m3 : Nat) (t2 : RoomIn W m2 m3 a2 l2.length e2 l2) (g3 : m3 ≤ W.heap.size) (k3 : m2 ≤ m3) (a3 : Option Addr) (e3 m4 : Nat) (t3 : RoomIn W m3 m4 a3 l3.length e3 l3) (g4 : m4 ≤ W.heap.size) (k4 : m3 ≤ m4), Q .normal { tmps := #[.agg #[.slice (some b0) l0.length c0, .slice (some b1) l1.length c1, .slice (some b2) l2.length c2, .slice (some b3) l3.length c3], .pointer (some ⟨w.heap.size, 0, none⟩), .pointer (some ⟨w.heap.size + 1, 0, none⟩), .slice (some ⟨z0, 0, none⟩) 0 0, .pointer (some ⟨w.heap.size, 0, none⟩), .slice (some b0) l0.length c0, .slice a0 l0.length e0, .slice (some ⟨z1, 0, none⟩) 0 0, .pointer (some ⟨w.heap.size, 1, none⟩), .slice (some b1) l1.length c1, .slice a1 l1.length e1, .slice (some ⟨z2, 0, none⟩) 0 0, .pointer (some ⟨w.heap.size, 2, none⟩), .slice (some b2) l2.length c2, .slice a2 l2.length e2, .slice (some ⟨z3, 0, none⟩) 0 0, .pointer (some ⟨w.heap.size, 3, none⟩), .slice (some b3) l3.length c3, .slice a3 l3.length e3, .agg #[.slice a0 l0.length e0, .slice a1 l1.length e1, .slice a2 l2.length e2, .slice a3 l3.length e3]], defers := [] } ((((W.setCell ⟨w.heap.size + 1, 0, none⟩ (.slice a0 l0.length e0)).setCell ⟨w.heap.size + 1, 1, none⟩ (.slice a1 l1.length e1)).setCell ⟨w.heap.size + 1, 2, none⟩ (.slice a2 l2.length e2)).setCell ⟨w.heap.size + 1, 3, none⟩ (.slice a3 l3.length e3)))
    (W : World) (hS : ownS w (.slice (some b0) l0.length c0) (.slice (some b1) l1.length c1) (.slice (some b2) l2.length c2) (.slice (some b3) l3.length c3) W) (z0 z1 z3 : Nat) :
    wpAnyH Try.prog .any ownOps Q (ownS w (.slice (some b0) l0.length c0) (.slice (some b1) l1.length c1) (.slice (some b2) l2.length c2) (.slice (some b3) l3.length c3)) 7 #[true, true, true, false, true, true, true, false, false, true, true, false, true, true, true, false, false, false] { tmps := #[.agg #[.slice (some b0) l0.length c0, .slice (some b1) l1.length c1, .slice (some b2) l2.length c2, .slice (some b3) l3.length c3], .pointer (some ⟨w.heap.size, 0, none⟩), .pointer (some ⟨w.heap.size + 1, 0, none⟩), .slice (some ⟨z0, 0, none⟩) 0 0, .pointer (some ⟨w.heap.size, 0, none⟩), .slice (some b0) l0.length c0, undef, .slice (some ⟨z1, 0, none⟩) 0 0, .pointer (some ⟨w.heap.size, 1, none⟩), .slice (some b1) l1.length c1, undef, undef, .pointer (some ⟨w.heap.size, 2, none⟩), .slice (some b2) l2.length c2, undef, .slice (some ⟨z3, 0, none⟩) 0 0, .pointer (some ⟨w.heap.size, 3, none⟩), .slice (some b3) l3.length c3, undef, undef], defers := [] } W := by
  refine wpAnyH_ready (rs := [3, 8]) (by kernel_rfl) (by simp) ?_
  refine AllReadyH.cons (o := ownOp3) rfl (fun K hK => ?_) ?_
  · refine step_freshP (by rfl) (Operand.tmp 3) (Operand.tmp 5) (by rfl) z0 b0 l0.length c0 l0 (by rfl) (by rfl) rfl (o0.below hS.1 (Nat.le_refl _)) n0 ?_
    intro a0 e0 W' hr hb
    have hS' := ownS_keep hS hb
    refine hK.out _ _ hS' (fun _ => ?_)
    exact ownp_nd1_13 n0 n1 n2 n3 o0 o1 o2 o3 hQ W' hS' z0 z1 z3  a0 e0 W'.heap.size (hr.mono (ownS_ge hS) (Nat.le_refl _)) (Nat.le_refl _) (Nat.le_trans (ownS_ge hS) hb.size)
  refine AllReadyH.cons (o := ownOp8) rfl (fun K hK => ?_) ?_
  · refine step_lit (by rfl) (by rfl) ?_
    intro z2 W' hb
    have hS' := ownS_keep hS hb
    refine hK.out _ _ hS' (fun _ => ?_)
    exact ownp_nd0_0123 n0 n1 n2 n3 o0 o1 o2 o3 hQ W' hS' z0 z1 z2 z3 
  exact AllReadyH.nil

set_option maxRecDepth 20000 in
set_option maxHeartbeats 4000000 in
theorem ownp_nd0_023 {b0 b1 b2 b3 : Addr} {c0 c1 c2 c3 : Nat} {l0 l1 l2 l3 : List (Int × Int)} {w : World} {Q : Exit → Act → World → Prop} (n0 : l0.length ≤ 1048576) (n1 : l1.length ≤ 1048576) (n2 : l2.length ≤ 1048576) (n3 : l3.length ≤ 1048576) (o0 : PRow w (some b0) l0) (o1 : PRow w (some b1) l1) (o2 : PRow w (some b2) l2) (o3 : PRow w (some b3) l3)
    (hQ : ∀ (W : World) (hS : ownS w (.slice (some b0) l0.length c0) (.slice (some b1) l1.length c1) (.slice (some b2) l2.length c2) (.slice (some b3) l3.length c3) W) (z0 z1 z2 z3 : Nat) (a0 : Option Addr) (e0 m1 : Nat) (t0 : RoomIn W (w.heap.size + 2) m1 a0 l0.length e0 l0) (g1 : m1 ≤ W.heap.size) (k1 : (w.heap.size + 2) ≤ m1) (a1 : Option Addr) (e1 m2 : Nat) (t1 : RoomIn W m1 m2 a1 l1.length e1 l1) (g2 : m2 ≤ W.heap.size) (k2 : m1 ≤ m2) (a2 : Option Addr) (e2 m3 : Nat) (t2 : RoomIn W m2 m3 a2 l2.length e2 l2) (g3 : m3 ≤ W.heap.size) (k3 : m2 ≤ m3) (a3 : Option Addr) (e3 m4 : Nat) (t3 : RoomIn W m3 m4 a3 l3.length e3 l3) (g4 : m4 ≤ W.heap.size) (k4 : m3 ≤ m4), Q .normal { tmps := #[.agg #[.slice (some b0) l0.length c0, .slice (some b1) l1.length c1, .slice (some b2) l2.length c2, .slice (some b3) l3.length c3], .pointer (some ⟨w.heap.size, 0, none⟩), .pointer (some ⟨w.heap.size + 1, 0, none⟩), .slice (some ⟨z0, 0, none⟩) 0 0, .pointer (some ⟨w.heap.size, 0, none⟩), .slice (some b0) l0.length c0, .slice a0 l0.length e0, .slice (some ⟨z1, 0, none⟩) 0 0, .pointer (some ⟨w.heap.size, 1, none⟩), .slice (some b1) l1.length c1, .slice a1 l1.length e1, .slice (some ⟨z2, 0, none⟩) 0 0, .pointer (some ⟨w.heap.size, 2, none⟩), .slice (some b2) l2.length c2, .slice a2 l2.length e2, .slice (some ⟨z3, 0, none⟩) 0 0, .pointer (some ⟨w.heap.size, 3, none⟩), .slice (some b3) l3.length c3, .slice a3 l3.length e3, .agg #[.slice a0 l0.length e0, .slice a1 l1.length e1, .slice a2 l2.length e2, .slice a3 l3.length e3]], defers := [] } ((((W.setCell ⟨w.heap.size + 1, 0, none⟩ (.slice a0 l0.length e0)).setCell ⟨w.heap.size + 1, 1, none⟩ (.slice a1 l1.length e1)).setCell ⟨w.heap.size + 1, 2, none⟩ (.slice a2 l2.length e2)).setCell ⟨w.heap.size + 1, 3, none⟩ (.slice a3 l3.length e3)))
    (W : World) (hS : ownS w (.slice (some b0) l0.length c0) (.slice (some b1) l1.length c1) (.slice (some b2) l2.length c2) (.slice (some b3) l3.length c3) W) (z0 z2 z3 : Nat) :
    wpAnyH Try.prog .any ownOps Q (ownS w (.slice (some b0) l0.length c0) (.slice (some b1) l1.length c1) (.slice (some b2) l2.length c2) (.slice (some b3) l3.length c3)) 7 #[true, true, true, false, false, true, true, false, true, true, true, false, true, true, true, false, false, false] { tmps := #[.agg #[.slice (some b0) l0.length c0, .slice (some b1) l1.length c1, .slice (some b2) l2.length c2, .slice (some b3) l3.length c3], .pointer (some ⟨w.heap.size, 0, none⟩), .pointer (some ⟨w.heap.size + 1, 0, none⟩), .slice (some ⟨z0, 0, none⟩) 0 0, .pointer (some ⟨w.heap.size, 0, none⟩), .slice (some b0) l0.length c0, undef, undef, .pointer (some ⟨w.heap.size, 1, none⟩), .slice (some b1) l1.length c1, undef, .slice (some ⟨z2, 0, none⟩) 0 0, .pointer (some ⟨w.heap.size, 2, none⟩), .slice (some b2) l2.length c2, undef, .slice (some ⟨z3, 0, none⟩) 0 0, .pointer (some ⟨w.heap.size, 3, none⟩), .slice (some b3) l3.length c3, undef, undef], defers := [] } W := by
  refine wpAnyH_ready (rs := [3, 4]) (by kernel_rfl) (by simp) ?_
  refine AllReadyH.cons (o := ownOp3) rfl (fun K hK => ?_) ?_
  · refine step_freshP (by rfl) (Operand.tmp 3) (Operand.tmp 5) (by rfl) z0 b0 l0.length c0 l0 (by rfl) (by rfl) rfl (o0.below hS.1 (Nat.le_refl _)) n0 ?_
    intro a0 e0 W' hr hb
    have hS' := ownS_keep hS hb
    refine hK.out _ _ hS' (fun _ => ?_)
    exact ownp_nd1_23 n0 n1 n2 n3 o0 o1 o2 o3 hQ W' hS' z0 z2 z3  a0 e0 W'.heap.size (hr.mono (ownS_ge hS) (Nat.le_refl _)) (Nat.le_refl _) (Nat.le_trans (ownS_ge hS) hb.size)
  refine AllReadyH.cons (o := ownOp4) rfl (fun K hK => ?_) ?_
  · refine step_lit (by rfl) (by rfl) ?_
    intro z1 W' hb
    have hS' := ownS_keep hS hb
    refine hK.out _ _ hS' (fun _ => ?_)
    exact ownp_nd0_0123 n0 n1 n2 n3 o0 o1 o2 o3 hQ W' hS' z0 z1 z2 z3 
  exact AllReadyH.nil

set_option maxRecDepth 20000 in
set_option maxHeartbeats 4000000 in
theorem ownp_nd0_123 {b0 b1 b2 b3 : Addr} {c0 c1 c2 c3 : Nat} {l0 l1 l2 l3 : List (Int × Int)} {w : World} {Q : Exit → Act → World → Prop} (n0 : l0.length ≤ 1048576) (n1 : l1.length ≤ 1048576) (n2 : l2.length ≤ 1048576) (n3 : l3.length ≤ 1048576) (o0 : PRow w (some b0) l0) (o1 : PRow w (some b1) l1) (o2 : PRow w (some b2) l2) (o3 : PRow w (some b3) l3)
    (hQ : ∀ (W : World) (hS : ownS w (.slice (some b0) l0.length c0) (.slice (some b1) l1.length c1) (.slice (some b2) l2.length c2) (.slice (some b3) l3.length c3) W) (z0 z1 z2 z3 : Nat) (a0 : Option Addr) (e0 m1 : Nat) (t0 : RoomIn W (w.heap.size + 2) m1 a0 l0.length e0 l0) (g1 : m1 ≤ W.heap.size) (k1 : (w.heap.size + 2) ≤ m1) (a1 : Option Addr) (e1 m2 : Nat) (t1 : RoomIn W m1 m2 a1 l1.length e1 l1) (g2 : m2 ≤ W.heap.size) (k2 : m1 ≤ m2) (a2 : Option Addr) (e2 m3 : Nat) (t2 : RoomIn W m2 m3 a2 l2.length e2 l2) (g3 : m3 ≤ W.heap.size) (k3 : m2 ≤ m3) (a3 : Option Addr) (e3 m4 : Nat) (t3 : RoomIn W m3 m4 a3 l3.length e3 l3) (g4 : m4 ≤ W.heap.size) (k4 : m3 ≤ m4), Q .normal { tmps := #[.agg #[.slice (some b0) l0.length c0, .slice (some b1) l1.length c1, .slice (some b2) l2.length c2, .slice (some b3) l3.length c3], .pointer (some ⟨w.heap.size, 0, none⟩), .pointer (some ⟨w.heap.size + 1, 0, none⟩), .slice (some ⟨z0, 0, none⟩) 0 0, .pointer (some ⟨w.heap.size, 0, none⟩), .slice (some b0) l0.length c0, .slice a0 l0.length e0, .slice (some ⟨z1, 0, none⟩) 0 0, .pointer (some ⟨w.heap.size, 1, none⟩), .slice (some b1) l1.length c1, .slice a1 l1.length e1, .slice (some ⟨z2, 0, none⟩) 0 0, .pointer (some ⟨w.heap.size, 2, none⟩), .slice (some b2) l2.length c2, .slice a2 l2.length e2, .slice (some ⟨z3, 0, none⟩) 0 0, .pointer (some ⟨w.heap.size, 3, none⟩), .slice (some b3) l3.length c3, .slice a3 l3.length e3, .agg #[.slice a0 l0.length e0, .slice a1 l1.length e1, .slice a2 l2.length e2, .slice a3 l3.length e3]], defers := [] } ((((W.setCell ⟨w.heap.size + 1, 0, none⟩ (.slice a0 l0.length e0)).setCell ⟨w.heap.size + 1, 1, none⟩ (.slice a1 l1.length e1)).setCell ⟨w.heap.size + 1, 2, none⟩ (.slice a2 l2.length e2)).setCell ⟨w.heap.size + 1, 3, none⟩ (.slice a3 l3.length e3)))
    (W : World) (hS : ownS w (.slice (some b0) l0.length c0) (.slice (some b1) l1.length c1) (.slice (some b2) l2.length c2) (.slice (some b3) l3.length c3) W) (z1 z2 z3 : Nat) :
    wpAnyH Try.prog .any ownOps Q (ownS w (.slice (some b0) l0.length c0) (.slice (some b1) l1.length c1) (.slice (some b2) l2.length c2) (.slice (some b3) l3.length c3)) 7 #[false, true, true, false, true, true, true, false, true, true, true, false, true, true, true, false, false, false] { tmps := #[.agg #[.slice (some b0) l0.length c0, .slice (some b1) l1.length c1, .slice (some b2) l2.length c2, .slice (some b3) l3.length c3], .pointer (some ⟨w.heap.size, 0, none⟩), .pointer (some ⟨w.heap.size + 1, 0, none⟩), undef, .pointer (some ⟨w.heap.size, 0, none⟩), .slice (some b0) l0.length c0, undef, .slice (some ⟨z1, 0, none⟩) 0 0, .pointer (some ⟨w.heap.size, 1, none⟩), .slice (some b1) l1.length c1, undef, .slice (some ⟨z2, 0, none⟩) 0 0, .pointer (some ⟨w.heap.size, 2, none⟩), .slice (some b2) l2.length c2, undef, .slice (some ⟨z3, 0, none⟩) 0 0, .pointer (some ⟨w.heap.size, 3, none⟩), .slice (some b3) l3.length c3, undef, undef], defers := [] } W := by
  refine wpAnyH_ready (rs := [0]) (by kernel_rfl) (by simp) ?_
  refine AllReadyH.cons (o := ownOp0) rfl (fun K hK => ?_) ?_
  · refine step_lit (by rfl) (by rfl) ?_
    intro z0 W' hb
    have hS' := ownS_keep hS hb
    refine hK.out _ _ hS' (fun _ => ?_)
    exact ownp_nd0_0123 n0 n1 n2 n3 o0 o1 o2 o3 hQ W' hS' z0 z1 z2 z3 
  exact AllReadyH.nil

set_option maxRecDepth 20000 in
set_option maxHeartbeats 4000000 in
theorem ownp_nd0_01 {b0 b1 b2 b3 : Addr} {c0 c1 c2 c3 : Nat} {l0 l1 l2 l3 : List (Int × Int)} {w : World} {Q : Exit → Act → World → Prop} (n0 : l0.length ≤ 1048576) (n1 : l1.length ≤ 1048576) (n2 : l2.length ≤ 1048576) (n3 : l3.length ≤ 1048576) (o0 : PRow w (some b0) l0) (o1 : PRow w (some b1) l1) (o2 : PRow w (some b2) l2) (o3 : PRow w (some b3) l3)
    (hQ : ∀ (W : World) (hS : ownS w (.slice (some b0) l0.length c0) (.slice (some b1) l1.length c1) (.slice (some b2) l2.length c2) (.slice (some b3) l3.length c3) W) (z0 z1 z2 z3 : Nat) (a0 : Option Addr) (e0 m1 : Nat) (t0 : RoomIn W (w.heap.size + 2) m1 a0 l0.length e0 l0) (g1 : m1 ≤ W.heap.size) (k1 : (w.heap.size + 2) ≤ m1) (a1 : Option Addr) (e1 m2 : Nat) (t1 : RoomIn W m1 m2 a1 l1.length e1 l1) (g2 : m2 ≤ W.heap.size) (k2 : m1 ≤ m2) (a2 : Option Addr) (e2 m3 : Nat) (t2 : RoomIn W m2 m3 a2 l2.length e2 l2) (g3 : m3 ≤ W.heap.size) (k3 : m2 ≤ m3) (a3 : Option Addr) (e3 m4 : Nat) (t3 : RoomIn W m3 m4 a3 l3.length e3 l3) (g4 : m4 ≤ W.heap.size) (k4 : m3 ≤ m4), Q .normal { tmps := #[.agg #[.slice (some b0) l0.length c0, .slice (some b1) l1.length c1, .slice (some b2) l2.length c2, .slice (some b3) l3.length c3], .pointer (some ⟨w.heap.size, 0, none⟩), .pointer (some ⟨w.heap.size + 1, 0, none⟩), .slice (some ⟨z0, 0, none⟩) 0 0, .pointer (some ⟨w.heap.size, 0, none⟩), .slice (some b0) l0.length c0, .slice a0 l0.length e0, .slice (some ⟨z1, 0, none⟩) 0 0, .pointer (some ⟨w.heap.size, 1, none⟩), .slice (some b1) l1.length c1, .slice a1 l1.length e1, .slice (some ⟨z2, 0, none⟩) 0 0, .pointer (some ⟨w.heap.size, 2, none⟩), .slice (some b2) l2.length c2, .slice a2 l2.length e2, .slice (some ⟨z3, 0, none⟩) 0 0, .pointer (some ⟨w.heap.size, 3, none⟩), .slice (some b3) l3.length c3, .slice a3 l3.length e3, .agg #[.slice a0 l0.length e0, .slice a1 l1.length e1, .slice a2 l2.length e2, .slice a3 l3.length e3]], defers := [] } ((((W.setCell ⟨w.heap.size + 1, 0, none⟩ (.slice a0 l0.length e0)).setCell ⟨w.heap.size + 1, 1, none⟩ (.slice a1 l1.length e1)).setCell ⟨w.heap.size + 1, 2, none⟩ (.slice a2 l2.length e2)).setCell ⟨w.heap.size + 1, 3, none⟩ (.slice a3 l3.length e3)))
    (W : World) (hS : ownS w (.slice (some b0) l0.length c0) (.slice (some b1) l1.length c1) (.slice (some b2) l2.length c2) (.slice (some b3) l3.length c3) W) (z0 z1 : Nat) :
    wpAnyH Try.prog .any ownOps Q (ownS w (.slice (some b0) l0.length c0) (.slice (some b1) l1.length c1) (.slice (some b2) l2.length c2) (.slice (some b3) l3.length c3)) 8 #[true, true, true, false, true, true, true, false, false, true, true, false, false, true, true, false, false, false] { tmps := #[.agg #[.slice (some b0) l0.length c0, .slice (some b1) l1.length c1, .slice (some b2) l2.length c2, .slice (some b3) l3.length c3], .pointer (some ⟨w.heap.size, 0, none⟩), .pointer (some ⟨w.heap.size + 1, 0, none⟩), .slice (some ⟨z0, 0, none⟩) 0 0, .pointer (some ⟨w.heap.size, 0, none⟩), .slice (some b0) l0.length c0, undef, .slice (some ⟨z1, 0, none⟩) 0 0, .pointer (some ⟨w.heap.size, 1, none⟩), .slice (some b1) l1.length c1, undef, undef, .pointer (some ⟨w.heap.size, 2, none⟩), .slice (some b2) l2.length c2, undef, undef, .pointer (some ⟨w.heap.size, 3, none⟩), .slice (some b3) l3.length c3, undef, undef], defers := [] } W := by
  refine wpAnyH_ready (rs := [3, 8, 12]) (by kernel_rfl) (by simp) ?_
  refine AllReadyH.cons (o := ownOp3) rfl (fun K hK => ?_) ?_
  · refine step_freshP (by rfl) (Operand.tmp 3) (Operand.tmp 5) (by rfl) z0 b0 l0.length c0 l0 (by rfl) (by rfl) rfl (o0.below hS.1 (Nat.le_refl _)) n0 ?_
    intro a0 e0 W' hr hb
    have hS' := ownS_keep hS hb
    refine hK.out _ _ hS' (fun _ => ?_)
    exact ownp_nd1_1 n0 n1 n2 n3 o0 o1 o2 o3 hQ W' hS' z0 z1  a0 e0 W'.heap.size (hr.mono (ownS_ge hS) (Nat.le_refl _)) (Nat.le_refl _) (Nat.le_trans (ownS_ge hS) hb.size)
  refine AllReadyH.cons (o := ownOp8) rfl (fun K hK => ?_) ?_
  · refine step_lit (by rfl) (by rfl) ?_
    intro z2 W' hb
    have hS' := ownS_keep hS hb
    refine hK.out _ _ hS' (fun _ => ?_)
    exact ownp_nd0_012 n0 n1 n2 n3 o0 o1 o2 o3 hQ W' hS' z0 z1 z2 
  refine AllReadyH.cons (o := ownOp12) rfl (fun K hK => ?_) ?_
  · refine step_lit (by rfl) (by rfl) ?_
    intro z3 W' hb
    have hS' := ownS_keep hS hb
    refine hK.out _ _ hS' (fun _ => ?_)
    exact ownp_nd0_013 n0 n1 n2 n3 o0 o1 o2 o3 hQ W' hS' z0 z1 z3 
  exact AllReadyH.nil

set_option maxRecDepth 20000 in
set_option maxHeartbeats 4000000 in
theorem ownp_nd0_02 {b0 b1 b2 b3 : Addr} {c0 c1 c2 c3 : Nat} {l0 l1 l2 l3 : List (Int × Int)} {w : World} {Q : Exit → Act → World → Prop} (n0 : l0.length ≤ 1048576) (n1 : l1.length ≤ 1048576) (n2 : l2.length ≤ 1048576) (n3 : l3.length ≤ 1048576) (o0 : PRow w (some b0) l0) (o1 : PRow w (some b1) l1) (o2 : PRow w (some b2) l2) (o3 : PRow w (some b3) l3)
    (hQ : ∀ (W : World) (hS : ownS w (.slice (some b0) l0.length c0) (.slice (some b1) l1.length c1) (.slice (some b2) l2.length c2) (.slice (some b3) l3.length c3) W) (z0 z1 z2 z3 : Nat) (a0 : Option Addr) (e0 m1 : Nat) (t0 : RoomIn W (w.heap.size + 2) m1 a0 l0.length e0 l0) (g1 : m1 ≤ W.heap.size) (k1 : (w.heap.size + 2) ≤ m1) (a1 : Option Addr) (e1 m2 : Nat) (t1 : RoomIn W m1 m2 a1 l1.length e1 l1) (g2 : m2 ≤ W.heap.size) (k2 : m1 ≤ m2) (a2 : Option Addr) (e2 m3 : Nat) (t2 : RoomIn W m2 m3 a2 l2.length e2 l2) (g3 : m3 ≤ W.heap.size) (k3 : m2 ≤ m3) (a3 : Option Addr) (e3 m4 : Nat) (t3 : RoomIn W m3 m4 a3 l3.length e3 l3) (g4 : m4 ≤ W.heap.size) (k4 : m3 ≤ m4), Q .normal { tmps := #[.agg #[.slice (some b0) l0.length c0, .slice (some b1) l1.length c1, .slice (some b2) l2.length c2, .slice (some b3) l3.length c3], .pointer (some ⟨w.heap.size, 0, none⟩), .pointer (some ⟨w.heap.size + 1, 0, none⟩), .slice (some ⟨z0, 0, none⟩) 0 0, .pointer (some ⟨w.heap.size, 0, none⟩), .slice (some b0) l0.length c0, .slice a0 l0.length e0, .slice (some ⟨z1, 0, none⟩) 0 0, .pointer (some ⟨w.heap.size, 1, none⟩), .slice (some b1) l1.length c1, .slice a1 l1.length e1, .slice (some ⟨z2, 0, none⟩) 0 0, .pointer (some ⟨w.heap.size, 2, none⟩), .slice (some b2) l2.length c2, .slice a2 l2.length e2, .slice (some ⟨z3, 0, none⟩) 0 0, .pointer (some ⟨w.heap.size, 3, none⟩), .slice (some b3) l3.length c3, .slice a3 l3.length e3, .agg #[.slice a0 l0.length e0, .slice a1 l1.length e1, .slice a2 l2.length e2, .slice a3 l3.length e3]], defers := [] } ((((W.setCell ⟨w.heap.size + 1, 0, none⟩ (.slice a0 l0.length e0)).setCell ⟨w.heap.size + 1, 1, none⟩ (.slice a1 l1.length e1)).setCell ⟨w.heap.size + 1, 2, none⟩ (.slice a2 l2.length e2)).setCell ⟨w.heap.size + 1, 3, none⟩ (.slice a3 l3.length e3)))
    (W : World) (hS : ownS w (.slice (some b0) l0.length c0) (.slice (some b1) l1.length c1) (.slice (some b2) l2.length c2) (.slice (some b3) l3.length c3) W) (z0 z2 : Nat) :
    wpAnyH Try.prog .any ownOps Q (ownS w (.slice (some b0) l0.length c0) (.slice (some b1) l1.length c1) (.slice (some b2) l2.length c2) (.slice (some b3) l3.length c3)) 8 #[true, true, true, false, false, true, true, false, true, true, true, false, false, true, true, false, false, false] { tmps := #[.agg #[.slice (some b0) l0.length c0, .slice (some b1) l1.length c1, .slice (some b2) l2.length c2, .slice (some b3) l3.length c3], .pointer (some ⟨w.heap.size, 0, none⟩), .pointer (some ⟨w.heap.size + 1, 0, none⟩), .slice (some ⟨z0, 0, none⟩) 0 0, .pointer (some ⟨w.heap.size, 0, none⟩), .slice (some b0) l0.length c0, undef, undef, .pointer (some ⟨w.heap.size, 1, none⟩), .slice (some b1) l1.length c1, undef, .slice (some ⟨z2, 0, none⟩) 0 0, .pointer (some ⟨w.heap.size, 2, none⟩), .slice (some b2) l2.length c2, undef, undef, .pointer (some ⟨w.heap.size, 3, none⟩), .slice (some b3) l3.length c3, undef, undef], defers := [] } W := by
  refine wpAnyH_ready (rs := [3, 4, 12]) (by kernel_rfl) (by simp) ?_
  refine AllReadyH.cons (o := ownOp3) rfl (fun K hK => ?_) ?_
  · refine step_freshP (by rfl) (Operand.tmp 3) (Operand.tmp 5) (by rfl) z0 b0 l0.length c0 l0 (by rfl) (by rfl) rfl (o0.below hS.1 (Nat.le_refl _)) n0 ?_
    intro a0 e0 W' hr hb
    have hS' := ownS_keep hS hb
    refine hK.out _ _ hS' (fun _ => ?_)
    exact ownp_nd1_2 n0 n1 n2 n3 o0 o1 o2 o3 hQ W' hS' z0 z2  a0 e0 W'.heap.size (hr.mono (ownS_ge hS) (Nat.le_refl _)) (Nat.le_refl _) (Nat.le_trans (ownS_ge hS) hb.size)
  refine AllReadyH.cons (o := ownOp4) rfl (fun K hK => ?_) ?_
  · refine step_lit (by rfl) (by rfl) ?_
    intro z1 W' hb
    have hS' := ownS_keep hS hb
    refine hK.out _ _ hS' (fun _ => ?_)
    exact ownp_nd0_012 n0 n1 n2 n3 o0 o1 o2 o3 hQ W' hS' z0 z1 z2 
  refine AllReadyH.cons (o := ownOp12) rfl (fun K hK => ?_) ?_
  · refine step_lit (by rfl) (by rfl) ?_
    intro z3 W' hb
    have hS' := ownS_keep hS hb
    refine hK.out _ _ hS' (fun _ => ?_)
    exact ownp_nd0_023 n0 n1 n2 n3 o0 o1 o2 o3 hQ W' hS' z0 z2 z3 
  exact AllReadyH.nil

set_option maxRecDepth 20000 in
set_option maxHeartbeats 4000000 in
theorem ownp_nd0_03 {b0 b1 b2 b3 : Addr} {c0 c1 c2 c3 : Nat} {l0 l1 l2 l3 : List (Int × Int)} {w : World} {Q : Exit → Act → World → Prop} (n0 : l0.length ≤ 1048576) (n1 : l1.length ≤ 1048576) (n2 : l2.length ≤ 1048576) (n3 : l3.length ≤ 1048576) (o0 : PRow w (some b0) l0) (o1 : PRow w (some b1) l1) (o2 : PRow w (some b2) l2) (o3 : PRow w (some b3) l3)
    (hQ : ∀ (W : World) (hS : ownS w (.slice (some b0) l0.length c0) (.slice (some b1) l1.length c1) (.slice (some b2) l2.length c2) (.slice (some b3) l3.length c3) W) (z0 z1 z2 z3 : Nat) (a0 : Option Addr) (e0 m1 : Nat) (t0 : RoomIn W (w.heap.size + 2) m1 a0 l0.length e0 l0) (g1 : m1 ≤ W.heap.size) (k1 : (w.heap.size + 2) ≤ m1) (a1 : Option Addr) (e1 m2 : Nat) (t1 : RoomIn W m1 m2 a1 l1.length e1 l1) (g2 : m2 ≤ W.heap.size) (k2 : m1 ≤ m2) (a2 : Option Addr) (e2 m3 : Nat) (t2 : RoomIn W m2 m3 a2 l2.length e2 l2) (g3 : m3 ≤ W.heap.size) (k3 : m2 ≤ m3) (a3 : Option Addr) (e3 m4 : Nat) (t3 : RoomIn W m3 m4 a3 l3.length e3 l3) (g4 : m4 ≤ W.heap.size) (k4 : m3 ≤ m4), Q .normal { tmps := #[.agg #[.slice (some b0) l0.length c0, .slice (some b1) l1.length c1, .slice (some b2) l2.length c2, .slice (some b3) l3.length c3], .pointer (some ⟨w.heap.size, 0, none⟩), .pointer (some ⟨w.heap.size + 1, 0, none⟩), .slice (some ⟨z0, 0, none⟩) 0 0, .pointer (some ⟨w.heap.size, 0, none⟩), .slice (some b0) l0.length c0, .slice a0 l0.length e0, .slice (some ⟨z1, 0, none⟩) 0 0, .pointer (some ⟨w.heap.size, 1, none⟩), .slice (some b1) l1.length c1, .slice a1 l1.length e1, .slice (some ⟨z2, 0, none⟩) 0 0, .pointer (some ⟨w.heap.size, 2, none⟩), .slice (some b2) l2.length c2, .slice a2 l2.length e2, .slice (some ⟨z3, 0, none⟩) 0 0, .pointer (some ⟨w.heap.size, 3, none⟩), .slice (some b3) l3.length c3, .slice a3 l3.length e3, .agg #[.slice a0 l0.length e0, .slice a1 l1.length e1, .slice a2 l2.length e2, .slice a3 l3.length e3]], defers := [] } ((((W.setCell ⟨w.heap.size + 1, 0, none⟩ (.slice a0 l0.length e0)).setCell ⟨w.heap.size + 1, 1, none⟩ (.slice a1 l1.length e1)).setCell ⟨w.heap.size + 1, 2, none⟩ (.slice a2 l2.length e2)).setCell ⟨w.heap.size + 1, 3, none⟩ (.slice a3 l3.length e3)))
    (W : World) (hS : ownS w (.slice (some b0) l0.length c0) (.slice (some b1) l1.length c1) (.slice (some b2) l2.length c2) (.slice (some b3) l3.length c3) W) (z0 z3 : Nat) :
    wpAnyH Try.prog .any ownOps Q (ownS w (.slice (some b0) l0.length c0) (.slice (some b1) l1.length c1) (.slice (some b2) l2.length c2) (.slice (some b3) l3.length c3)) 8 #[true, true, true, false, false, true, true, false, false, true, true, false, true, true, true, false, false, false] { tmps := #[.agg #[.slice (some b0) l0.length c0, .slice (some b1) l1.length c1, .slice (some b2) l2.length c2, .slice (some b3) l3.length c3], .pointer (some ⟨w.heap.size, 0, none⟩), .pointer (some ⟨w.heap.size + 1, 0, none⟩), .slice (some ⟨z0, 0, none⟩) 0 0, .pointer (some ⟨w.heap.size, 0, none⟩), .slice (some b0) l0.length c0, undef, undef, .pointer (some ⟨w.heap.size, 1, none⟩), .slice (some b1) l1.length c1, undef, undef, .pointer (some ⟨w.heap.size, 2, none⟩), .slice (some b2) l2.length c2, undef, .slice (some ⟨z3, 0, none⟩) 0 0, .pointer (some ⟨w.heap.size, 3, none⟩), .slice (some b3) l3.length c3, undef, undef], defers := [] } W := by
  refine wpAnyH_ready (rs := [3, 4, 8]) (by kernel_rfl) (by simp) ?_
  refine AllReadyH.cons (o := ownOp3) rfl (fun K hK => ?_) ?_
  · refine step_freshP (by rfl) (Operand.tmp 3) (Operand.tmp 5) (by rfl) z0 b0 l0.length c0 l0 (by rfl) (by rfl) rfl (o0.below hS.1 (Nat.le_refl _)) n0 ?_
    intro a0 e0 W' hr hb
    have hS' := ownS_keep hS hb
    refine hK.out _ _ hS' (fun _ => ?_)
    exact ownp_nd1_3 n0 n1 n2 n3 o0 o1 o2 o3 hQ W' hS' z0 z3  a0 e0 W'.heap.size (hr.mono (ownS_ge hS) (Nat.le_refl _)) (Nat.le_refl _) (Nat.le_trans (ownS_ge hS) hb.size)
  refine AllReadyH.cons (o := ownOp4) rfl (fun K hK => ?_) ?_
  · refine step_lit (by rfl) (by rfl) ?_
    intro z1 W' hb
    have hS' := ownS_keep hS hb
    refine hK.out _ _ hS' (fun _ => ?_)
    exact ownp_nd0_013 n0 n1 n2 n3 o0 o1 o2 o3 hQ W' hS' z0 z1 z3 
  refine AllReadyH.cons (o := ownOp8) rfl (fun K hK => ?_) ?_
  · refine step_lit (by rfl) (by rfl) ?_
    intro z2 W' hb
    have hS' := ownS_keep hS hb
    refine hK.out _ _ hS' (fun _ => ?_)
    exact ownp_nd0_023 n0 n1 n2 n3 o0 o1 o2 o3 hQ W' hS' z0 z2 z3 
  exact AllReadyH.nil

set_option maxRecDepth 20000 in
set_option maxHeartbeats 4000000 in
theorem ownp_nd0_12 {b0 b1 b2 b3 : Addr} {c0 c1 c2 c3 : Nat} {l0 l1 l2 l3 : List (Int × Int)} {w : World} {Q : Exit → Act → World → Prop} (n0 : l0.length ≤ 1048576) (n1 : l1.length ≤ 1048576) (n2 : l2.length ≤ 1048576) (n3 : l3.length ≤ 1048576) (o0 : PRow w (some b0) l0) (o1 : PRow w (some b1) l1) (o2 : PRow w (some b2) l2) (o3 : PRow w (some b3) l3)
    (hQ : ∀ (W : World) (hS : ownS w (.slice (some b0) l0.length c0) (.slice (some b1) l1.length c1) (.slice (some b2) l2.length c2) (.slice (some b3) l3.length c3) W) (z0 z1 z2 z3 : Nat) (a0 : Option Addr) (e0 m1 : Nat) (t0 : RoomIn W (w.heap.size + 2) m1 a0 l0.length e0 l0) (g1 : m1 ≤ W.heap.size) (k1 : (w.heap.size + 2) ≤ m1) (a1 : Option Addr) (e1 m2 : Nat) (t1 : RoomIn W m1 m2 a1 l1.length e1 l1) (g2 : m2 ≤ W.heap.size) (k2 : m1 ≤ m2) (a2 : Option Addr) (e2 m3 : Nat) (t2 : RoomIn W m2 m3 a2 l2.length e2 l2) (g3 : m3 ≤ W.heap.size) (k3 : m2 ≤ m3) (a3 : Option Addr) (e3 m4 : Nat) (t3 : RoomIn W m3 m4 a3 l3.length e3 l3) (g4 : m4 ≤ W.heap.size) (k4 : m3 ≤ m4), Q .normal { tmps := #[.agg #[.slice (some b0) l0.length c0, .slice (some b1) l1.length c1, .slice (some b2) l2.length c2, .slice (some b3) l3.length c3], .pointer (some ⟨w.heap.size, 0, none⟩), .pointer (some ⟨w.heap.size + 1, 0, none⟩), .slice (some ⟨z0, 0, none⟩) 0 0, .pointer (some ⟨w.heap.size, 0, none⟩), .slice (some b0) l0.length c0, .slice a0 l0.length e0, .slice (some ⟨z1, 0, none⟩) 0 0, .pointer (some ⟨w.heap.size, 1, none⟩), .slice (some b1) l1.length c1, .slice a1 l1.length e1, .slice (some ⟨z2, 0, none⟩) 0 0, .pointer (some ⟨w.heap.size, 2, none⟩), .slice (some b2) l2.length c2, .slice a2 l2.length e2, .slice (some ⟨z3, 0, none⟩) 0 0, .pointer (some ⟨w.heap.size, 3, none⟩), .slice (some b3) l3.length c3, .slice a3 l3.length e3, .agg #[.slice a0 l0.length e0, .slice a1 l1.length e1, .slice a2 l2.length e2, .slice a3 l3.length e3]], defers := [] } ((((W.setCell ⟨w.heap.size + 1, 0, none⟩ (.slice a0 l0.length e0)).setCell ⟨w.heap.size + 1, 1, none⟩ (.slice a1 l1.length e1)).setCell ⟨w.heap.size + 1, 2, none⟩ (.slice a2 l2.length e2)).setCell ⟨w.heap.size + 1, 3, none⟩ (.slice a3 l3.length e3)))
    (W : World) (hS : ownS w (.slice (some b0) l0.length c0) (.slice (some b1) l1.length c1) (.slice (some b2) l2.length c2) (.slice (some b3) l3.length c3) W) (z1 z2 : Nat) :
    wpAnyH Try.prog .any ownOps Q (ownS w (.slice (some b0) l0.length c0) (.slice (some b1) l1.length c1) (.slice (some b2) l2.length c2) (.slice (some b3) l3.length c3)) 8 #[false, true, true, false, true, true, true, false, true, true, true, false, false, true, true, false, false, false] { tmps := #[.agg #[.slice (some b0) l0.length c0, .slice (some b1) l1.length c1, .slice (some b2) l2.length c2, .slice (some b3) l3.length c3], .pointer (some ⟨w.heap.size, 0, none⟩), .pointer (some ⟨w.heap.size + 1, 0, none⟩), undef, .pointer (some ⟨w.heap.size, 0, none⟩), .slice (some b0) l0.length c0, undef, .slice (some ⟨z1, 0, none⟩) 0 0, .pointer (some ⟨w.heap.size, 1, none⟩), .slice (some b1) l1.length c1, undef, .slice (some ⟨z2, 0, none⟩) 0 0, .pointer (some ⟨w.heap.size, 2, none⟩), .slice (some b2) l2.length c2, undef, undef, .pointer (some ⟨w.heap.size, 3, none⟩), .slice (some b3) l3.length c3, undef, undef], defers := [] } W := by
  refine wpAnyH_ready (rs := [0, 12]) (by kernel_rfl) (by simp) ?_
  refine AllReadyH.cons (o := ownOp0) rfl (fun K hK => ?_) ?_
  · refine step_lit (by rfl) (by rfl) ?_
    intro z0 W' hb
    have hS' := ownS_keep hS hb
    refine hK.out _ _ hS' (fun _ => ?_)
    exact ownp_nd0_012 n0 n1 n2 n3 o0 o1 o2 o3 hQ W' hS' z0 z1 z2 
  refine AllReadyH.cons (o := ownOp12) rfl (fun K hK => ?_) ?_
  · refine step_lit (by rfl) (by rfl) ?_
    intro z3 W' hb
    have hS' := ownS_keep hS hb
    refine hK.out _ _ hS' (fun _ => ?_)
    exact ownp_nd0_123 n0 n1 n2 n3 o0 o1 o2 o3 hQ W' hS' z1 z2 z3 
  exact AllReadyH.nil

set_option maxRecDepth 20000 in
set_option maxHeartbeats 4000000 in
theorem ownp_nd0_13 {b0 b1 b2 b3 : Addr} {c0 c1 c2 c3 : Nat} {l0 l1 l2 l3 : List (Int × Int)} {w : World} {Q : Exit → Act → World → Prop} (n0 : l0.length ≤ 1048576) (n1 : l1.length ≤ 1048576) (n2 : l2.length ≤ 1048576) (n3 : l3.length ≤ 1048576) (o0 : PRow w (some b0) l0) (o1 : PRow w (some b1) l1) (o2 : PRow w (some b2) l2) (o3 : PRow w (some b3) l3)
    (hQ : ∀ (W : World) (hS : ownS w (.slice (some b0) l0.length c0) (.slice (some b1) l1.length c1) (.slice (some b2) l2.length c2) (.slice (some b3) l3.length c3) W) (z0 z1 z2 z3 : Nat) (a0 : Option Addr) (e0 m1 : Nat) (t0 : RoomIn W (w.heap.size + 2) m1 a0 l0.length e0 l0) (g1 : m1 ≤ W.heap.size) (k1 : (w.heap.size + 2) ≤ m1) (a1 : Option Addr) (e1 m2 : Nat) (t1 : RoomIn W m1 m2 a1 l1.length e1 l1) (g2 : m2 ≤ W.heap.size) (k2 : m1 ≤ m2) (a2 : Option Addr) (e2 m3 : Nat) (t2 : RoomIn W m2 m3 a2 l2.length e2 l2) (g3 : m3 ≤ W.heap.size) (k3 : m2 ≤ m3) (a3 : Option Addr) (e3 m4 : Nat) (t3 : RoomIn W m3 m4 a3 l3.length e3 l3) (g4 : m4 ≤ W.heap.size) (k4 : m3 ≤ m4), Q .normal { tmps := #[.agg #[.slice (some b0) l0.length c0, .slice (some b1) l1.length c1, .slice (some b2) l2.length c2, .slice (some b3) l3.length c3], .pointer (some ⟨w.heap.size, 0, none⟩), .pointer (some ⟨w.heap.size + 1, 0, none⟩), .slice (some ⟨z0, 0, none⟩) 0 0, .pointer (some ⟨w.heap.size, 0, none⟩), .slice (some b0) l0.length c0, .slice a0 l0.length e0, .slice (some ⟨z1, 0, none⟩) 0 0, .pointer (some ⟨w.heap.size, 1, none⟩), .slice (some b1) l1.length c1, .slice a1 l1.length e1, .slice (some ⟨z2, 0, none⟩) 0 0, .pointer (some ⟨w.heap.size, 2, none⟩), .slice (some b2) l2.length c2, .slice a2 l2.length e2, .slice (some ⟨z3, 0, none⟩) 0 0, .pointer (some ⟨w.heap.size, 3, none⟩), .slice (some b3) l3.length c3, .slice a3 l3.length e3, .agg #[.slice a0 l0.length e0, .slice a1 l1.length e1, .slice a2 l2.length e2, .slice a3 l3.length e3]], defers := [] } ((((W.setCell ⟨w.heap.size + 1, 0, none⟩ (.slice a0 l0.length e0)).setCell ⟨w.heap.size + 1, 1, none⟩ (.slice a1 l1.length e1)).setCell ⟨w.heap.size + 1, 2, none⟩ (.slice a2 l2.length e2)).setCell ⟨w.heap.size + 1, 3, none⟩ (.slice a3 l3.length e3)))
    (W : World) (hS : ownS w (.slice (some b0) l0.length c0) (.slice (some b1) l1.length c1) (.slice (some b2) l2.length c2) (.slice (some b3) l3.length c3) W) (z1 z3 : Nat) :
    wpAnyH Try.prog .any ownOps Q (ownS w (.slice (some b0) l0.length c0) (.slice (some b1) l1.length c1) (.slice (some b2) l2.length c2) (.slice (some b3) l3.length c3)) 8 #[false, true, true, false, true, true, true, false, false, true, true, false, true, true, true, false, false, false] { tmps := #[.agg #[.slice (some b0) l0.length c0, .slice (some b1) l1.length c1, .slice (some b2) l2.length c2, .slice (some b3) l3.length c3], .pointer (some ⟨w.heap.size, 0, none⟩), .pointer (some ⟨w.heap.size + 1, 0, none⟩), undef, .pointer (some ⟨w.heap.size, 0, none⟩), .slice (some b0) l0.length c0, undef, .slice (some ⟨z1, 0, none⟩) 0 0, .pointer (some ⟨w.heap.size, 1, none⟩), .slice (some b1) l1.length c1, undef, undef, .pointer (some ⟨w.heap.size, 2, none⟩), .slice (some b2) l2.length c2, undef, .slice (some ⟨z3, 0, none⟩) 0 0, .pointer (some ⟨w.heap.size, 3, none⟩), .slice (some b3) l3.length c3, undef, undef], defers := [] } W := by
  refine wpAnyH_ready (rs := [0, 8]) (by kernel_rfl) (by simp) ?_
  refine AllReadyH.cons (o := ownOp0) rfl (fun K hK => ?_) ?_
  · refine step_lit (by rfl) (by rfl) ?_
    intro z0 W' hb
    have hS' := ownS_keep hS hb
    refine hK.out _ _ hS' (fun _ => ?_)
    exact ownp_nd0_013 n0 n1 n2 n3 o0 o1 o2 o3 hQ W' hS' z0 z1 z3 
  refine AllReadyH.cons (o := ownOp8) rfl (fun K hK => ?_) ?_
  · refine step_lit (by rfl) (by rfl) ?_
    intro z2 W' hb
    have hS' := ownS_keep hS hb
    refine hK.out _ _ hS' (fun _ => ?_)
    exact ownp_nd0_123 n0 n1 n2 n3 o0 o1 o2 o3 hQ W' hS' z1 z2 z3 
  exact AllReadyH.nil

set_option maxRecDepth 20000 in
set_option maxHeartbeats 4000000 in
theorem ownp_nd0_23 {b0 b1 b2 b3 : Addr} {c0 c1 c2 c3 : Nat} {l0 l1 l2 l3 : List (Int × Int)} {w : World} {Q : Exit → Act → World → Prop} (n0 : l0.length ≤ 1048576) (n1 : l1.length ≤ 1048576) (n2 : l2.length ≤ 1048576) (n3 : l3.length ≤ 1048576) (o0 : PRow w (some b0) l0) (o1 : PRow w (some b1) l1) (o2 : PRow w (some b2) l2) (o3 : PRow w (some b3) l3)
    (hQ : ∀ (W : World) (hS : ownS w (.slice (some b0) l0.length c0) (.slice (some b1) l1.length c1) (.slice (some b2) l2.length c2) (.slice (some b3) l3.length c3) W) (z0 z1 z2 z3 : Nat) (a0 : Option Addr) (e0 m1 : Nat) (t0 : RoomIn W (w.heap.size + 2) m1 a0 l0.length e0 l0) (g1 : m1 ≤ W.heap.size) (k1 : (w.heap.size + 2) ≤ m1) (a1 : Option Addr) (e1 m2 : Nat) (t1 : RoomIn W m1 m2 a1 l1.length e1 l1) (g2 : m2 ≤ W.heap.size) (k2 : m1 ≤ m2) (a2 : Option Addr) (e2 m3 : Nat) (t2 : RoomIn W m2 m3 a2 l2.length e2 l2) (g3 : m3 ≤ W.heap.size) (k3 : m2 ≤ m3) (a3 : Option Addr) (e3 m4 : Nat) (t3 : RoomIn W m3 m4 a3 l3.length e3 l3) (g4 : m4 ≤ W.heap.size) (k4 : m3 ≤ m4), Q .normal { tmps := #[.agg #[.slice (some b0) l0.length c0, .slice (some b1) l1.length c1, .slice (some b2) l2.length c2, .slice (some b3) l3.length c3], .pointer (some ⟨w.heap.size, 0, none⟩), .pointer (some ⟨w.heap.size + 1, 0, none⟩), .slice (some ⟨z0, 0, none⟩) 0 0, .pointer (some ⟨w.heap.size, 0, none⟩), .slice (some b0) l0.length c0, .slice a0 l0.length e0, .slice (some ⟨z1, 0, none⟩) 0 0, .pointer (some ⟨w.heap.size, 1, none⟩), .slice (some b1) l1.length c1, .slice a1 l1.length e1, .slice (some ⟨z2, 0, none⟩) 0 0, .pointer (some ⟨w.heap.size, 2, none⟩), .slice (some b2) l2.length c2, .slice a2 l2.length e2, .slice (some ⟨z3, 0, none⟩) 0 0, .pointer (some ⟨w.heap.size, 3, none⟩), .slice (some b3) l3.length c3, .slice a3 l3.length e3, .agg #[.slice a0 l0.length e0, .slice a1 l1.length e1, .slice a2 l2.length e2, .slice a3 l3.length e3]], defers := [] } ((((W.setCell ⟨w.heap.size + 1, 0, none⟩ (.slice a0 l0.length e0)).setCell ⟨w.heap.size + 1, 1, none⟩ (.slice a1 l1.length e1)).setCell ⟨w.heap.size + 1, 2, none⟩ (.slice a2 l2.length e2)).setCell ⟨w.heap.size + 1, 3, none⟩ (.slice a3 l3.length e3)))
    (W : World) (hS : ownS w (.slice (some b0) l0.length c0) (.slice (some b1) l1.length c1) (.slice (some b2) l2.length c2) (.slice (some b3) l3.length c3) W) (z2 z3 : Nat) :
    wpAnyH Try.prog .any ownOps Q (ownS w (.slice (some b0) l0.length c0) (.slice (some b1) l1.length c1) (.slice (some b2) l2.length c2) (.slice (some b3) l3.length c3)) 8 #[false, true, true, false, false, true, true, false, true, true, true, false, true, true, true, false, false, false] { tmps := #[.agg #[.slice (some b0) l0.length c0, .slice (some b1) l1.length c1, .slice (some b2) l2.length c2, .slice (some b3) l3.length c3], .pointer (some ⟨w.heap.size, 0, none⟩), .pointer (some ⟨w.heap.size + 1, 0, none⟩), undef, .pointer (some ⟨w.heap.size, 0, none⟩), .slice (some b0) l0.length c0, undef, undef, .pointer (some ⟨w.heap.size, 1, none⟩), .slice (some b1) l1.length c1, undef, .slice (some ⟨z2, 0, none⟩) 0 0, .pointer (some ⟨w.heap.size, 2, none⟩), .slice (some b2) l2.length c2, undef, .slice (some ⟨z3, 0, none⟩) 0 0, .pointer (some ⟨w.heap.size, 3, none⟩), .slice (some b3) l3.length c3, undef, undef], defers := [] } W := by
  refine wpAnyH_ready (rs := [0, 4]) (by kernel_rfl) (by simp) ?_
  refine AllReadyH.cons (o := ownOp0) rfl (fun K hK => ?_) ?_
  · refine step_lit (by rfl) (by rfl) ?_
    intro z0 W' hb
    have hS' := ownS_keep hS hb
    refine hK.out _ _ hS' (fun _ => ?_)
    exact ownp_nd0_023 n0 n1 n2 n3 o0 o1 o2 o3 hQ W' hS' z0 z2 z3 
  refine AllReadyH.cons (o := ownOp4) rfl (fun K hK => ?_) ?_
  · refine step_lit (by rfl) (by rfl) ?_
    intro z1 W' hb
    have hS' := ownS_keep hS hb
    refine hK.out _ _ hS' (fun _ => ?_)
    exact ownp_nd0_123 n0 n1 n2 n3 o0 o1 o2 o3 hQ W' hS' z1 z2 z3 
  exact AllReadyH.nil

set_option maxRecDepth 20000 in
set_option maxHeartbeats 4000000 in
theorem ownp_nd0_0 {b0 b1 b2 b3 : Addr} {c0 c1 c2 c3 : Nat} {l0 l1 l2 l3 : List (Int × Int)} {w : World} {Q : Exit → Act → World → Prop} (n0 : l0.length ≤ 1048576) (n1 : l1.length ≤ 1048576) (n2 : l2.length ≤ 1048576) (n3 : l3.length ≤ 1048576) (o0 : PRow w (some b0) l0) (o1 : PRow w (some b1) l1) (o2 : PRow w (some b2) l2) (o3 : PRow w (some b3) l3)
    (hQ : ∀ (W : World) (hS : ownS w (.slice (some b0) l0.length c0) (.slice (some b1) l1.length c1) (.slice (some b2) l2.length c2) (.slice (some b3) l3.length c3) W) (z0 z1 z2 z3 : Nat) (a0 : Option Addr) (e0 m1 : Nat) (t0 : RoomIn W (w.heap.size + 2) m1 a0 l0.length e0 l0) (g1 : m1 ≤ W.heap.size) (k1 : (w.heap.size + 2) ≤ m1) (a1 : Option Addr) (e1 m2 : Nat) (t1 : RoomIn W m1 m2 a1 l1.length e1 l1) (g2 : m2 ≤ W.heap.size) (k2 : m1 ≤ m2) (a2 : Option Addr) (e2 m3 : Nat) (t2 : RoomIn W m2 m3 a2 l2.length e2 l2) (g3 : m3 ≤ W.heap.size) (k3 : m2 ≤ m3) (a3 : Option Addr) (e3 m4 : Nat) (t3 : RoomIn W m3 m4 a3 l3.length e3 l3) (g4 : m4 ≤ W.heap.size) (k4 : m3 ≤ m4), Q .normal { tmps := #[.agg #[.slice (some b0) l0.length c0, .slice (some b1) l1.length c1, .slice (some b2) l2.length c2, .slice (some b3) l3.length c3], .pointer (some ⟨w.heap.size, 0, none⟩), .pointer (some ⟨w.heap.size + 1, 0, none⟩), .slice (some ⟨z0, 0, none⟩) 0 0, .pointer (some ⟨w.heap.size, 0, none⟩), .slice (some b0) l0.length c0, .slice a0 l0.length e0, .slice (some ⟨z1, 0, none⟩) 0 0, .pointer (some ⟨w.heap.size, 1, none⟩), .slice (some b1) l1.length c1, .slice a1 l1.length e1, .slice (some ⟨z2, 0, none⟩) 0 0, .pointer (some ⟨w.heap.size, 2, none⟩), .slice (some b2) l2.length c2, .slice a2 l2.length e2, .slice (some ⟨z3, 0, none⟩) 0 0, .pointer (some ⟨w.heap.size, 3, none⟩), .slice (some b3) l3.length c3, .slice a3 l3.length e3, .agg #[.slice a0 l0.length e0, .slice a1 l1.length e1, .slice a2 l2.length e2, .slice a3 l3.length e3]], defers := [] } ((((W.setCell ⟨w.heap.size + 1, 0, none⟩ (.slice a0 l0.length e0)).setCell ⟨w.heap.size + 1, 1, none⟩ (.slice a1 l1.length e1)).setCell ⟨w.heap.size + 1, 2, none⟩ (.slice a2 l2.length e2)).setCell ⟨w.heap.size + 1, 3, none⟩ (.slice a3 l3.length e3)))
    (W : World) (hS : ownS w (.slice (some b0) l0.length c0) (.slice (some b1) l1.length c1) (.slice (some b2) l2.length c2) (.slice (some b3) l3.length c3) W) (z0 : Nat) :
    wpAnyH Try.prog .any ownOps Q (ownS w (.slice (some b0) l0.length c0) (.slice (some b1) l1.length c1) (.slice (some b2) l2.length c2) (.slice (some b3) l3.length c3)) 9 #[true, true, true, false, false, true, true, false, false, true, true, false, false, true, true, false, false, false] { tmps := #[.agg #[.slice (some b0) l0.length c0, .slice (some b1) l1.length c1, .slice (some b2) l2.length c2, .slice (some b3) l3.length c3], .pointer (some ⟨w.heap.size, 0, none⟩), .pointer (some ⟨w.heap.size + 1, 0, none⟩), .slice (some ⟨z0, 0, none⟩) 0 0, .pointer (some ⟨w.heap.size, 0, none⟩), .slice (some b0) l0.length c0, undef, undef, .pointer (some ⟨w.heap.size, 1, none⟩), .slice (some b1) l1.length c1, undef, undef, .pointer (some ⟨w.heap.size, 2, none⟩), .slice (some b2) l2.length c2, undef, undef, .pointer (some ⟨w.heap.size, 3, none⟩), .slice (some b3) l3.length c3, undef, undef], defers := [] } W := by
  refine wpAnyH_ready (rs := [3, 4, 8, 12]) (by kernel_rfl) (by simp) ?_
  refine AllReadyH.cons (o := ownOp3) rfl (fun K hK => ?_) ?_
  · refine step_freshP (by rfl) (Operand.tmp 3) (Operand.tmp 5) (by rfl) z0 b0 l0.length c0 l0 (by rfl) (by rfl) rfl (o0.below hS.1 (Nat.le_refl _)) n0 ?_
    intro a0 e0 W' hr hb
    have hS' := ownS_keep hS hb
    refine hK.out _ _ hS' (fun _ => ?_)
    exact ownp_nd1_n n0 n1 n2 n3 o0 o1 o2 o3 hQ W' hS' z0  a0 e0 W'.heap.size (hr.mono (ownS_ge hS) (Nat.le_refl _)) (Nat.le_refl _) (Nat.le_trans (ownS_ge hS) hb.size)
  refine AllReadyH.cons (o := ownOp4) rfl (fun K hK => ?_) ?_
  · refine step_lit (by rfl) (by rfl) ?_
    intro z1 W' hb
    have hS' := ownS_keep hS hb
    refine hK.out _ _ hS' (fun _ => ?_)
    exact ownp_nd0_01 n0 n1 n2 n3 o0 o1 o2 o3 hQ W' hS' z0 z1 
  refine AllReadyH.cons (o := ownOp8) rfl (fun K hK => ?_) ?_
  · refine step_lit (by rfl) (by rfl) ?_
    intro z2 W' hb
    have hS' := ownS_keep hS hb
    refine hK.out _ _ hS' (fun _ => ?_)
    exact ownp_nd0_02 n0 n1 n2 n3 o0 o1 o2 o3 hQ W' hS' z0 z2 
  refine AllReadyH.cons (o := ownOp12) rfl (fun K hK => ?_) ?_
  · refine step_lit (by rfl) (by rfl) ?_
    intro z3 W' hb
    have hS' := ownS_keep hS hb
    refine hK.out _ _ hS' (fun _ => ?_)
    exact ownp_nd0_03 n0 n1 n2 n3 o0 o1 o2 o3 hQ W' hS' z0 z3 
  exact AllReadyH.nil

set_option maxRecDepth 20000 in
set_option maxHeartbeats 4000000 in
theorem ownp_nd0_1 {b0 b1 b2 b3 : Addr} {c0 c1 c2 c3 : Nat} {l0 l1 l2 l3 : List (Int × Int)} {w : World} {Q : Exit → Act → World → Prop} (n0 : l0.length ≤ 1048576) (n1 : l1.length ≤ 1048576) (n2 : l2.length ≤ 1048576) (n3 : l3.length ≤ 1048576) (o0 : PRow w (some b0) l0) (o1 : PRow w (some b1) l1) (o2 : PRow w (some b2) l2) (o3 : PRow w (some b3) l3)
    (hQ : ∀ (W : World) (hS : ownS w (.slice (some b0) l0.length c0) (.slice (some b1) l1.length c1) (.slice (some b2) l2.length c2) (.slice (some b3) l3.length c3) W) (z0 z1 z2 z3 : Nat) (a0 : Option Addr) (e0 m1 : Nat) (t0 : RoomIn W (w.heap.size + 2) m1 a0 l0.length e0 l0) (g1 : m1 ≤ W.heap.size) (k1 : (w.heap.size + 2) ≤ m1) (a1 : Option Addr) (e1 m2 : Nat) (t1 : RoomIn W m1 m2 a1 l1.length e1 l1) (g2 : m2 ≤ W.heap.size) (k2 : m1 ≤ m2) (a2 : Option Addr) (e2 m3 : Nat) (t2 : RoomIn W m2 m3 a2 l2.length e2 l2) (g3 : m3 ≤ W.heap.size) (k3 : m2 ≤ m3) (a3 : Option Addr) (e3 m4 : Nat) (t3 : RoomIn W m3 m4 a3 l3.length e3 l3) (g4 : m4 ≤ W.heap.size) (k4 : m3 ≤ m4), Q .normal { tmps := #[.agg #[.slice (some b0) l0.length c0, .slice (some b1) l1.length c1, .slice (some b2) l2.length c2, .slice (some b3) l3.length c3], .pointer (some ⟨w.heap.size, 0, none⟩), .pointer (some ⟨w.heap.size + 1, 0, none⟩), .slice (some ⟨z0, 0, none⟩) 0 0, .pointer (some ⟨w.heap.size, 0, none⟩), .slice (some b0) l0.length c0, .slice a0 l0.length e0, .slice (some ⟨z1, 0, none⟩) 0 0, .pointer (some ⟨w.heap.size, 1, none⟩), .slice (some b1) l1.length c1, .slice a1 l1.length e1, .slice (some ⟨z2, 0, none⟩) 0 0, .pointer (some ⟨w.heap.size, 2, none⟩), .slice (some b2) l2.length c2, .slice a2 l2.length e2, .slice (some ⟨z3, 0, none⟩) 0 0, .pointer (some ⟨w.heap.size, 3, none⟩), .slice (some b3) l3.length c3, .slice a3 l3.length e3, .agg #[.slice a0 l0.length e0, .slice a1 l1.length e1, .slice a2 l2.length e2, .slice a3 l3.length e3]], defers := [] } ((((W.setCell ⟨w.heap.size + 1, 0, none⟩ (.slice a0 l0.length e0)).setCell ⟨w.heap.size + 1, 1, none⟩ (.slice a1 l1.length e1)).setCell ⟨w.heap.size + 1, 2, none⟩ (.slice a2 l2.length e2)).setCell ⟨w.heap.size + 1, 3, none⟩ (.slice a3 l3.length e3)))
    (W : World) (hS : ownS w (.slice (some b0) l0.length c0) (.slice (some b1) l1.length c1) (.slice (some b2) l2.length c2) (.slice (some b3) l3.length c3) W) (z1 : Nat) :
    wpAnyH Try.prog .any ownOps Q (ownS w (.slice (some b0) l0.length c0) (.slice (some b1) l1.length c1) (.slice (some b2) l2.length c2) (.slice (some b3) l3.length c3)) 9 #[false, true, true, false, true, true, true, false, false, true, true, false, false, true, true, false, false, false] { tmps := #[.agg #[.slice (some b0) l0.length c0, .slice (some b1) l1.length c1, .slice (some b2) l2.length c2, .slice (some b3) l3.length c3], .pointer (some ⟨w.heap.size, 0, none⟩), .pointer (some ⟨w.heap.size + 1, 0, none⟩), undef, .pointer (some ⟨w.heap.size, 0, none⟩), .slice (some b0) l0.length c0, undef, .slice (some ⟨z1, 0, none⟩) 0 0, .pointer (some ⟨w.heap.size, 1, none⟩), .slice (some b1) l1.length c1, undef, undef, .pointer (some ⟨w.heap.size, 2, none⟩), .slice (some b2) l2.length c2, undef, undef, .pointer (some ⟨w.heap.size, 3, none⟩), .slice (some b3) l3.length c3, undef, undef], defers := [] } W := by
  refine wpAnyH_ready (rs := [0, 8, 12]) (by kernel_rfl) (by simp) ?_
  refine AllReadyH.cons (o := ownOp0) rfl (fun K hK => ?_) ?_
  · refine step_lit (by rfl) (by rfl) ?_
    intro z0 W' hb
    have hS' := ownS_keep hS hb
    refine hK.out _ _ hS' (fun _ => ?_)
    exact ownp_nd0_01 n0 n1 n2 n3 o0 o1 o2 o3 hQ W' hS' z0 z1 
  refine AllReadyH.cons (o := ownOp8) rfl (fun K hK => ?_) ?_
  · refine step_lit (by rfl) (by rfl) ?_
    intro z2 W' hb
    have hS' := ownS_keep hS hb
    refine hK.out _ _ hS' (fun _ => ?_)
    exact ownp_nd0_12 n0 n1 n2 n3 o0 o1 o2 o3 hQ W' hS' z1 z2 
  refine AllReadyH.cons (o := ownOp12) rfl (fun K hK => ?_) ?_
  · refine step_lit (by rfl) (by rfl) ?_
    intro z3 W' hb
    have hS' := ownS_keep hS hb
    refine hK.out _ _ hS' (fun _ => ?_)
    exact ownp_nd0_13 n0 n1 n2 n3 o0 o1 o2 o3 hQ W' hS' z1 z3 
  exact AllReadyH.nil

set_option maxRecDepth 20000 in
set_option maxHeartbeats 4000000 in
theorem ownp_nd0_2 {b0 b1 b2 b3 : Addr} {c0 c1 c2 c3 : Nat} {l0 l1 l2 l3 : List (Int × Int)} {w : World} {Q : Exit → Act → World → Prop} (n0 : l0.length ≤ 1048576) (n1 : l1.length ≤ 1048576) (n2 : l2.length ≤ 1048576) (n3 : l3.length ≤ 1048576) (o0 : PRow w (some b0) l0) (o1 : PRow w (some b1) l1) (o2 : PRow w (some b2) l2) (o3 : PRow w (some b3) l3)
    (hQ : ∀ (W : World) (hS : ownS w (.slice (some b0) l0.length c0) (.slice (some b1) l1.length c1) (.slice (some b2) l2.length c2) (.slice (some b3) l3.length c3) W) (z0 z1 z2 z3 : Nat) (a0 : Option Addr) (e0 m1 : Nat) (t0 : RoomIn W (w.heap.size + 2) m1 a0 l0.length e0 l0) (g1 : m1 ≤ W.heap.size) (k1 : (w.heap.size + 2) ≤ m1) (a1 : Option Addr) (e1 m2 : Nat) (t1 : RoomIn W m1 m2 a1 l1.length e1 l1) (g2 : m2 ≤ W.heap.size) (k2 : m1 ≤ m2) (a2 : Option Addr) (e2 m3 : Nat) (t2 : RoomIn W m2 m3 a2 l2.length e2 l2) (g3 : m3 ≤ W.heap.size) (k3 : m2 ≤ m3) (a3 : Option Addr) (e3 m4 : Nat) (t3 : RoomIn W m3 m4 a3 l3.length e3 l3) (g4 : m4 ≤ W.heap.size) (k4 : m3 ≤ m4), Q .normal { tmps := #[.agg #[.slice (some b0) l0.length c0, .slice (some b1) l1.length c1, .slice (some b2) l2.length c2, .slice (some b3) l3.length c3], .pointer (some ⟨w.heap.size, 0, none⟩), .pointer (some ⟨w.heap.size + 1, 0, none⟩), .slice (some ⟨z0, 0, none⟩) 0 0, .pointer (some ⟨w.heap.size, 0, none⟩), .slice (some b0) l0.length c0, .slice a0 l0.length e0, .slice (some ⟨z1, 0, none⟩) 0 0, .pointer (some ⟨w.heap.size, 1, none⟩), .slice (some b1) l1.length c1, .slice a1 l1.length e1, .slice (some ⟨z2, 0, none⟩) 0 0, .pointer (some ⟨w.heap.size, 2, none⟩), .slice (some b2) l2.length c2, .slice a2 l2.length e2, .slice (some ⟨z3, 0, none⟩) 0 0, .pointer (some ⟨w.heap.size, 3, none⟩), .slice (some b3) l3.length c3, .slice a3 l3.length e3, .agg #[.slice a0 l0.length e0, .slice a1 l1.length e1, .slice a2 l2.length e2, .slice a3 l3.length e3]], defers := [] } ((((W.setCell ⟨w.heap.size + 1, 0, none⟩ (.slice a0 l0.length e0)).setCell ⟨w.heap.size + 1, 1, none⟩ (.slice a1 l1.length e1)).setCell ⟨w.heap.size + 1, 2, none⟩ (.slice a2 l2.length e2)).setCell ⟨w.heap.size + 1, 3, none⟩ (.slice a3 l3.length e3)))
    (W : World) (hS : ownS w (.slice (some b0) l0.length c0) (.slice (some b1) l1.length c1) (.slice (some b2) l2.length c2) (.slice (some b3) l3.length c3) W) (z2 : Nat) :
    wpAnyH Try.prog .any ownOps Q (ownS w (.slice (some b0) l0.length c0) (.slice (some b1) l1.length c1) (.slice (some b2) l2.length c2) (.slice (some b3) l3.length c3)) 9 #[false, true, true, false, false, true, true, false, true, true, true, false, false, true, true, false, false, false] { tmps := #[.agg #[.slice (some b0) l0.length c0, .slice (some b1) l1.length c1, .slice (some b2) l2.length c2, .slice (some b3) l3.length c3], .pointer (some ⟨w.heap.size, 0, none⟩), .pointer (some ⟨w.heap.size + 1, 0, none⟩), undef, .pointer (some ⟨w.heap.size, 0, none⟩), .slice (some b0) l0.length c0, undef, undef, .pointer (some ⟨w.heap.size, 1, none⟩), .slice (some b1) l1.length c1, undef, .slice (some ⟨z2, 0, none⟩) 0 0, .pointer (some ⟨w.heap.size, 2, none⟩), .slice (some b2) l2.length c2, undef, undef, .pointer (some ⟨w.heap.size, 3, none⟩), .slice (some b3) l3.length c3, undef, undef], defers := [] } W := by
  refine wpAnyH_ready (rs := [0, 4, 12]) (by kernel_rfl) (by simp) ?_
  refine AllReadyH.cons (o := ownOp0) rfl (fun K hK => ?_) ?_
  · refine step_lit (by rfl) (by rfl) ?_
    intro z0 W' hb
    have hS' := ownS_keep hS hb
    refine hK.out _ _ hS' (fun _ => ?_)
    exact ownp_nd0_02 n0 n1 n2 n3 o0 o1 o2 o3 hQ W' hS' z0 z2 
  refine AllReadyH.cons (o := ownOp4) rfl (fun K hK => ?_) ?_
  · refine step_lit (by rfl) (by rfl) ?_
    intro z1 W' hb
    have hS' := ownS_keep hS hb
    refine hK.out _ _ hS' (fun _ => ?_)
    exact ownp_nd0_12 n0 n1 n2 n3 o0 o1 o2 o3 hQ W' hS' z1 z2 
  refine AllReadyH.cons (o := ownOp12) rfl (fun K hK => ?_) ?_
  · refine step_lit (by rfl) (by rfl) ?_
    intro z3 W' hb
    have hS' := ownS_keep hS hb
    refine hK.out _ _ hS' (fun _ => ?_)
    exact ownp_nd0_23 n0 n1 n2 n3 o0 o1 o2 o3 hQ W' hS' z2 z3 
  exact AllReadyH.nil

set_option maxRecDepth 20000 in
set_option maxHeartbeats 4000000 in
theorem ownp_nd0_3 {b0 b1 b2 b3 : Addr} {c0 c1 c2 c3 : Nat} {l0 l1 l2 l3 : List (Int × Int)} {w : World} {Q : Exit → Act → World → Prop} (n0 : l0.length ≤ 1048576) (n1 : l1.length ≤ 1048576) (n2 : l2.length ≤ 1048576) (n3 : l3.length ≤ 1048576) (o0 : PRow w (some b0) l0) (o1 : PRow w (some b1) l1) (o2 : PRow w (some b2) l2) (o3 : PRow w (some b3) l3)
    (hQ : ∀ (W : World) (hS : ownS w (.slice (some b0) l0.length c0) (.slice (some b1) l1.length c1) (.slice (some b2) l2.length c2) (.slice (some b3) l3.length c3) W) (z0 z1 z2 z3 : Nat) (a0 : Option Addr) (e0 m1 : Nat) (t0 : RoomIn W (w.heap.size + 2) m1 a0 l0.length e0 l0) (g1 : m1 ≤ W.heap.size) (k1 : (w.heap.size + 2) ≤ m1) (a1 : Option Addr) (e1 m2 : Nat) (t1 : RoomIn W m1 m2 a1 l1.length e1 l1) (g2 : m2 ≤ W.heap.size) (k2 : m1 ≤ m2) (a2 : Option Addr) (e2 m3 : Nat) (t2 : RoomIn W m2 m3 a2 l2.length e2 l2) (g3 : m3 ≤ W.heap.size) (k3 : m2 ≤ m3) (a3 : Option Addr) (e3 m4 : Nat) (t3 : RoomIn W m3 m4 a3 l3.length e3 l3) (g4 : m4 ≤ W.heap.size) (k4 : m3 ≤ m4), Q .normal { tmps := #[.agg #[.slice (some b0) l0.length c0, .slice (some b1) l1.length c1, .slice (some b2) l2.length c2, .slice (some b3) l3.length c3], .pointer (some ⟨w.heap.size, 0, none⟩), .pointer (some ⟨w.heap.size + 1, 0, none⟩), .slice (some ⟨z0, 0, none⟩) 0 0, .pointer (some ⟨w.heap.size, 0, none⟩), .slice (some b0) l0.length c0, .slice a0 l0.length e0, .slice (some ⟨z1, 0, none⟩) 0 0, .pointer (some ⟨w.heap.size, 1, none⟩), .slice (some b1) l1.length c1, .slice a1 l1.length e1, .slice (some ⟨z2, 0, none⟩) 0 0, .pointer (some ⟨w.heap.size, 2, none⟩), .slice (some b2) l2.length c2, .slice a2 l2.length e2, .slice (some ⟨z3, 0, none⟩) 0 0, .pointer (some ⟨w.heap.size, 3, none⟩), .slice (some b3) l3.length c3, .slice a3 l3.length e3, .agg #[.slice a0 l0.length e0, .slice a1 l1.length e1, .slice a2 l2.length e2, .slice a3 l3.length e3]], defers := [] } ((((W.setCell ⟨w.heap.size + 1, 0, none⟩ (.slice a0 l0.length e0)).setCell ⟨w.heap.size + 1, 1, none⟩ (.slice a1 l1.length e1)).setCell ⟨w.heap.size + 1, 2, none⟩ (.slice a2 l2.length e2)).setCell ⟨w.heap.size + 1, 3, none⟩ (.slice a3 l3.length e3)))
    (W : World) (hS : ownS w (.slice (some b0) l0.length c0) (.slice (some b1) l1.length c1) (.slice (some b2) l2.length c2) (.slice (some b3) l3.length c3) W) (z3 : Nat) :
    wpAnyH Try.prog .any ownOps Q (ownS w (.slice (some b0) l0.length c0) (.slice (some b1) l1.length c1) (.slice (some b2) l2.length c2) (.slice (some b3) l3.length c3)) 9 #[false, true, true, false, false, true, true, false, false, true, true, false, true, true, true, false, false, false] { tmps := #[.agg #[.slice (some b0) l0.length c0, .slice (some b1) l1.length c1, .slice (some b2) l2.length c2, .slice (some b3) l3.length c3], .pointer (some ⟨w.heap.size, 0, none⟩), .pointer (some ⟨w.heap.size + 1, 0, none⟩), undef, .pointer (some ⟨w.heap.size, 0, none⟩), .slice (some b0) l0.length c0, undef, undef, .pointer (some ⟨w.heap.size, 1, none⟩), .slice (some b1) l1.length c1, undef, undef, .pointer (some ⟨w.heap.size, 2, none⟩), .slice (some b2) l2.length c2, undef, .slice (some ⟨z3, 0, none⟩) 0 0, .pointer (some ⟨w.heap.size, 3, none⟩), .slice (some b3) l3.length c3, undef, undef], defers := [] } W := by
  refine wpAnyH_ready (rs := [0, 4, 8]) (by kernel_rfl) (by simp) ?_
  refine AllReadyH.cons (o := ownOp0) rfl (fun K hK => ?_) ?_
  · refine step_lit (by rfl) (by rfl) ?_
    intro z0 W' hb
    have hS' := ownS_keep hS hb
    refine hK.out _ _ hS' (fun _ => ?_)
    exact ownp_nd0_03 n0 n1 n2 n3 o0 o1 o2 o3 hQ W' hS' z0 z3 
  refine AllReadyH.cons (o := ownOp4) rfl (fun K hK => ?_) ?_
  · refine step_lit (by rfl) (by rfl) ?_
    intro z1 W' hb
    have hS' := ownS_keep hS hb
    refine hK.out _ _ hS' (fun _ => ?_)
    exact ownp_nd0_13 n0 n1 n2 n3 o0 o1 o2 o3 hQ W' hS' z1 z3 
  refine AllReadyH.cons (o := ownOp8) rfl (fun K hK => ?_) ?_
  · refine step_lit (by rfl) (by rfl) ?_
    intro z2 W' hb
    have hS' := ownS_keep hS hb
    refine hK.out _ _ hS' (fun _ => ?_)
    exact ownp_nd0_23 n0 n1 n2 n3 o0 o1 o2 o3 hQ W' hS' z2 z3 
  exact AllReadyH.nil

set_option maxRecDepth 20000 in
set_option maxHeartbeats 4000000 in
theorem ownp_nd0_n {b0 b1 b2 b3 : Addr} {c0 c1 c2 c3 : Nat} {l0 l1 l2 l3 : List (Int × Int)} {w : World} {Q : Exit → Act → World → Prop} (n0 : l0.length ≤ 1048576) (n1 : l1.length ≤ 1048576) (n2 : l2.length ≤ 1048576) (n3 : l3.length ≤ 1048576) (o0 : PRow w (some b0) l0) (o1 : PRow w (some b1) l1) (o2 : PRow w (some b2) l2) (o3 : PRow w (some b3) l3)
    (hQ : ∀ (W : World) (hS : ownS w (.slice (some b0) l0.length c0) (.slice (some b1) l1.length c1) (.slice (some b2) l2.length c2) (.slice (some b3) l3.length c3) W) (z0 z1 z2 z3 : Nat) (a0 : Option Addr) (e0 m1 : Nat) (t0 : RoomIn W (w.heap.size + 2) m1 a0 l0.length e0 l0) (g1 : m1 ≤ W.heap.size) (k1 : (w.heap.size + 2) ≤ m1) (a1 : Option Addr) (e1 m2 : Nat) (t1 : RoomIn W m1 m2 a1 l1.length e1 l1) (g2 : m2 ≤ W.heap.size) (k2 : m1 ≤ m2) (a2 : Option Addr) (e2 m3 : Nat) (t2 : RoomIn W m2 m3 a2 l2.length e2 l2) (g3 : m3 ≤ W.heap.size) (k3 : m2 ≤ m3) (a3 : Option Addr) (e3 m4 : Nat) (t3 : RoomIn W m3 m4 a3 l3.length e3 l3) (g4 : m4 ≤ W.heap.size) (k4 : m3 ≤ m4), Q .normal { tmps := #[.agg #[.slice (some b0) l0.length c0, .slice (some b1) l1.length c1, .slice (some b2) l2.length c2, .slice (some b3) l3.length c3], .pointer (some ⟨w.heap.size, 0, none⟩), .pointer (some ⟨w.heap.size + 1, 0, none⟩), .slice (some ⟨z0, 0, none⟩) 0 0, .pointer (some ⟨w.heap.size, 0, none⟩), .slice (some b0) l0.length c0, .slice a0 l0.length e0, .slice (some ⟨z1, 0, none⟩) 0 0, .pointer (some ⟨w.heap.size, 1, none⟩), .slice (some b1) l1.length c1, .slice a1 l1.length e1, .slice (some ⟨z2, 0, none⟩) 0 0, .pointer (some ⟨w.heap.size, 2, none⟩), .slice (some b2) l2.length c2, .slice a2 l2.length e2, .slice (some ⟨z3, 0, none⟩) 0 0, .pointer (some ⟨w.heap.size, 3, none⟩), .slice (some b3) l3.length c3, .slice a3 l3.length e3, .agg #[.slice a0 l0.length e0, .slice a1 l1.length e1, .slice a2 l2.length e2, .slice a3 l3.length e3]], defers := [] } ((((W.setCell ⟨w.heap.size + 1, 0, none⟩ (.slice a0 l0.length e0)).setCell ⟨w.heap.size + 1, 1, none⟩ (.slice a1 l1.length e1)).setCell ⟨w.heap.size + 1, 2, none⟩ (.slice a2 l2.length e2)).setCell ⟨w.heap.size + 1, 3, none⟩ (.slice a3 l3.length e3)))
    (W : World) (hS : ownS w (.slice (some b0) l0.length c0) (.slice (some b1) l1.length c1) (.slice (some b2) l2.length c2) (.slice (some b3) l3.length c3) W) :
    wpAnyH Try.prog .any ownOps Q (ownS w (.slice (some b0) l0.length c0) (.slice (some b1) l1.length c1) (.slice (some b2) l2.length c2) (.slice (some b3) l3.length c3)) 10 #[false, true, true, false, false, true, true, false, false, true, true, false, false, true, true, false, false, false] { tmps := #[.agg #[.slice (some b0) l0.length c0, .slice (some b1) l1.length c1, .slice (some b2) l2.length c2, .slice (some b3) l3.length c3], .pointer (some ⟨w.heap.size, 0, none⟩), .pointer (some ⟨w.heap.size + 1, 0, none⟩), undef, .pointer (some ⟨w.heap.size, 0, none⟩), .slice (some b0) l0.length c0, undef, undef, .pointer (some ⟨w.heap.size, 1, none⟩), .slice (some b1) l1.length c1, undef, undef, .pointer (some ⟨w.heap.size, 2, none⟩), .slice (some b2) l2.length c2, undef, undef, .pointer (some ⟨w.heap.size, 3, none⟩), .slice (some b3) l3.length c3, undef, undef], defers := [] } W := by
  refine wpAnyH_ready (rs := [0, 4, 8, 12]) (by kernel_rfl) (by simp) ?_
  refine AllReadyH.cons (o := ownOp0) rfl (fun K hK => ?_) ?_
  · refine step_lit (by rfl) (by rfl) ?_
    intro z0 W' hb
    have hS' := ownS_keep hS hb
    refine hK.out _ _ hS' (fun _ => ?_)
    exact ownp_nd0_0 n0 n1 n2 n3 o0 o1 o2 o3 hQ W' hS' z0 
  refine AllReadyH.cons (o := ownOp4) rfl (fun K hK => ?_) ?_
  · refine step_lit (by rfl) (by rfl) ?_
    intro z1 W' hb
    have hS' := ownS_keep hS hb
    refine hK.out _ _ hS' (fun _ => ?_)
    exact ownp_nd0_1 n0 n1 n2 n3 o0 o1 o2 o3 hQ W' hS' z1 
  refine AllReadyH.cons (o := ownOp8) rfl (fun K hK => ?_) ?_
  · refine step_lit (by rfl) (by rfl) ?_
    intro z2 W' hb
    have hS' := ownS_keep hS hb
    refine hK.out _ _ hS' (fun _ => ?_)
    exact ownp_nd0_2 n0 n1 n2 n3 o0 o1 o2 o3 hQ W' hS' z2 
  refine AllReadyH.cons (o := ownOp12) rfl (fun K hK => ?_) ?_
  · refine step_lit (by rfl) (by rfl) ?_
    intro z3 W' hb
    have hS' := ownS_keep hS hb
    refine hK.out _ _ hS' (fun _ => ?_)
    exact ownp_nd0_3 n0 n1 n2 n3 o0 o1 o2 o3 hQ W' hS' z3 
  exact AllReadyH.nil

set_option maxHeartbeats 4000000 in
theorem l1ownp_any (b0 b1 b2 b3 : Addr) (c0 c1 c2 c3 : Nat) (l0 l1 l2 l3 : List (Int × Int)) (w : World) (n0 : l0.length ≤ 1048576) (n1 : l1.length ≤ 1048576) (n2 : l2.length ≤ 1048576) (n3 : l3.length ≤ 1048576) (o0 : PRow w (some b0) l0) (o1 : PRow w (some b1) l1) (o2 : PRow w (some b2) l2) (o3 : PRow w (some b3) l3) :
    Calls Try.prog 150 #[.agg #[.slice (some b0) l0.length c0, .slice (some b1) l1.length c1, .slice (some b2) l2.length c2, .slice (some b3) l3.length c3]] w fun e w' => ∃ a0 a1 a2 a3 e0 e1 e2 e3 m1 m2 m3 m4,
      e = .returned (.agg #[.slice a0 l0.length e0, .slice a1 l1.length e1, .slice a2 l2.length e2, .slice a3 l3.length e3]) ∧
      RoomIn w' (w.heap.size + 2) m1 a0 l0.length e0 l0 ∧ RoomIn w' m1 m2 a1 l1.length e1 l1 ∧ RoomIn w' m2 m3 a2 l2.length e2 l2 ∧ RoomIn w' m3 m4 a3 l3.length e3 l3 ∧ w.heap.size + 2 ≤ m1 ∧ m1 ≤ m2 ∧ m2 ≤ m3 ∧ m3 ≤ m4 ∧ m4 ≤ w'.heap.size ∧ Below w.heap.size w w' := by
  have B0 := (Box.new w (.slice (some b0) l0.length c0) (.slice (some b1) l1.length c1) (.slice (some b2) l2.length c2) (.slice (some b3) l3.length c3) 28).below ((Below.refl _ _).alloc (Nat.le_refl _) (.cells #[.slice none 0 0, .slice none 0 0, .slice none 0 0, .slice none 0 0] 28)) (by simp)
  have R0 := Box.new (w.alloc (.cells #[.slice (some b0) l0.length c0, .slice (some b1) l1.length c1, .slice (some b2) l2.length c2, .slice (some b3) l3.length c3] 28)) (.slice none 0 0) (.slice none 0 0) (.slice none 0 0) (.slice none 0 0) 28
  have L0 : Below w.heap.size w ((w.alloc (.cells #[.slice (some b0) l0.length c0, .slice (some b1) l1.length c1, .slice (some b2) l2.length c2, .slice (some b3) l3.length c3] 28)).alloc (.cells #[.slice none 0 0, .slice none 0 0, .slice none 0 0, .slice none 0 0] 28)) := ((Below.refl _ _).alloc (Nat.le_refl _) _).alloc (by simp) _
  rw [World.size_alloc] at R0
  go_enter Try.func150, Try.ntmps150
  go_wp2
  generalize (w.alloc (.cells #[.slice (some b0) l0.length c0, .slice (some b1) l1.length c1, .slice (some b2) l2.length c2, .slice (some b3) l3.length c3] 28)).alloc (.cells #[.slice none 0 0, .slice none 0 0, .slice none 0 0, .slice none 0 0] 28) = W0 at *
  have O0 : Own W0.drew (w.heap.size + 1) 2 [] 0 := ⟨R0.lt, fun j hj => by
    have : j = 0 ∨ j = 1 ∨ j = 2 ∨ j = 3 := by omega
    rcases this with rfl | rfl | rfl | rfl
    · exact ⟨⟨_, R0.c0⟩, R0.f0⟩
    · exact ⟨⟨_, R0.c1⟩, R0.f1⟩
    · exact ⟨⟨_, R0.c2⟩, R0.f2⟩
    · exact ⟨⟨_, R0.c3⟩, R0.f3⟩, fun i hi => by omega⟩
  have hS0 : ownS w (.slice (some b0) l0.length c0) (.slice (some b1) l1.length c1) (.slice (some b2) l2.length c2) (.slice (some b3) l3.length c3) W0.drew := ⟨L0.drew, O0, B0.c0, B0.c1, B0.c2, B0.c3⟩
  clear R0 B0 O0
  refine wp_region_held_drew (S := ownS w (.slice (some b0) l0.length c0) (.slice (some b1) l1.length c1) (.slice (some b2) l2.length c2) (.slice (some b3) l3.length c3)) (by kernel_rfl) hS0 (fun _ => ?_)
  show wpAnyH Try.prog .any ownOps _ (ownS w (.slice (some b0) l0.length c0) (.slice (some b1) l1.length c1) (.slice (some b2) l2.length c2) (.slice (some b3) l3.length c3)) 18 #[false, false, false, false, false, false, false, false, false, false, false, false, false, false, false, false, false, false] { tmps := #[.agg #[.slice (some b0) l0.length c0, .slice (some b1) l1.length c1, .slice (some b2) l2.length c2, .slice (some b3) l3.length c3], .pointer (some ⟨w.heap.size, 0, none⟩), .pointer (some ⟨w.heap.size + 1, 0, none⟩), undef, undef, undef, undef, undef, undef, undef, undef, undef, undef, undef, undef, undef, undef, undef, undef, undef], defers := [] } W0.drew
  refine wpAnyH_take (i := 1) (oi := { dst := some 4, op := Op.fieldAddr 28 (Operand.tmp 1) 0, type := 0, pos := "l01_asn.go:137", after := #[], guard := none }) (v := .pointer (some ⟨w.heap.size, 0, none⟩)) rfl (by kernel_rfl) (by kernel_rfl) (by kernel_rfl) (fun _ _ _ h => h) (Or.inl ⟨by rfl, ?_⟩) hS0 ?_
  · intro W hSw; unfold ownS at hSw; obtain ⟨-, -, s0, s1, s2, s3⟩ := hSw; go_simp
  show wpAnyH Try.prog .any ownOps _ (ownS w (.slice (some b0) l0.length c0) (.slice (some b1) l1.length c1) (.slice (some b2) l2.length c2) (.slice (some b3) l3.length c3)) 17 #[false, true, false, false, false, false, false, false, false, false, false, false, false, false, false, false, false, false] { tmps := #[.agg #[.slice (some b0) l0.length c0, .slice (some b1) l1.length c1, .slice (some b2) l2.length c2, .slice (some b3) l3.length c3], .pointer (some ⟨w.heap.size, 0, none⟩), .pointer (some ⟨w.heap.size + 1, 0, none⟩), undef, .pointer (some ⟨w.heap.size, 0, none⟩), undef, undef, undef, undef, undef, undef, undef, undef, undef, undef, undef, undef, undef, undef, undef], defers := [] } W0.drew
  refine wpAnyH_take (i := 2) (oi := { dst := some 5, op := Op.load 26 (Operand.tmp 4), type := 26, pos := "l01_asn.go:137", after := #[{ on := 1, ground := Ground.data }], guard := none }) (v := .slice (some b0) l0.length c0) rfl (by kernel_rfl) (by kernel_rfl) (by kernel_rfl) (fun _ _ _ h => h) (Or.inl ⟨by rfl, ?_⟩) hS0 ?_
  · intro W hSw; unfold ownS at hSw; obtain ⟨-, -, s0, s1, s2, s3⟩ := hSw; go_simp
  show wpAnyH Try.prog .any ownOps _ (ownS w (.slice (some b0) l0.length c0) (.slice (some b1) l1.length c1) (.slice (some b2) l2.length c2) (.slice (some b3) l3.length c3)) 16 #[false, true, true, false, false, false, false, false, false, false, false, false, false, false, false, false, false, false] { tmps := #[.agg #[.slice (some b0) l0.length c0, .slice (some b1) l1.length c1, .slice (some b2) l2.length c2, .slice (some b3) l3.length c3], .pointer (some ⟨w.heap.size, 0, none⟩), .pointer (some ⟨w.heap.size + 1, 0, none⟩), undef, .pointer (some ⟨w.heap.size, 0, none⟩), .slice (some b0) l0.length c0, undef, undef, undef, undef, undef, undef, undef, undef, undef, undef, undef, undef, undef, undef], defers := [] } W0.drew
  refine wpAnyH_take (i := 5) (oi := { dst := some 8, op := Op.fieldAddr 28 (Operand.tmp 1) 1, type := 0, pos := "l01_asn.go:137", after := #[], guard := none }) (v := .pointer (some ⟨w.heap.size, 1, none⟩)) rfl (by kernel_rfl) (by kernel_rfl) (by kernel_rfl) (fun _ _ _ h => h) (Or.inl ⟨by rfl, ?_⟩) hS0 ?_
  · intro W hSw; unfold ownS at hSw; obtain ⟨-, -, s0, s1, s2, s3⟩ := hSw; go_simp
  show wpAnyH Try.prog .any ownOps _ (ownS w (.slice (some b0) l0.length c0) (.slice (some b1) l1.length c1) (.slice (some b2) l2.length c2) (.slice (some b3) l3.length c3)) 15 #[false, true, true, false, false, true, false, false, false, false, false, false, false, false, false, false, false, false] { tmps := #[.agg #[.slice (some b0) l0.length c0, .slice (some b1) l1.length c1, .slice (some b2) l2.length c2, .slice (some b3) l3.length c3], .pointer (some ⟨w.heap.size, 0, none⟩), .pointer (some ⟨w.heap.size + 1, 0, none⟩), undef, .pointer (some ⟨w.heap.size, 0, none⟩), .slice (some b0) l0.length c0, undef, undef, .pointer (some ⟨w.heap.size, 1, none⟩), undef, undef, undef, undef, undef, undef, undef, undef, undef, undef, undef], defers := [] } W0.drew
  refine wpAnyH_take (i := 6) (oi := { dst := some 9, op := Op.load 26 (Operand.tmp 8), type := 26, pos := "l01_asn.go:137", after := #[{ on := 5, ground := Ground.data }], guard := none }) (v := .slice (some b1) l1.length c1) rfl (by kernel_rfl) (by kernel_rfl) (by kernel_rfl) (fun _ _ _ h => h) (Or.inl ⟨by rfl, ?_⟩) hS0 ?_
  · intro W hSw; unfold ownS at hSw; obtain ⟨-, -, s0, s1, s2, s3⟩ := hSw; go_simp
  show wpAnyH Try.prog .any ownOps _ (ownS w (.slice (some b0) l0.length c0) (.slice (some b1) l1.length c1) (.slice (some b2) l2.length c2) (.slice (some b3) l3.length c3)) 14 #[false, true, true, false, false, true, true, false, false, false, false, false, false, false, false, false, false, false] { tmps := #[.agg #[.slice (some b0) l0.length c0, .slice (some b1) l1.length c1, .slice (some b2) l2.length c2, .slice (some b3) l3.length c3], .pointer (some ⟨w.heap.size, 0, none⟩), .pointer (some ⟨w.heap.size + 1, 0, none⟩), undef, .pointer (some ⟨w.heap.size, 0, none⟩), .slice (some b0) l0.length c0, undef, undef, .pointer (some ⟨w.heap.size, 1, none⟩), .slice (some b1) l1.length c1, undef, undef, undef, undef, undef, undef, undef, undef, undef, undef], defers := [] } W0.drew
  refine wpAnyH_take (i := 9) (oi := { dst := some 12, op := Op.fieldAddr 28 (Operand.tmp 1) 2, type := 0, pos := "l01_asn.go:137", after := #[], guard := none }) (v := .pointer (some ⟨w.heap.size, 2, none⟩)) rfl (by kernel_rfl) (by kernel_rfl) (by kernel_rfl) (fun _ _ _ h => h) (Or.inl ⟨by rfl, ?_⟩) hS0 ?_
  · intro W hSw; unfold ownS at hSw; obtain ⟨-, -, s0, s1, s2, s3⟩ := hSw; go_simp
  show wpAnyH Try.prog .any ownOps _ (ownS w (.slice (some b0) l0.length c0) (.slice (some b1) l1.length c1) (.slice (some b2) l2.length c2) (.slice (some b3) l3.length c3)) 13 #[false, true, true, false, false, true, true, false, false, true, false, false, false, false, false, false, false, false] { tmps := #[.agg #[.slice (some b0) l0.length c0, .slice (some b1) l1.length c1, .slice (some b2) l2.length c2, .slice (some b3) l3.length c3], .pointer (some ⟨w.heap.size, 0, none⟩), .pointer (some ⟨w.heap.size + 1, 0, none⟩), undef, .pointer (some ⟨w.heap.size, 0, none⟩), .slice (some b0) l0.length c0, undef, undef, .pointer (some ⟨w.heap.size, 1, none⟩), .slice (some b1) l1.length c1, undef, undef, .pointer (some ⟨w.heap.size, 2, none⟩), undef, undef, undef, undef, undef, undef, undef], defers := [] } W0.drew
  refine wpAnyH_take (i := 10) (oi := { dst := some 13, op := Op.load 26 (Operand.tmp 12), type := 26, pos := "l01_asn.go:137", after := #[{ on := 9, ground := Ground.data }], guard := none }) (v := .slice (some b2) l2.length c2) rfl (by kernel_rfl) (by kernel_rfl) (by kernel_rfl) (fun _ _ _ h => h) (Or.inl ⟨by rfl, ?_⟩) hS0 ?_
  · intro W hSw; unfold ownS at hSw; obtain ⟨-, -, s0, s1, s2, s3⟩ := hSw; go_simp
  show wpAnyH Try.prog .any ownOps _ (ownS w (.slice (some b0) l0.length c0) (.slice (some b1) l1.length c1) (.slice (some b2) l2.length c2) (.slice (some b3) l3.length c3)) 12 #[false, true, true, false, false, true, true, false, false, true, true, false, false, false, false, false, false, false] { tmps := #[.agg #[.slice (some b0) l0.length c0, .slice (some b1) l1.length c1, .slice (some b2) l2.length c2, .slice (some b3) l3.length c3], .pointer (some ⟨w.heap.size, 0, none⟩), .pointer (some ⟨w.heap.size + 1, 0, none⟩), undef, .pointer (some ⟨w.heap.size, 0, none⟩), .slice (some b0) l0.length c0, undef, undef, .pointer (some ⟨w.heap.size, 1, none⟩), .slice (some b1) l1.length c1, undef, undef, .pointer (some ⟨w.heap.size, 2, none⟩), .slice (some b2) l2.length c2, undef, undef, undef, undef, undef, undef], defers := [] } W0.drew
  refine wpAnyH_take (i := 13) (oi := { dst := some 16, op := Op.fieldAddr 28 (Operand.tmp 1) 3, type := 0, pos := "l01_asn.go:137", after := #[], guard := none }) (v := .pointer (some ⟨w.heap.size, 3, none⟩)) rfl (by kernel_rfl) (by kernel_rfl) (by kernel_rfl) (fun _ _ _ h => h) (Or.inl ⟨by rfl, ?_⟩) hS0 ?_
  · intro W hSw; unfold ownS at hSw; obtain ⟨-, -, s0, s1, s2, s3⟩ := hSw; go_simp
  show wpAnyH Try.prog .any ownOps _ (ownS w (.slice (some b0) l0.length c0) (.slice (some b1) l1.length c1) (.slice (some b2) l2.length c2) (.slice (some b3) l3.length c3)) 11 #[false, true, true, false, false, true, true, false, false, true, true, false, false, true, false, false, false, false] { tmps := #[.agg #[.slice (some b0) l0.length c0, .slice (some b1) l1.length c1, .slice (some b2) l2.length c2, .slice (some b3) l3.length c3], .pointer (some ⟨w.heap.size, 0, none⟩), .pointer (some ⟨w.heap.size + 1, 0, none⟩), undef, .pointer (some ⟨w.heap.size, 0, none⟩), .slice (some b0) l0.length c0, undef, undef, .pointer (some ⟨w.heap.size, 1, none⟩), .slice (some b1) l1.length c1, undef, undef, .pointer (some ⟨w.heap.size, 2, none⟩), .slice (some b2) l2.length c2, undef, undef, .pointer (some ⟨w.heap.size, 3, none⟩), undef, undef, undef], defers := [] } W0.drew
  refine wpAnyH_take (i := 14) (oi := { dst := some 17, op := Op.load 26 (Operand.tmp 16), type := 26, pos := "l01_asn.go:137", after := #[{ on := 13, ground := Ground.data }], guard := none }) (v := .slice (some b3) l3.length c3) rfl (by kernel_rfl) (by kernel_rfl) (by kernel_rfl) (fun _ _ _ h => h) (Or.inl ⟨by rfl, ?_⟩) hS0 ?_
  · intro W hSw; unfold ownS at hSw; obtain ⟨-, -, s0, s1, s2, s3⟩ := hSw; go_simp
  show wpAnyH Try.prog .any ownOps _ (ownS w (.slice (some b0) l0.length c0) (.slice (some b1) l1.length c1) (.slice (some b2) l2.length c2) (.slice (some b3) l3.length c3)) 10 #[false, true, true, false, false, true, true, false, false, true, true, false, false, true, true, false, false, false] { tmps := #[.agg #[.slice (some b0) l0.length c0, .slice (some b1) l1.length c1, .slice (some b2) l2.length c2, .slice (some b3) l3.length c3], .pointer (some ⟨w.heap.size, 0, none⟩), .pointer (some ⟨w.heap.size + 1, 0, none⟩), undef, .pointer (some ⟨w.heap.size, 0, none⟩), .slice (some b0) l0.length c0, undef, undef, .pointer (some ⟨w.heap.size, 1, none⟩), .slice (some b1) l1.length c1, undef, undef, .pointer (some ⟨w.heap.size, 2, none⟩), .slice (some b2) l2.length c2, undef, undef, .pointer (some ⟨w.heap.size, 3, none⟩), .slice (some b3) l3.length c3, undef, undef], defers := [] } W0.drew
  refine ownp_nd0_n n0 n1 n2 n3 o0 o1 o2 o3 ?_ _ hS0
  intro W hS z0 z1 z2 z3 a0 e0 m1 t0 g1 k1 a1 e1 m2 t1 g2 k2 a2 e2 m3 t2 g3 k3 a3 e3 m4 t3 g4 k4
  obtain ⟨F, FO⟩ := Own.fill hS.2.1 (.slice a0 l0.length e0) (.slice a1 l1.length e1) (.slice a2 l2.length e2) (.slice a3 l3.length e3)
  have hz := FO.size
  have hB := hS.1
  have q0 := t0.out FO (by omega); have q1 := t1.out FO (by omega); have q2 := t2.out FO (by omega); have q3 := t3.out FO (by omega)
  clear hS
  go_wp2
  have i0 := F.c0; have i1 := F.c1; have i2 := F.c2; have i3 := F.c3
  refine bodyPost_ret (v := .agg #[.slice a0 l0.length e0, .slice a1 l1.length e1, .slice a2 l2.length e2, .slice a3 l3.length e3]) ?_ rfl ⟨a0, a1, a2, a3, e0, e1, e2, e3, m1, m2, m3, m4, rfl, ?_, ?_, ?_, ?_, k1, k2, k3, k4, ?_, ?_⟩
  · simp [results, Try.results150, go_sem, i0, i1, i2, i3]
  · exact q0
  · exact q1
  · exact q2
  · exact q3
  · omega
  · exact hB.trans (FO.below (by omega) hB.size)

end Go.Proofs.Ytphchdjbhbmnbaa
