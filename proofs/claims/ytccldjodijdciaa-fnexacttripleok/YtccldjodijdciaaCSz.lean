/-
  The contracts of laws.szCmd and laws.szCmdS.
-/
import Derived.Test.YtccldjodijdciaaChecked
import Derived.Test.YtccldjodijdciaaSz
import Derived.Test.YtccldjodijdciaaTr
import Derived.Outline
namespace Go.Proofs.Ytccldjodijdciaa
open Go.RowKit

theorem C10.new (w : World) (c : Cm) (a0 a1 a2 a3 aA aB : Option Addr) (c0 c1 c2 c3 cA cB : Nat) (t : TypeId) : C10 (w.alloc (.cells #[.int .i64 c.k, .int .i64 c.x, .int .i64 c.y, .bool c.q, .slice a0 c.l0.length c0, .slice a1 c.l1.length c1, .slice a2 c.l2.length c2, .slice a3 c.l3.length c3, .slice aA c.A.length cA, .slice aB c.B.length cB] t)) w.heap.size 0 c a0 a1 a2 a3 aA aB c0 c1 c2 c3 cA cB := by
  constructor <;> simp
theorem C10.keep {w w' : World} {b o : Nat} {c : Cm} {a0 a1 a2 a3 aA aB : Option Addr} {c0 c1 c2 c3 cA cB : Nat} (h : C10 w b o c a0 a1 a2 a3 aA aB c0 c1 c2 c3 cA cB) (hk : ∀ j, w'.cell? ⟨b, j, none⟩ = w.cell? ⟨b, j, none⟩) : C10 w' b o c a0 a1 a2 a3 aA aB c0 c1 c2 c3 cA cB :=
  ⟨(hk _).trans h.e0, (hk _).trans h.e1, (hk _).trans h.e2, (hk _).trans h.e3, (hk _).trans h.e4, (hk _).trans h.e5, (hk _).trans h.e6, (hk _).trans h.e7, (hk _).trans h.e8, (hk _).trans h.e9⟩
theorem C10.below {w w' : World} {b o B : Nat} {c : Cm} {a0 a1 a2 a3 aA aB : Option Addr} {c0 c1 c2 c3 cA cB : Nat} (h : C10 w b o c a0 a1 a2 a3 aA aB c0 c1 c2 c3 cA cB) (hb : Below B w w') (hB : b < B) : C10 w' b o c a0 a1 a2 a3 aA aB c0 c1 c2 c3 cA cB :=
  h.keep fun j => hb.cell (p := ⟨b, j, none⟩) hB

theorem szI_neg {n left : Int} (h : left < n) : szI n left = -1 := by unfold szI; rw [if_pos (by omega)]
theorem szI_pos {n left : Int} (h : n ≤ left) : szI n left = left - n := by unfold szI; rw [if_neg (by omega)]

/-- What szCmdS answers for one list. -/
def SzS (l : List Cm) : Prop := ∀ (w : World) (lo hi : Nat) (a : Option Addr) (cap : Nat) (left : Int), CRow w lo hi a l → hi ≤ w.heap.size → 0 ≤ left → left ≤ 1048576 →
    Calls Try.prog 50 #[.slice a l.length cap, .int .i64 left] w fun e w' => e = .returned (.int .i64 (szI (cnts l) left)) ∧ Below w.heap.size w w'

set_option maxHeartbeats 1000000 in
theorem szCmd_of {c : Cm} (HA : SzS c.A) (HB : SzS c.B) (a0 a1 a2 a3 aA aB : Option Addr) (c0 c1 c2 c3 cA cB : Nat) (w : World) (lo hi : Nat) (left : Int) (V : CVal w lo hi c a0 a1 a2 a3 aA aB) (hh : hi ≤ w.heap.size) (h0 : 0 ≤ left) (h1 : left ≤ 1048576) :
    Calls Try.prog 45 #[.agg #[.int .i64 c.k, .int .i64 c.x, .int .i64 c.y, .bool c.q, .slice a0 c.l0.length c0, .slice a1 c.l1.length c1, .slice a2 c.l2.length c2, .slice a3 c.l3.length c3, .slice aA c.A.length cA, .slice aB c.B.length cB], .int .i64 left] w fun e w' => e = .returned (.int .i64 (szI c.cnt left)) ∧ Below w.heap.size w w' := by
  have HC : Hid (c.cnt = c.l0.length + c.l1.length + c.l2.length + c.l3.length + cnts c.A + cnts c.B) := c.cnt_eq
  have X := C10.new w c a0 a1 a2 a3 aA aB c0 c1 c2 c3 cA cB 54
  have L : Below w.heap.size w (w.alloc (.cells #[.int .i64 c.k, .int .i64 c.x, .int .i64 c.y, .bool c.q, .slice a0 c.l0.length c0, .slice a1 c.l1.length c1, .slice a2 c.l2.length c2, .slice a3 c.l3.length c3, .slice aA c.A.length cA, .slice aB c.B.length cB] 54)) := (Below.refl _ _).alloc (Nat.le_refl _) _
  go_enter Try.func45, Try.ntmps45
  go_wp2_with fail
  refine (szAsn_any _ _ _ _ _ _ _ _ _ _ _ _ _ _ V.p0.1 V.p1.1 V.p2.1 V.p3.1 h0 h1).mono ?_
  rintro e w1 ⟨rfl, hb⟩
  have X1 := X.below hb (by simp); have L1 := L.trans (hb.mono L.size)
  clear hb X L
  by_cases k0 : left < (c.l0.length : Int) + c.l1.length + c.l2.length + c.l3.length
  · rw [szI_neg k0]
    go_wp2
    go_ret
    exact ⟨ret_int (szI_neg (by rw [HC.out]; omega)).symm, L1⟩
  rw [szI_pos (by omega)]
  have x8 := X1.e8
  obtain ⟨m1, e1, g1⟩ : ∃ m1 : Int, left - ((c.l0.length : Int) + c.l1.length + c.l2.length + c.l3.length) = m1 ∧ 0 ≤ m1 := ⟨_, rfl, by omega⟩
  rw [e1]
  have G1 : m1 ≤ 1048576 := by omega
  have E1 : Hid (left - ((c.l0.length : Int) + c.l1.length + c.l2.length + c.l3.length) = m1) := e1
  clear e1 k0
  have q1 : ¬ m1 < 0 := by omega
  go_wp2_with fail
  refine (HA _ _ _ _ _ _ (by exact V.rA.below L1 hh) (by exact Nat.le_trans hh L1.size) g1 G1).mono ?_
  rintro e w2 ⟨rfl, hb⟩
  have X2 := X1.below hb (by exact L1.size |> fun h => by have := World.block_lt_of_cell? _ _ x8; exact this); have L2 := L1.trans (hb.mono L1.size)
  clear hb X1 L1 x8 q1
  by_cases k1 : m1 < (cnts c.A : Int)
  · rw [szI_neg k1]
    go_wp2
    go_ret
    exact ⟨ret_int (szI_neg (by have := E1.out; rw [HC.out]; omega)).symm, L2⟩
  rw [szI_pos (by omega)]
  have x9 := X2.e9
  obtain ⟨m2, e2, g2⟩ : ∃ m2 : Int, m1 - (cnts c.A : Int) = m2 ∧ 0 ≤ m2 := ⟨_, rfl, by omega⟩
  rw [e2]
  have G2 : m2 ≤ 1048576 := by omega
  have E2 : Hid (m1 - (cnts c.A : Int) = m2) := e2
  clear e2 k1
  have q2 : ¬ m2 < 0 := by omega
  go_wp2_with fail
  refine (HB _ _ _ _ _ _ (by exact V.rB.below L2 hh) (by exact Nat.le_trans hh L2.size) g2 G2).mono ?_
  rintro e w3 ⟨rfl, hb⟩
  have L3 := L2.trans (hb.mono L2.size)
  clear hb X2 L2 x9 q2
  by_cases k2 : m2 < (cnts c.B : Int)
  · rw [szI_neg k2]
    go_wp2
    go_ret
    exact ⟨ret_int (szI_neg (by have := E1.out; have := E2.out; rw [HC.out]; omega)).symm, L3⟩
  rw [szI_pos (by omega)]
  have q3 : ¬ m2 - (cnts c.B : Int) < 0 := by omega
  go_wp2
  go_ret
  exact ⟨ret_int (by have := E1.out; have := E2.out; rw [szI_pos (by rw [HC.out]; omega), HC.out]; omega), L3⟩

set_option maxHeartbeats 1000000 in
theorem szCmdS_any : ∀ l : List Cm, SzS l := by
  refine Cm.ind fun l ih => ?_
  intro w lo hi a cap left hr hh h0 h1
  obtain ⟨hm, hr⟩ := hr
  have hm' := hm
  unfold maxLen at hm'
  have HL : Hid (l.length ≤ cnts l) := len_le_cnts l
  by_cases k0 : left < (l.length : Int)
  · have q0 : left - (l.length : Int) < 0 := by omega
    go_enter Try.func50, Try.ntmps50
    go_wp2
    go_ret
    exact ⟨ret_int (szI_neg (by have := HL.out; omega)).symm, Below.refl _ _⟩
  have q0 : ¬ left - (l.length : Int) < 0 := by omega
  have hcell : ∀ k, k < l.length → ∃ b o, a = some ⟨b, o, none⟩ ∧ lo ≤ b ∧ b < hi ∧ CAt w lo hi b (o + k * 10) (l.getD k Cm.zero) := by
    intro k hk
    rcases hr with rfl | ⟨b, o, rfl, g1, g2, hc⟩
    · simp at hk
    · exact ⟨b, o, rfl, g1, g2, hc.get k hk⟩
  clear hr
  have HCELL : Hid (∀ k, k < l.length → ∃ b o, a = some ⟨b, o, none⟩ ∧ lo ≤ b ∧ b < hi ∧ CAt w lo hi b (o + k * 10) (l.getD k Cm.zero)) := hcell
  have HIH : Hid (∀ k, k < l.length → SzS (l.getD k Cm.zero).A ∧ SzS (l.getD k Cm.zero).B) := fun k hk => ih _ (mem_getD hk)
  have HS : Hid (∀ k, k < l.length → cnts (l.take (k + 1)) = cnts (l.take k) + 1 + (l.getD k Cm.zero).cnt) := fun k hk => cnts_take_succ hk
  have HT : Hid (∀ k, cnts (l.take k) ≤ cnts l) := cnts_take_le l
  have HR : Hid (∀ k, k ≤ l.length → k ≤ cnts (l.take k)) := fun k hk => len_take_le l k hk
  have HE : Hid (cnts (l.take l.length) = cnts l) := by show cnts (l.take l.length) = cnts l; rw [List.take_length]
  have HN : Hid (∃ n : Nat, n = l.length) := ⟨_, rfl⟩
  have HA : Hid (∀ k, l.length ≤ k → cnts (l.take k) = cnts l) := fun k hk => by rw [List.take_of_length_le hk]
  have HM : Hid (∀ k, k < l.length → l.length - k ≤ cnts l - cnts (l.take k)) := fun k hk => by
    have h2 := cnts_append (l.take k) (l.drop k)
    rw [List.take_append_drop] at h2
    have h3 := len_le_cnts (l.drop k)
    rw [List.length_drop] at h3
    omega
  clear hcell ih
  generalize hN : l.length = n at *
  clear hN
  go_enter Try.func50, Try.ntmps50
  go_wp2
  go_loopw [1, 5] (fun v i wr => ∃ (k : Nat) (m : Int), k ≤ n ∧ i = .int .i64 k ∧ v = .int .i64 m ∧ 0 ≤ m ∧ m ≤ 1048576 ∧ Hid (m + n + cnts (l.take k) = left + k) ∧ Below w.heap.size w wr) (fun _ i _ => n - (intOf i).toNat)
  case atStart => exact ⟨0, left - n, Nat.zero_le _, rfl, rfl, by omega, by omega, by show left - (n : Int) + n + ((cnts (l.take 0) : Nat) : Int) = left + ((0 : Nat) : Int); simp [cnts_nil], Below.refl _ _⟩
  case round =>
    obtain ⟨k, m, hk, rfl, rfl, g0, g1, hm2, hbw⟩ := hrel
    by_cases hlt : k < n
    · obtain ⟨b, o, rfl, e1, e2, hc⟩ := HCELL.out k hlt
      obtain ⟨HA', HB'⟩ := HIH.out k hlt
      have hs := HS.out k hlt
      obtain ⟨a0, a1, a2, a3, aA, aB, c0, c1, c2, c3, cA, cB, X, V⟩ := hc.out
      generalize l.getD k Cm.zero = c at *
      replace X := X.below hbw (by omega)
      replace V := V.below hbw hh
      have x0 := X.e0; have x1 := X.e1; have x2 := X.e2; have x3 := X.e3; have x4 := X.e4; have x5 := X.e5; have x6 := X.e6; have x7 := X.e7; have x8 := X.e8; have x9 := X.e9
      clear hc X
      have HS2 : Hid (cnts (l.take (k + 1)) = cnts (l.take k) + 1 + c.cnt) := hs
      clear hs
      go_wp2_with fail
      clear x0 x1 x2 x3 x4 x5 x6 x7 x8 x9
      refine (szCmd_of HA' HB' _ _ _ _ _ _ _ _ _ _ _ _ _ _ _ _ V (Nat.le_trans hh hbw.size) g0 g1).mono ?_
      rintro e w1 ⟨rfl, hb1⟩
      have hbw1 := hbw.trans (hb1.mono hbw.size)
      clear hb1 hbw V
      by_cases k1 : m < (c.cnt : Int)
      · rw [szI_neg k1]
        go_wp2
        go_ret
        exact ⟨ret_int (szI_neg (by
          have t1 := HM.out k hlt; have t2 := HT.out (k + 1); have t3 := HS2.out; have t4 := hm2.out; have t5 : n - (k + 1) ≤ cnts l - cnts (l.take (k + 1)) := by
            by_cases e : k + 1 < n
            · exact HM.out (k + 1) e
            · omega
          omega)).symm, hbw1⟩
      · rw [szI_pos (by omega)]
        have q1 : ¬ m - (c.cnt : Int) < 0 := by omega
        go_wp2
        go_roundw
        case rel => exact ⟨k + 1, m - c.cnt, by omega, by go_num, rfl, by omega, by omega, by
          show m - (c.cnt : Int) + n + ((cnts (l.take (k + 1)) : Nat) : Int) = left + ((k + 1 : Nat) : Int)
          have t3 := HS2.out; have t4 := hm2.out
          omega, hbw1⟩
        case measure => simp [intOf]; omega
    · go_wp2
      go_ret
      exact ⟨ret_int (by have t1 := HA.out k (by omega); have t4 := hm2.out; rw [szI_pos (by omega)]; omega), hbw⟩

end Go.Proofs.Ytccldjodijdciaa
