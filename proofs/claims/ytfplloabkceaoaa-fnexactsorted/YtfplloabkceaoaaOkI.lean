/-
  The contract of impl.AsnOk.
-/
import Derived.Test.YtfplloabkceaoaaOk
namespace Go.Proofs.Ytfplloabkceaoaa
open Go.RowKit

set_option maxHeartbeats 400000 in
theorem termsOk_some (b off cap : Nat) (l : List (Int × Int)) (w : World) (hn : l.length ≤ 1048576) (hb : b < w.heap.size)
    (hc : ∀ i, i < l.length → w.cell? ⟨b, off + i * 2, none⟩ = some (.int .i64 (l.getD i (0, 0)).1) ∧ w.cell? ⟨b, off + i * 2 + 1, none⟩ = some (.int .i64 (l.getD i (0, 0)).2)) :
    Calls Try.prog 210 #[.slice (some ⟨b, off, none⟩) l.length cap] w fun e w' => e = .returned (.bool (toks l)) ∧ Below w.heap.size w w' := by
  have hT : (∀ i, i < l.length → tok (l[i]?.getD (0, 0)).1 = true ∧ tok (l[i]?.getD (0, 0)).2 = true) → toks l = true := toks_true
  have hF : ∀ i, i < l.length → (tok (l[i]?.getD (0, 0)).1 = false ∨ tok (l[i]?.getD (0, 0)).2 = false) → toks l = false := fun i h => toks_false h
  have HT : Hid (∀ i, i < l.length → (tok (l[i]?.getD (0, 0)).1 = false ∨ tok (l[i]?.getD (0, 0)).2 = false) → toks l = false) := hF
  have HF : Hid ((∀ i, i < l.length → tok (l[i]?.getD (0, 0)).1 = true ∧ tok (l[i]?.getD (0, 0)).2 = true) → toks l = true) := hT
  clear hT hF
  generalize hN : l.length = n at *
  clear hN
  go_enter Try.func210, Try.ntmps210
  go_wp2
  go_loopw [4, 7] (fun _ i wr => ∃ k : Nat, k ≤ n ∧ i = .int .i64 k ∧ Hid (∀ i, i < k → tok (l[i]?.getD (0, 0)).1 = true ∧ tok (l[i]?.getD (0, 0)).2 = true) ∧ Below w.heap.size w wr) (fun _ i _ => n - (intOf i).toNat)
  case atStart => exact ⟨0, Nat.zero_le _, rfl, fun i hi => by omega, Below.refl _ _⟩
  case round =>
    obtain ⟨k, hk, rfl, hall, hbw⟩ := hrel
    by_cases hlt : k < n
    · have hck := hc k hlt
      clear hc
      have hx := hbw.cell (p := ⟨b, off + k * 2, none⟩) hb
      have hy := hbw.cell (p := ⟨b, off + k * 2 + 1, none⟩) hb
      rw [hck.1] at hx
      rw [hck.2] at hy
      clear hck
      have hb2 := hbw.alloc hbw.size (.cells #[.int .i64 (l[k]?.getD (0, 0)).1, .int .i64 (l[k]?.getD (0, 0)).2] 69)
      cases hA : tok (l[k]?.getD (0, 0)).1
      · go_wp2_with (go_at_call 134; refine (iTermOk_any _ _).mono ?_; rintro e w1 ⟨rfl, rfl⟩)
        go_ret
        exact ⟨ret_bool (HT.out k hlt (.inl hA)).symm, hb2⟩
      · cases hB : tok (l[k]?.getD (0, 0)).2
        · go_wp2_with (go_at_call 134; refine (iTermOk_any _ _).mono ?_; rintro e w1 ⟨rfl, rfl⟩)
          go_ret
          exact ⟨ret_bool (HT.out k hlt (.inr hB)).symm, hb2⟩
        · go_wp2_with (go_at_call 134; refine (iTermOk_any _ _).mono ?_; rintro e w1 ⟨rfl, rfl⟩)
          go_roundw
          case rel => exact ⟨k + 1, by omega, by go_num, fun i hi => by
            by_cases e : i = k
            · subst e; exact ⟨hA, hB⟩
            · exact hall.out i (by omega), hb2⟩
          case measure => simp [intOf]; omega
    · go_wp2
      go_ret
      obtain rfl : k = n := by omega
      exact ⟨ret_bool (HF.out hall.out).symm, hbw⟩

set_option maxHeartbeats 400000 in
theorem termsOk_nil (a : Option Addr) (cap : Nat) (w : World) : Calls Try.prog 210 #[.slice a 0 cap] w fun e w' => e = .returned (.bool true) ∧ Below w.heap.size w w' := by
  go_enter Try.func210, Try.ntmps210
  go_wp2
  go_loopw [4, 7] (fun _ i wr => i = .int .i64 0 ∧ Below w.heap.size w wr) (fun _ _ _ => 0)
  case atStart => exact ⟨rfl, Below.refl _ _⟩
  case round =>
    obtain ⟨rfl, hbw⟩ := hrel
    go_wp2
    go_ret
    exact ⟨rfl, hbw⟩

theorem termsOk_any (a : Option Addr) (cap : Nat) (l : List (Int × Int)) (w : World) (hn : l.length ≤ 1048576) (hr : PRow w a l) :
    Calls Try.prog 210 #[.slice a l.length cap] w fun e w' => e = .returned (.bool (toks l)) ∧ Below w.heap.size w w' := by
  rcases hr with rfl | ⟨b, off, rfl, hb, hc⟩
  · exact termsOk_nil a cap w
  · exact termsOk_some b off cap l w hn hb hc

set_option maxHeartbeats 400000 in
theorem listsOf_any (v0 v1 v2 v3 : Value) (w : World) (h0 : ∃ a n c, v0 = .slice a n c) (h1 : ∃ a n c, v1 = .slice a n c) (h2 : ∃ a n c, v2 = .slice a n c) (h3 : ∃ a n c, v3 = .slice a n c) :
    Calls Try.prog 135 #[.agg #[v0, v1, v2, v3]] w fun e w' => e = .returned (.agg #[v0, v1, v2, v3]) ∧ Below w.heap.size w w' := by
  obtain ⟨a0, n0, c0, rfl⟩ := h0
  obtain ⟨a1, n1, c1, rfl⟩ := h1
  obtain ⟨a2, n2, c2, rfl⟩ := h2
  obtain ⟨a3, n3, c3, rfl⟩ := h3
  go_enter Try.func135, Try.ntmps135
  go_wp2
  exact bodyPost_ret (v := .agg #[.slice a0 n0 c0, .slice a1 n1 c1, .slice a2 n2 c2, .slice a3 n3 c3]) (by simp [results, Try.results135, go_sem]) rfl ⟨rfl, ((Below.refl _ _).alloc (Nat.le_refl _) _).alloc (by simp) _⟩

theorem idx0 (a0 a1 a2 a3 : Option Addr) (n0 n1 n2 n3 c0 c1 c2 c3 : Nat) (w : World) : (Instr.index 88 (.agg #[.slice a0 n0 c0, .slice a1 n1 c1, .slice a2 n2 c2, .slice a3 n3 c3]) (.int .i64 0)).run Try.prog w = .ok (.slice a0 n0 c0) w := by kernel_rfl
theorem idx1 (a0 a1 a2 a3 : Option Addr) (n0 n1 n2 n3 c0 c1 c2 c3 : Nat) (w : World) : (Instr.index 88 (.agg #[.slice a0 n0 c0, .slice a1 n1 c1, .slice a2 n2 c2, .slice a3 n3 c3]) (.int .i64 1)).run Try.prog w = .ok (.slice a1 n1 c1) w := by kernel_rfl
theorem idx2 (a0 a1 a2 a3 : Option Addr) (n0 n1 n2 n3 c0 c1 c2 c3 : Nat) (w : World) : (Instr.index 88 (.agg #[.slice a0 n0 c0, .slice a1 n1 c1, .slice a2 n2 c2, .slice a3 n3 c3]) (.int .i64 2)).run Try.prog w = .ok (.slice a2 n2 c2) w := by kernel_rfl
theorem idx3 (a0 a1 a2 a3 : Option Addr) (n0 n1 n2 n3 c0 c1 c2 c3 : Nat) (w : World) : (Instr.index 88 (.agg #[.slice a0 n0 c0, .slice a1 n1 c1, .slice a2 n2 c2, .slice a3 n3 c3]) (.int .i64 3)).run Try.prog w = .ok (.slice a3 n3 c3) w := by kernel_rfl

set_option maxHeartbeats 1000000 in
theorem iAsnOk_any (a0 a1 a2 a3 : Option Addr) (c0 c1 c2 c3 : Nat) (l0 l1 l2 l3 : List (Int × Int)) (w : World)
    (n0 : l0.length ≤ 1048576) (n1 : l1.length ≤ 1048576) (n2 : l2.length ≤ 1048576) (n3 : l3.length ≤ 1048576)
    (r0 : PRow w a0 l0) (r1 : PRow w a1 l1) (r2 : PRow w a2 l2) (r3 : PRow w a3 l3) :
    Calls Try.prog 133 #[.agg #[.slice a0 l0.length c0, .slice a1 l1.length c1, .slice a2 l2.length c2, .slice a3 l3.length c3]] w fun e w' => e = .returned (.bool (asnB l0 l1 l2 l3)) ∧ Below w.heap.size w w' := by
  have L : Below w.heap.size w (w.alloc (.cells #[.slice a0 l0.length c0, .slice a1 l1.length c1, .slice a2 l2.length c2, .slice a3 l3.length c3] 28)) := (Below.refl _ _).alloc (Nat.le_refl _) _
  by_cases m0 : 12 < (l0.length : Int)
  · go_enter Try.func133, Try.ntmps133
    go_wp2
    go_ret
    exact ⟨ret_bool (by simp [asnB]; omega), L⟩
  by_cases m1 : 12 < (l1.length : Int)
  · go_enter Try.func133, Try.ntmps133
    go_wp2
    go_ret
    exact ⟨ret_bool (by simp [asnB]; omega), L⟩
  by_cases m2 : 6 < (l2.length : Int) + (l3.length : Int)
  · go_enter Try.func133, Try.ntmps133
    go_wp2
    go_ret
    exact ⟨ret_bool (by simp [asnB]; omega), L⟩
  have HB : Hid (asnB l0 l1 l2 l3 = (toks l0 && toks l1 && toks l2 && toks l3)) := by
    show asnB l0 l1 l2 l3 = _
    unfold asnB
    rw [decide_eq_true (show l0.length ≤ 12 by omega), decide_eq_true (show l1.length ≤ 12 by omega), decide_eq_true (show l2.length + l3.length ≤ 6 by omega)]
    simp
  go_enter Try.func133, Try.ntmps133
  go_wp2_with fail
  refine (listsOf_any _ _ _ _ _ ⟨_, _, _, rfl⟩ ⟨_, _, _, rfl⟩ ⟨_, _, _, rfl⟩ ⟨_, _, _, rfl⟩).mono ?_
  rintro e w1 ⟨rfl, hb⟩
  have L1 := L.trans (hb.mono L.size)
  clear L hb
  have i0 := idx0 a0 a1 a2 a3 l0.length l1.length l2.length l3.length c0 c1 c2 c3
  have i1 := idx1 a0 a1 a2 a3 l0.length l1.length l2.length l3.length c0 c1 c2 c3
  have i2 := idx2 a0 a1 a2 a3 l0.length l1.length l2.length l3.length c0 c1 c2 c3
  have i3 := idx3 a0 a1 a2 a3 l0.length l1.length l2.length l3.length c0 c1 c2 c3
  go_wp2
  go_loopw [27] (fun i wr => ∃ k : Nat, k ≤ 4 ∧ i = .int .i64 k ∧ Hid ((0 < k → toks l0 = true) ∧ (1 < k → toks l1 = true) ∧ (2 < k → toks l2 = true) ∧ (3 < k → toks l3 = true)) ∧ Below w.heap.size w wr) (fun i _ => 4 - (intOf i).toNat)
  case atStart => exact ⟨0, Nat.zero_le _, rfl, ⟨by omega, by omega, by omega, by omega⟩, L1⟩
  case round =>
    clear L1
    obtain ⟨k, hk, rfl, hall, hbw⟩ := hrel
    match k, hk with
    | 0, _ =>
      go_wp2_with fail
      refine (termsOk_any _ _ _ _ n0 (by exact r0.below hbw (Nat.le_refl _))).mono ?_
      rintro e w2 ⟨rfl, hb⟩
      have hbw2 := hbw.trans (hb.mono hbw.size)
      clear hb hbw
      cases h : toks l0
      · go_wp2
        go_ret
        exact ⟨ret_bool (by rw [HB.out, h]; simp), hbw2⟩
      · go_wp2
        go_roundw
        case rel => exact ⟨1, by omega, by go_num, ⟨fun _ => h, by omega, by omega, by omega⟩, hbw2⟩
        case measure => simp [intOf]
    | 1, _ =>
      go_wp2_with fail
      refine (termsOk_any _ _ _ _ n1 (by exact r1.below hbw (Nat.le_refl _))).mono ?_
      rintro e w2 ⟨rfl, hb⟩
      have hbw2 := hbw.trans (hb.mono hbw.size)
      clear hb hbw
      cases h : toks l1
      · go_wp2
        go_ret
        exact ⟨ret_bool (by rw [HB.out, h]; simp), hbw2⟩
      · go_wp2
        go_roundw
        case rel => exact ⟨2, by omega, by go_num, ⟨fun _ => hall.out.1 (by omega), fun _ => h, by omega, by omega⟩, hbw2⟩
        case measure => simp [intOf]
    | 2, _ =>
      go_wp2_with fail
      refine (termsOk_any _ _ _ _ n2 (by exact r2.below hbw (Nat.le_refl _))).mono ?_
      rintro e w2 ⟨rfl, hb⟩
      have hbw2 := hbw.trans (hb.mono hbw.size)
      clear hb hbw
      cases h : toks l2
      · go_wp2
        go_ret
        exact ⟨ret_bool (by rw [HB.out, h]; simp), hbw2⟩
      · go_wp2
        go_roundw
        case rel => exact ⟨3, by omega, by go_num, ⟨fun _ => hall.out.1 (by omega), fun _ => hall.out.2.1 (by omega), fun _ => h, by omega⟩, hbw2⟩
        case measure => simp [intOf]
    | 3, _ =>
      go_wp2_with fail
      refine (termsOk_any _ _ _ _ n3 (by exact r3.below hbw (Nat.le_refl _))).mono ?_
      rintro e w2 ⟨rfl, hb⟩
      have hbw2 := hbw.trans (hb.mono hbw.size)
      clear hb hbw
      cases h : toks l3
      · go_wp2
        go_ret
        exact ⟨ret_bool (by rw [HB.out, h]; simp), hbw2⟩
      · go_wp2
        go_roundw
        case rel => exact ⟨4, by omega, by go_num, ⟨fun _ => hall.out.1 (by omega), fun _ => hall.out.2.1 (by omega), fun _ => hall.out.2.2.1 (by omega), fun _ => h⟩, hbw2⟩
        case measure => simp [intOf]
    | 4, _ =>
      go_wp2
      go_ret
      exact ⟨ret_bool (by rw [HB.out, hall.out.1 (by omega), hall.out.2.1 (by omega), hall.out.2.2.1 (by omega), hall.out.2.2.2 (by omega)]; rfl), hbw⟩

end Go.Proofs.Ytfplloabkceaoaa
