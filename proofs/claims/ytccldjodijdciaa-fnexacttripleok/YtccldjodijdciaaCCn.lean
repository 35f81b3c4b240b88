/-
  The contract of impl.counted.
-/
import Derived.Test.YtccldjodijdciaaCFi
import Derived.Outline
namespace Go.Proofs.Ytccldjodijdciaa
open Go.RowKit

/-- What counted answers for one list. -/
def CntS (l : List Cm) : Prop := ∀ (w : World) (lo hi : Nat) (a : Option Addr) (cap d : Nat), CRow w lo hi a l → hi ≤ w.heap.size → cnts l ≤ 1048577 → d ≤ 4 →
    Calls Try.prog 103 #[.slice a l.length cap, .int .i64 d] w fun e w' => e = .returned (.int .i64 (cntV d l)) ∧ Below w.heap.size w w'

set_option maxHeartbeats 4000000 in
theorem counted_any : ∀ l : List Cm, CntS l := by
  refine Cm.ind fun l ih => ?_
  intro w lo hi a cap d hr hh hs hd
  obtain ⟨hm, hr⟩ := hr
  have hn : l.length ≤ 1048577 := Nat.le_trans (len_le_cnts l) hs
  by_cases h20 : 20 < (l.length : Int)
  · have HL : Hid (cntV d l = -1) := Cnt.long (by omega)
    go_enter Try.func103, Try.ntmps103
    go_wp2
    go_ret
    exact ⟨ret_int HL.out.symm, Below.refl _ _⟩
  by_cases h0 : 0 < (l.length : Int)
  rotate_left
  · obtain rfl : l = [] := List.eq_nil_of_length_eq_zero (by omega)
    clear h20 h0 hn ih hs hm hr
    go_enter Try.func103, Try.ntmps103
    go_wp2
    go_loopw [5, 27] (fun v i wr => i = .int .i64 0 ∧ v = .int .i64 0 ∧ wr = w) (fun _ _ _ => 0)
    case atStart => exact ⟨rfl, rfl, rfl⟩
    case round =>
      obtain ⟨rfl, rfl, rfl⟩ := hrel
      go_wp2
      go_ret
      exact ⟨ret_int (cntV_nil d).symm, Below.refl _ _⟩
  by_cases h3 : 3 < (d : Int)
  · have HL : Hid (cntV d l = -1) := Cnt.deep (by omega) (by omega)
    go_enter Try.func103, Try.ntmps103
    go_wp2
    go_ret
    exact ⟨ret_int HL.out.symm, Below.refl _ _⟩
  have HCELL : Hid (∀ k, k < l.length → ∃ b o, a = some ⟨b, o, none⟩ ∧ lo ≤ b ∧ b < hi ∧ CAt w lo hi b (o + k * 10) (l.getD k Cm.zero)) := by
    intro k hk
    rcases hr with rfl | ⟨b, o, rfl, g1, g2, hc⟩
    · simp at hk
    · exact ⟨b, o, rfl, g1, g2, hc.get k hk⟩
  clear hr
  have HIH : Hid (∀ k, k < l.length → CntS (l.getD k Cm.zero).A ∧ CntS (l.getD k Cm.zero).B ∧ (l.getD k Cm.zero).cnt ≤ 1048576) := fun k hk => ⟨(ih _ (mem_getD hk)).1, (ih _ (mem_getD hk)).2, by have := cnt_le_cnts hk; omega⟩
  have HST : Hid (Cnt d l 0 l.length) := Cnt.start (by omega)
  have HDN : Hid (∀ n, Cnt d l l.length n → cntV d l = n) := fun n h => h.done (.inr (by omega)) (by omega)
  have HBAD : Hid (∀ k, k < l.length → (fOk (l.getD k Cm.zero) = false ∨ okS (d + 1) (l.getD k Cm.zero).A = false ∨ okS (d + 1) (l.getD k Cm.zero).B = false) → cntV d l = -1) := fun k hk h => Cnt.bad hk h
  have HOA : Hid (∀ k n, Cnt d l k n → k < l.length → 20 < n + sizes (l.getD k Cm.zero).A → cntV d l = -1) := fun k n h hk ho => h.overA hk ho
  have HOB : Hid (∀ k n, Cnt d l k n → k < l.length → 20 < n + sizes (l.getD k Cm.zero).A + sizes (l.getD k Cm.zero).B → cntV d l = -1) := fun k n h hk ho => h.overB hk ho
  have HSTEP : Hid (∀ k n, Cnt d l k n → k < l.length → fOk (l.getD k Cm.zero) = true → okS (d + 1) (l.getD k Cm.zero).A = true → okS (d + 1) (l.getD k Cm.zero).B = true → n + sizes (l.getD k Cm.zero).A + sizes (l.getD k Cm.zero).B ≤ 20 → Cnt d l (k + 1) (n + sizes (l.getD k Cm.zero).A + sizes (l.getD k Cm.zero).B)) := fun k n h hk hf hA hB ho => h.step hk hf hA hB ho
  have hd3 : d ≤ 3 := by omega
  clear ih hs hm
  generalize hN : l.length = n at *
  clear hN
  go_enter Try.func103, Try.ntmps103
  go_wp2
  go_loopw [5, 27] (fun v i wr => ∃ k m : Nat, k ≤ n ∧ i = .int .i64 k ∧ v = .int .i64 m ∧ m ≤ 20 ∧ Hid (Cnt d l k m) ∧ Below w.heap.size w wr) (fun _ i _ => n - (intOf i).toNat)
  case atStart => exact ⟨0, n, Nat.zero_le _, rfl, rfl, by omega, HST, Below.refl _ _⟩
  case round =>
    clear HST
    obtain ⟨k, m, hk, rfl, rfl, hm20, hcn, hbw⟩ := hrel
    by_cases hlt : k < n
    · obtain ⟨b, o, rfl, e1, e2, hc⟩ := HCELL.out k hlt
      obtain ⟨HA, HB, hcnt⟩ := HIH.out k hlt
      obtain ⟨a0, a1, a2, a3, aA, aB, c0, c1, c2, c3, cA, cB, X, V⟩ := hc.out
      have F := Fit.of hcnt
      have KB : Hid ((fOk (l.getD k Cm.zero) = false ∨ okS (d + 1) (l.getD k Cm.zero).A = false ∨ okS (d + 1) (l.getD k Cm.zero).B = false) → cntV d l = -1) := HBAD.out k hlt
      have KA : Hid (20 < m + sizes (l.getD k Cm.zero).A → cntV d l = -1) := HOA.out k m hcn.out hlt
      have KC : Hid (20 < m + sizes (l.getD k Cm.zero).A + sizes (l.getD k Cm.zero).B → cntV d l = -1) := HOB.out k m hcn.out hlt
      have KS : Hid (fOk (l.getD k Cm.zero) = true → okS (d + 1) (l.getD k Cm.zero).A = true → okS (d + 1) (l.getD k Cm.zero).B = true → m + sizes (l.getD k Cm.zero).A + sizes (l.getD k Cm.zero).B ≤ 20 → Cnt d l (k + 1) (m + sizes (l.getD k Cm.zero).A + sizes (l.getD k Cm.zero).B)) := HSTEP.out k m hcn.out hlt
      clear hc hcn
      generalize hce : l.getD k Cm.zero = c at *
      clear hce
      replace X := X.below hbw (by omega)
      replace V := V.below hbw hh
      have x0 := X.e0; have x1 := X.e1; have x2 := X.e2; have x3 := X.e3; have x4 := X.e4; have x5 := X.e5; have x6 := X.e6; have x7 := X.e7; have x8 := X.e8; have x9 := X.e9
      clear X
      have hkn : (k : Int) < (n : Int) := by omega
      have B1 := B10.new wr (.int .i64 c.k) (.int .i64 c.x) (.int .i64 c.y) (.bool c.q) (.slice a0 c.l0.length c0) (.slice a1 c.l1.length c1) (.slice a2 c.l2.length c2) (.slice a3 c.l3.length c3) (.slice aA c.A.length cA) (.slice aB c.B.length cB) 59
      have L1 : Below wr.heap.size wr (wr.alloc (.cells #[.int .i64 c.k, .int .i64 c.x, .int .i64 c.y, .bool c.q, .slice a0 c.l0.length c0, .slice a1 c.l1.length c1, .slice a2 c.l2.length c2, .slice a3 c.l3.length c3, .slice aA c.A.length cA, .slice aB c.B.length cB] 59)) := (Below.refl _ _).alloc (Nat.le_refl _) _
      have hhr : hi ≤ wr.heap.size := Nat.le_trans hh hbw.size
      go_wp2_with fail
      clear x0 x1 x2 x3 x4 x5 x6 x7 x8 x9
      refine (fieldsOk_of _ _ _ _ _ _ _ _ _ _ _ _ _ _ _ (by exact V.below L1 hhr) (by exact Nat.le_trans hhr L1.size) hcnt).mono ?_
      rintro e w1 ⟨rfl, hb⟩
      replace B1 := B1.below hb B1.lt
      replace L1 := L1.trans (hb.mono L1.size)
      have LW := hbw.trans (L1.mono hbw.size)
      have rA := V.rA.below L1 hhr
      have rB := V.rB.below L1 hhr
      have hh1 : hi ≤ w1.heap.size := Nat.le_trans hhr L1.size
      clear hb V hbw L1
      have x8 := B1.c8; have x9 := B1.c9
      cases hf : fOk c
      · go_wp2
        go_ret
        exact ⟨ret_int (KB.out (.inl hf)).symm, LW⟩
      have HF : Hid (fOk c = true) := hf
      clear hf
      have Z0 : (w1.alloc (.cells #[.slice aA c.A.length cA, .slice aB c.B.length cB] 57)).cell? ⟨w1.heap.size, 0, none⟩ = some (.slice aA c.A.length cA) := by simp
      have Z1 : (w1.alloc (.cells #[.slice aA c.A.length cA, .slice aB c.B.length cB] 57)).cell? ⟨w1.heap.size, 1, none⟩ = some (.slice aB c.B.length cB) := by simp
      have LZ : Below w.heap.size w (w1.alloc (.cells #[.slice aA c.A.length cA, .slice aB c.B.length cB] 57)) := LW.alloc LW.size _
      have LZ1 : Below w1.heap.size w1 (w1.alloc (.cells #[.slice aA c.A.length cA, .slice aB c.B.length cB] 57)) := (Below.refl _ _).alloc (Nat.le_refl _) _
      have LZ2 : w1.heap.size < (w1.alloc (.cells #[.slice aA c.A.length cA, .slice aB c.B.length cB] 57)).heap.size := by simp
      clear LW B1
      go_wp2
      clear x8 x9
      go_loopw [5, 9, 10, 40] (fun v _ _ i wz => ∃ j s : Nat, j ≤ 2 ∧ i = .int .i64 j ∧ v = .int .i64 s ∧ s ≤ 20 ∧ Hid (s = m + (if 0 < j then sizes c.A else 0) + (if 1 < j then sizes c.B else 0) ∧ (0 < j → okS (d + 1) c.A = true) ∧ (1 < j → okS (d + 1) c.B = true)) ∧ Below w.heap.size w wz ∧ Below w1.heap.size w1 wz ∧ w1.heap.size < wz.heap.size ∧ wz.cell? ⟨w1.heap.size, 0, none⟩ = some (.slice aA c.A.length cA) ∧ wz.cell? ⟨w1.heap.size, 1, none⟩ = some (.slice aB c.B.length cB)) (fun _ _ _ i _ => 2 - (intOf i).toNat)
      case atStart => exact ⟨0, m, by omega, rfl, rfl, hm20, ⟨by simp, by omega, by omega⟩, LZ, LZ1, LZ2, Z0, Z1⟩
      case round =>
        clear LZ LZ1 LZ2 Z0 Z1
        obtain ⟨j, s, hj, rfl, rfl, hs20, hin, LZ, LZ1, LZ2, Z0, Z1⟩ := hrel
        match j, hj with
        | 0, _ =>
          go_wp2_with fail
          refine (HA _ _ _ _ _ (d + 1) (by exact rA.below LZ1 hh1) (by exact Nat.le_trans hh1 LZ1.size) (by have := F.nA; omega) (by omega)).mono ?_
          rintro e w2 ⟨rfl, hb⟩
          have z0 := hb.cell (p := ⟨w1.heap.size, 0, none⟩) LZ2
          have z1 := hb.cell (p := ⟨w1.heap.size, 1, none⟩) LZ2
          rw [Z0] at z0
          rw [Z1] at z1
          have M := LZ.trans (hb.mono LZ.size)
          have M1 := LZ1.trans (hb.mono LZ1.size)
          have M2 := Nat.lt_of_lt_of_le LZ2 hb.size
          clear hb LZ LZ1 LZ2 Z0 Z1
          by_cases hneg : cntV (d + 1) c.A < 0
          · have hno := cntV_neg.1 hneg
            have HX : Hid (cntV d l = -1) := by
              by_cases ho : okS (d + 1) c.A = true
              · have hbig : ¬ sizes c.A ≤ 20 := fun h => hno ⟨ho, h⟩
                exact KA.out (by omega)
              · exact KB.out (.inr (.inl (by simpa using ho)))
            clear hno
            generalize cntV (d + 1) c.A = z at *
            go_wp2
            go_ret
            exact ⟨ret_int HX.out.symm, M⟩
          obtain ⟨o1, o2, o3⟩ := cntV_pos (Int.not_lt.1 hneg)
          rw [o3]
          clear hneg o3
          have q0 : ¬ ((sizes c.A : Nat) : Int) < 0 := by omega
          have hin' := hin.out
          by_cases hov : 20 < (s : Int) + sizes c.A
          · have HX : Hid (cntV d l = -1) := KA.out (by have := hin'.1; simp at this; omega)
            clear hin'
            go_wp2
            go_ret
            exact ⟨ret_int HX.out.symm, M⟩
          have HN : Hid (s + sizes c.A = m + (if 0 < 1 then sizes c.A else 0) + (if 1 < 1 then sizes c.B else 0) ∧ (0 < 1 → okS (d + 1) c.A = true) ∧ (1 < 1 → okS (d + 1) c.B = true)) := ⟨by have := hin'.1; simp at this ⊢; omega, fun _ => o1, by omega⟩
          clear hin hin' o1
          go_wp2
          go_roundw
          case rel => exact ⟨1, s + sizes c.A, by omega, by go_num, by go_num, by omega, HN, M, M1, M2, z0, z1⟩
          case measure => simp [intOf]
        | 1, _ =>
          go_wp2_with fail
          refine (HB _ _ _ _ _ (d + 1) (by exact rB.below LZ1 hh1) (by exact Nat.le_trans hh1 LZ1.size) (by have := F.nB; omega) (by omega)).mono ?_
          rintro e w2 ⟨rfl, hb⟩
          have z0 := hb.cell (p := ⟨w1.heap.size, 0, none⟩) LZ2
          have z1 := hb.cell (p := ⟨w1.heap.size, 1, none⟩) LZ2
          rw [Z0] at z0
          rw [Z1] at z1
          have M := LZ.trans (hb.mono LZ.size)
          have M1 := LZ1.trans (hb.mono LZ1.size)
          have M2 := Nat.lt_of_lt_of_le LZ2 hb.size
          clear hb LZ LZ1 LZ2 Z0 Z1
          have hin' := hin.out
          by_cases hneg : cntV (d + 1) c.B < 0
          · have hno := cntV_neg.1 hneg
            have HX : Hid (cntV d l = -1) := by
              by_cases ho : okS (d + 1) c.B = true
              · have hbig : ¬ sizes c.B ≤ 20 := fun h => hno ⟨ho, h⟩
                exact KC.out (by omega)
              · exact KB.out (.inr (.inr (by simpa using ho)))
            clear hno hin'
            generalize cntV (d + 1) c.B = z at *
            go_wp2
            go_ret
            exact ⟨ret_int HX.out.symm, M⟩
          obtain ⟨o1, o2, o3⟩ := cntV_pos (Int.not_lt.1 hneg)
          rw [o3]
          clear hneg o3
          have q0 : ¬ ((sizes c.B : Nat) : Int) < 0 := by omega
          by_cases hov : 20 < (s : Int) + sizes c.B
          · have HX : Hid (cntV d l = -1) := KC.out (by have := hin'.1; simp at this; omega)
            clear hin'
            go_wp2
            go_ret
            exact ⟨ret_int HX.out.symm, M⟩
          have HN : Hid (s + sizes c.B = m + (if 0 < 2 then sizes c.A else 0) + (if 1 < 2 then sizes c.B else 0) ∧ (0 < 2 → okS (d + 1) c.A = true) ∧ (1 < 2 → okS (d + 1) c.B = true)) := ⟨by have := hin'.1; simp at this ⊢; omega, fun _ => hin'.2.1 (by omega), fun _ => o1⟩
          clear hin hin' o1
          go_wp2
          go_roundw
          case rel => exact ⟨2, s + sizes c.B, by omega, by go_num, by go_num, by omega, HN, M, M1, M2, z0, z1⟩
          case measure => simp [intOf]
        | 2, _ =>
          have HN : Hid (Cnt d l (k + 1) s) := by
            have h := hin.out
            have e : s = m + sizes c.A + sizes c.B := by simpa using h.1
            rw [e]
            exact KS.out HF.out (h.2.1 (by omega)) (h.2.2 (by omega)) (by omega)
          clear hin
          go_wp2
          go_roundw
          case rel => exact ⟨k + 1, s, by omega, by go_num, rfl, hs20, HN, LZ⟩
          case measure => simp [intOf]; omega
    · go_wp2
      go_ret
      obtain rfl : k = n := by omega
      exact ⟨ret_int (by rw [HDN.out m hcn.out]), hbw⟩

end Go.Proofs.Ytccldjodijdciaa
