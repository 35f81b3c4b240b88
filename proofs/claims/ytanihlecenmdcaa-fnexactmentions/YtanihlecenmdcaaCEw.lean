/-
  The contract of impl.everyOf.
-/
import Derived.Test.YtanihlecenmdcaaCEv
namespace Go.Proofs.Ytanihlecenmdcaa
open Go.RowKit

/-- What everyOf answers for one list. -/
def EvS (l : List Cm) : Prop := ∀ (w : World) (lo hi : Nat) (a : Option Addr) (cap : Nat), CRow w lo hi a l → hi ≤ w.heap.size → cnts l ≤ 1048576 →
    Calls Try.prog 99 #[.slice a l.length cap] w fun e w' => ∃ a' c', e = .returned (.slice a' (flats l).length c') ∧ (a' = none → c' = 0) ∧ RC w' lo hi a' (flats l) ∧ Below w.heap.size w w'

set_option maxHeartbeats 4000000 in
theorem everyOf_any : ∀ l : List Cm, EvS l := by
  refine Cm.ind fun l ih => ?_
  intro w lo hi a cap hr hh hs
  obtain ⟨hm, hr⟩ := hr
  have hn : l.length ≤ 1048576 := Nat.le_trans (len_le_cnts l) hs
  have HCELL : Hid (∀ k, k < l.length → ∃ b o, a = some ⟨b, o, none⟩ ∧ lo ≤ b ∧ b < hi ∧ CAt w lo hi b (o + k * 10) (l.getD k Cm.zero)) := by
    intro k hk
    rcases hr with rfl | ⟨b, o, rfl, g1, g2, hc⟩
    · simp at hk
    · exact ⟨b, o, rfl, g1, g2, hc.get k hk⟩
  clear hr
  have HIH : Hid (∀ k, k < l.length → EvS (l.getD k Cm.zero).A ∧ EvS (l.getD k Cm.zero).B ∧ (l.getD k Cm.zero).cnt ≤ 1048576) := fun k hk => ⟨(ih _ (mem_getD hk)).1, (ih _ (mem_getD hk)).2, by have := cnt_le_cnts hk; omega⟩
  have HST : Hid (∀ k, k < l.length → flats (l.take (k + 1)) = flats (l.take k) ++ [l.getD k Cm.zero] ++ flats (l.getD k Cm.zero).A ++ flats (l.getD k Cm.zero).B) := fun k hk => flats_take_succ hk
  have HLE : Hid (∀ k, (flats (l.take k)).length ≤ 1048576) := fun k => Nat.le_trans (flats_take_le l k) hs
  have HTK : Hid (∀ k, k = l.length → flats (l.take k) = flats l) := fun k hk => by rw [hk, List.take_length]
  clear ih hs hm
  generalize hN : l.length = n at *
  clear hN
  go_enter Try.func99, Try.ntmps99
  go_wp2
  go_loopw [3, 8] (fun v i wr => ∃ (k : Nat) (u : Value) (xs : List Value), k ≤ n ∧ i = .int .i64 k ∧ u = v ∧ Hid (wr.ownsRow w.heap.size 59 10 u (flats (l.take k)).length xs ∧ CL wr lo hi xs (flats (l.take k))) ∧ Below w.heap.size w wr) (fun _ i _ => n - (intOf i).toNat)
  case atStart => exact ⟨0, _, [], Nat.zero_le _, rfl, rfl, ⟨by simp only [List.take_zero, flats_nil, List.length_nil]; exact World.ownsRow_nil _ _ _ _, by simp only [List.take_zero, flats_nil]; unfold CL; rfl⟩, Below.refl _ _⟩
  case round =>
    obtain ⟨k, v, xs, hk, rfl, rfl, hown, hbw⟩ := hrel
    by_cases hlt : k < n
    · obtain ⟨b, o, rfl, e1, e2, hc⟩ := HCELL.out k hlt
      obtain ⟨HA, HB, hcn⟩ := HIH.out k hlt
      obtain ⟨a0, a1, a2, a3, aA, aB, c0, c1, c2, c3, cA, cB, X, V⟩ := hc.out
      have F := Fit.of hcn
      have HS2 : Hid (flats (l.take (k + 1)) = flats (l.take k) ++ [l.getD k Cm.zero] ++ flats (l.getD k Cm.zero).A ++ flats (l.getD k Cm.zero).B) := HST.out k hlt
      have HL1 : Hid ((flats (l.take k)).length ≤ 1048576) := HLE.out k
      have HL2 : Hid ((flats (l.take (k + 1))).length ≤ 1048576) := HLE.out (k + 1)
      clear hc
      generalize l.getD k Cm.zero = c at *
      have HL3 : Hid ((flats (l.take k)).length + 1 + (flats c.A).length + (flats c.B).length ≤ 1048576) := by
        have h1 := HL2.out
        rw [HS2.out] at h1
        simp only [List.length_append, List.length_cons, List.length_nil] at h1
        show _ ≤ _
        omega
      have HNX : Hid (∃ fs, fs = flats (l.take k)) := ⟨_, rfl⟩
      generalize flats (l.take k) = fs at *
      obtain ⟨O, hcl⟩ := hown.out
      clear hown HL1 HL2 HNX
      replace X := X.below hbw (by omega)
      replace V := V.below hbw hh
      have hhr : hi ≤ wr.heap.size := Nat.le_trans hh hbw.size
      have x0 := X.e0; have x1 := X.e1; have x2 := X.e2; have x3 := X.e3; have x4 := X.e4; have x5 := X.e5; have x6 := X.e6; have x7 := X.e7; have x8 := X.e8; have x9 := X.e9
      clear X
      have hkn : (k : Int) < (n : Int) := by omega
      have B1 := (B10.new wr (.int .i64 c.k) (.int .i64 c.x) (.int .i64 c.y) (.bool c.q) (.slice a0 c.l0.length c0) (.slice a1 c.l1.length c1) (.slice a2 c.l2.length c2) (.slice a3 c.l3.length c3) (.slice aA c.A.length cA) (.slice aB c.B.length cB) 59).alloc (.cells #[.int .i64 c.k, .int .i64 c.x, .int .i64 c.y, .bool c.q, .slice a0 c.l0.length c0, .slice a1 c.l1.length c1, .slice a2 c.l2.length c2, .slice a3 c.l3.length c3, .slice aA c.A.length cA, .slice aB c.B.length cB] 59)
      have L1 : Below wr.heap.size wr ((wr.alloc (.cells #[.int .i64 c.k, .int .i64 c.x, .int .i64 c.y, .bool c.q, .slice a0 c.l0.length c0, .slice a1 c.l1.length c1, .slice a2 c.l2.length c2, .slice a3 c.l3.length c3, .slice aA c.A.length cA, .slice aB c.B.length cB] 59)).alloc (.cells #[.int .i64 c.k, .int .i64 c.x, .int .i64 c.y, .bool c.q, .slice a0 c.l0.length c0, .slice a1 c.l1.length c1, .slice a2 c.l2.length c2, .slice a3 c.l3.length c3, .slice aA c.A.length cA, .slice aB c.B.length cB] 59)) := ((Below.refl _ _).alloc (Nat.le_refl _) _).alloc (by simp) _
      have LW := hbw.trans (L1.mono hbw.size)
      have V1 := V.below L1 hhr
      have X1 : C10 ((wr.alloc (.cells #[.int .i64 c.k, .int .i64 c.x, .int .i64 c.y, .bool c.q, .slice a0 c.l0.length c0, .slice a1 c.l1.length c1, .slice a2 c.l2.length c2, .slice a3 c.l3.length c3, .slice aA c.A.length cA, .slice aB c.B.length cB] 59)).alloc (.cells #[.int .i64 c.k, .int .i64 c.x, .int .i64 c.y, .bool c.q, .slice a0 c.l0.length c0, .slice a1 c.l1.length c1, .slice a2 c.l2.length c2, .slice a3 c.l3.length c3, .slice aA c.A.length cA, .slice aB c.B.length cB] 59)) (wr.heap.size + 1) 0 c a0 a1 a2 a3 aA aB c0 c1 c2 c3 cA cB := by
        have := C10.new (wr.alloc (.cells #[.int .i64 c.k, .int .i64 c.x, .int .i64 c.y, .bool c.q, .slice a0 c.l0.length c0, .slice a1 c.l1.length c1, .slice a2 c.l2.length c2, .slice a3 c.l3.length c3, .slice aA c.A.length cA, .slice aB c.B.length cB] 59)) c a0 a1 a2 a3 aA aB c0 c1 c2 c3 cA cB 59
        simpa using this
      have R1 : RC ((wr.alloc (.cells #[.int .i64 c.k, .int .i64 c.x, .int .i64 c.y, .bool c.q, .slice a0 c.l0.length c0, .slice a1 c.l1.length c1, .slice a2 c.l2.length c2, .slice a3 c.l3.length c3, .slice aA c.A.length cA, .slice aB c.B.length cB] 59)).alloc (.cells #[.int .i64 c.k, .int .i64 c.x, .int .i64 c.y, .bool c.q, .slice a0 c.l0.length c0, .slice a1 c.l1.length c1, .slice a2 c.l2.length c2, .slice a3 c.l3.length c3, .slice aA c.A.length cA, .slice aB c.B.length cB] 59)) lo hi (some ⟨wr.heap.size + 1, 0, none⟩) [c] := .inr ⟨_, 0, rfl, by simp, by unfold CsAt; exact ⟨CAt.mk X1 V1, by unfold CsAt; trivial⟩⟩
      have O1 := O.kept (w' := (wr.alloc (.cells #[.int .i64 c.k, .int .i64 c.x, .int .i64 c.y, .bool c.q, .slice a0 c.l0.length c0, .slice a1 c.l1.length c1, .slice a2 c.l2.length c2, .slice a3 c.l3.length c3, .slice aA c.A.length cA, .slice aB c.B.length cB] 59)).alloc (.cells #[.int .i64 c.k, .int .i64 c.x, .int .i64 c.y, .bool c.q, .slice a0 c.l0.length c0, .slice a1 c.l1.length c1, .slice a2 c.l2.length c2, .slice a3 c.l3.length c3, .slice aA c.A.length cA, .slice aB c.B.length cB] 59)) (row := none) ⟨L1.os, L1.tape, L1.output, L1.size, fun q hq _ => L1.block q hq⟩ (by cases e : v.ownBlock <;> simp)
      have cl1 := hcl.below L1 hhr
      have hlt1 : ∀ q, v.ownBlock = some q → q ≠ wr.heap.size := fun q hq => by have := (O.lt q hq).2; omega
      have HL4 := HL3.out
      clear O hcl X1 V L1 hbw
      go_wp2_with (at_builtin; refine wpList_append_cmds rfl _ _ rfl w.heap.size lo hi v fs.length xs fs rfl O1 cl1 (some ⟨wr.heap.size + 1, 0, none⟩) 1 1 [c] rfl rfl R1 (fun e => by cases e) (by omega) LW.size hh ?_)
      intro v1 w1 ys1 O2 cl2 g1 f1
      have BW1 := (Below.refl w.heap.size ((wr.alloc (.cells #[.int .i64 c.k, .int .i64 c.x, .int .i64 c.y, .bool c.q, .slice a0 c.l0.length c0, .slice a1 c.l1.length c1, .slice a2 c.l2.length c2, .slice a3 c.l3.length c3, .slice aA c.A.length cA, .slice aB c.B.length cB] 59)).alloc (.cells #[.int .i64 c.k, .int .i64 c.x, .int .i64 c.y, .bool c.q, .slice a0 c.l0.length c0, .slice a1 c.l1.length c1, .slice a2 c.l2.length c2, .slice a3 c.l3.length c3, .slice aA c.A.length cA, .slice aB c.B.length cB] 59))).grown g1 LW.size (by intro q hq; exact (O1.lt q hq).1)
      have LW1 := LW.trans BW1
      have B2 := B1.grown g1 (by intro e; exact hlt1 _ e rfl)
      have V2 := V1.below BW1 hh
      have hlt2 : ∀ q, v1.ownBlock = some q → q ≠ wr.heap.size := by
        intro q hq
        rcases f1 with f1 | f1
        · rw [f1] at hq; exact hlt1 q hq
        · rw [f1] at hq; have hz : ∀ o p : Obj, ((wr.alloc o).alloc p).heap.size = wr.heap.size + 1 + 1 := fun o p => by simp
          first | (rw [hz] at hq; injection hq with hq; omega) | (injection hq with hq; omega)
      clear x0 x1 x2 x3 x4 x5 x6 x7 x8 x9 O1 cl1 B1 V1 R1 g1 f1 BW1 LW hlt1
      have x8 := B2.c8
      go_wp2_with fail
      clear x8
      have hh1 : hi ≤ w1.heap.size := Nat.le_trans hh LW1.size
      refine (HA _ _ _ _ _ V2.rA hh1 F.nA).mono ?_
      rintro e w2 ⟨a', c', rfl, z', R', hb⟩
      have LW2 := LW1.trans (hb.mono LW1.size)
      have O3 := O2.kept (w' := w2) (row := none) ⟨hb.os, hb.tape, hb.output, hb.size, fun q hq _ => hb.block q hq⟩ (by cases e : v1.ownBlock <;> simp)
      have cl3 := cl2.below hb hh1
      have B3 := B2.below hb B2.lt
      have V3 := V2.below hb hh1
      clear O2 cl2 B2 V2 hb LW1
      go_wp2_with (at_builtin; refine wpList_append_cmds rfl _ _ rfl w.heap.size lo hi v1 (fs.length + 1) ys1 (fs ++ [c]) rfl O3 cl3 a' (flats c.A).length c' (flats c.A) rfl rfl R' z' (by omega) LW2.size hh ?_)
      intro v2 w3 ys2 O4 cl4 g2 f2
      have BW3 := (Below.refl w.heap.size w2).grown g2 LW2.size (by intro q hq; exact (O3.lt q hq).1)
      have LW3 := LW2.trans BW3
      have B4 := B3.grown g2 (by intro e; exact hlt2 _ e rfl)
      have V4 := V3.below BW3 hh
      clear O3 cl3 B3 V3 g2 f2 BW3 LW2 hlt2 R' z'
      have x9 := B4.c9
      go_wp2_with fail
      clear x9
      have hh3 : hi ≤ w3.heap.size := Nat.le_trans hh LW3.size
      refine (HB _ _ _ _ _ V4.rB hh3 F.nB).mono ?_
      rintro e w4 ⟨a', c', rfl, z', R', hb⟩
      have LW4 := LW3.trans (hb.mono LW3.size)
      have O5 := O4.kept (w' := w4) (row := none) ⟨hb.os, hb.tape, hb.output, hb.size, fun q hq _ => hb.block q hq⟩ (by cases e : v2.ownBlock <;> simp)
      have cl5 := cl4.below hb hh3
      clear O4 cl4 B4 V4 hb LW3
      go_wp2_with (at_builtin; refine wpList_append_cmds rfl _ _ rfl w.heap.size lo hi v2 (fs.length + 1 + (flats c.A).length) ys2 (fs ++ c :: flats c.A) rfl O5 cl5 a' (flats c.B).length c' (flats c.B) rfl rfl R' z' (by omega) LW4.size hh ?_)
      intro v3 w5 ys3 O6 cl6 g3 f3
      have LW5 := LW4.trans ((Below.refl w.heap.size w4).grown g3 LW4.size (by intro q hq; exact (O5.lt q hq).1))
      have HN : Hid (w5.ownsRow w.heap.size 59 10 v3 (flats (l.take (k + 1))).length ys3 ∧ CL w5 lo hi ys3 (flats (l.take (k + 1)))) := by
        rw [HS2.out]
        have e : (fs ++ [c] ++ flats c.A ++ flats c.B).length = fs.length + 1 + (flats c.A).length + (flats c.B).length := by simp; omega
        have e2 : fs ++ [c] ++ flats c.A ++ flats c.B = fs ++ c :: (flats c.A ++ flats c.B) := by simp
        exact ⟨by rw [e]; exact O6, by rw [e2]; exact cl6⟩
      clear O5 cl5 O6 cl6 g3 f3 LW4 R' z'
      go_wp2
      go_roundw
      case rel => exact ⟨k + 1, v3, ys3, by omega, by go_num, rfl, HN, LW5⟩
      case measure => simp [intOf]; omega
    · go_wp2
      obtain rfl : k = n := by omega
      obtain ⟨O, hcl⟩ := hown.out
      obtain ⟨a', c', rfl, _, hz, R⟩ := RC.ofOwns O hcl
      rw [HTK.out k rfl] at R ⊢
      go_ret
      exact ⟨a', c', rfl, hz, R, hbw⟩

end Go.Proofs.Ytanihlecenmdcaa
