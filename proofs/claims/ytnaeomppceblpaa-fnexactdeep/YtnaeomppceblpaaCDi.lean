/-
  The contracts of impl.deepOf and of Deep.
-/
import Derived.Test.YtnaeomppceblpaaCDs
import Derived.Outline
import Derived.Deep.RegionWith
import Derived.Deep.DeepCutAuto
namespace Go.Proofs.Ytnaeomppceblpaa
open Go.RowKit Go.Deep

theorem wrap64_one (s : Nat) (h : (s : Int) ≤ 1048576) : wrap64 (1 + (s : Int)) = 1 + s := by unfold wrap64; omega
theorem wrapk_one (s : Nat) (h : (s : Int) ≤ 1048576) : IntKind.i64.wrap (1 + (s : Int)) = 1 + s := by rw [IntKind.wrap_i64]; omega

theorem max_t (a b : Nat) : (if a < b then (b : Int) else (a : Int)) = ((max a b : Nat) : Int) := by split <;> omega
theorem max_u (m t : Nat) : (if (m : Int) < 1 + (t : Int) then 1 + (t : Int) else (m : Int)) = ((max m (1 + t) : Nat) : Int) := by split <;> omega
theorem bound_t {a b : Nat} (h : (a : Int) ≤ 1048576) (k : (b : Int) ≤ 1048576) : ((max a b : Nat) : Int) ≤ 1048576 := by omega

def DeepI (l : List Cm) : Prop := ∀ (w : World) (lo hi : Nat) (a : Option Addr) (cap : Nat), CRow w lo hi a l → hi ≤ w.heap.size → cnts l ≤ 1048576 →
    Calls Try.prog 111 #[.slice a l.length cap] w fun e w' => e = .returned (.int .i64 (deeps l)) ∧ Below w.heap.size w w'

set_option maxHeartbeats 4000000 in
theorem deepOf_any : ∀ l : List Cm, DeepI l := by
  refine Cm.ind fun l ih => ?_
  intro w lo hi a cap hr hh hs
  obtain ⟨hm, hr⟩ := hr
  have hn : l.length ≤ 1048576 := Nat.le_trans (len_le_cnts l) hs
  have HCELL : Hid (∀ k, k < l.length → ∃ b o, a = some ⟨b, o, none⟩ ∧ lo ≤ b ∧ b < hi ∧ CAt w lo hi b (o + k * 10) (l.getD k Cm.zero)) := by
    intro k hk
    rcases hr with rfl | ⟨b, o, rfl, g1, g2, hc⟩
    · simp at hk
    · exact ⟨b, o, rfl, g1, g2, hc.get k hk⟩
  clear hr
  have HIH : Hid (∀ k, k < l.length → DeepI (l.getD k Cm.zero).A ∧ DeepI (l.getD k Cm.zero).B ∧ (l.getD k Cm.zero).cnt ≤ 1048576) := fun k hk => ⟨(ih _ (mem_getD hk)).1, (ih _ (mem_getD hk)).2, by have := cnt_le_cnts hk; omega⟩
  have HST : Hid (∀ k, k < l.length → deeps (l.take (k + 1)) = max (deeps (l.take k)) (1 + max (deeps (l.getD k Cm.zero).A) (deeps (l.getD k Cm.zero).B))) := fun k hk => deeps_take_succ hk
  have HTK : Hid (∀ k, k = l.length → deeps (l.take k) = deeps l) := fun k hk => by rw [hk, List.take_length]
  clear ih hs hm
  generalize hN : l.length = n at *
  clear hN
  go_enter Try.func111, Try.ntmps111
  go_wp2
  go_loopw [3, 8] (fun v i wr => ∃ k m : Nat, k ≤ n ∧ i = .int .i64 k ∧ v = .int .i64 m ∧ Hid (m = deeps (l.take k)) ∧ Below w.heap.size w wr) (fun _ i _ => n - (intOf i).toNat)
  case atStart => exact ⟨0, 0, Nat.zero_le _, rfl, rfl, by show 0 = deeps (l.take 0); simp [deeps_nil], Below.refl _ _⟩
  case round =>
    obtain ⟨k, m, hk, rfl, rfl, hm, hbw⟩ := hrel
    by_cases hlt : k < n
    · obtain ⟨b, o, rfl, e1, e2, hc⟩ := HCELL.out k hlt
      obtain ⟨HA, HB, hcn⟩ := HIH.out k hlt
      obtain ⟨a0, a1, a2, a3, aA, aB, c0, c1, c2, c3, cA, cB, X, V⟩ := hc.out
      have F := Fit.of hcn
      have HS2 : Hid (deeps (l.take (k + 1)) = max m (1 + max (deeps (l.getD k Cm.zero).A) (deeps (l.getD k Cm.zero).B))) := by
        show _ = _
        rw [HST.out k hlt, hm.out]
      clear hc hm
      generalize l.getD k Cm.zero = c at *
      replace X := X.below hbw (by omega)
      replace V := V.below hbw hh
      have x0 := X.e0; have x1 := X.e1; have x2 := X.e2; have x3 := X.e3; have x4 := X.e4; have x5 := X.e5; have x6 := X.e6; have x7 := X.e7; have x8 := X.e8; have x9 := X.e9
      clear X
      have hkn : (k : Int) < (n : Int) := by omega
      have bA := deeps_le_cnts c.A
      have bB := deeps_le_cnts c.B
      have fA := F.nA; have fB := F.nB
      have HFF : Hid (deeps c.A ≤ 1048576 ∧ deeps c.B ≤ 1048576 ∧ cnts c.A ≤ 1048576 ∧ cnts c.B ≤ 1048576) := ⟨by omega, by omega, fA, fB⟩
      clear bA bB fA fB F
      have B1 := (B10.new wr (.int .i64 c.k) (.int .i64 c.x) (.int .i64 c.y) (.bool c.q) (.slice a0 c.l0.length c0) (.slice a1 c.l1.length c1) (.slice a2 c.l2.length c2) (.slice a3 c.l3.length c3) (.slice aA c.A.length cA) (.slice aB c.B.length cB) 59)
      have L1 : Below wr.heap.size wr (wr.alloc (.cells #[.int .i64 c.k, .int .i64 c.x, .int .i64 c.y, .bool c.q, .slice a0 c.l0.length c0, .slice a1 c.l1.length c1, .slice a2 c.l2.length c2, .slice a3 c.l3.length c3, .slice aA c.A.length cA, .slice aB c.B.length cB] 59)) := (Below.refl _ _).alloc (Nat.le_refl _) _
      have hhr : hi ≤ wr.heap.size := Nat.le_trans hh hbw.size
      have rA := V.rA.below L1 hhr
      have rB := V.rB.below L1 hhr
      have hhx : hi ≤ (wr.alloc (.cells #[.int .i64 c.k, .int .i64 c.x, .int .i64 c.y, .bool c.q, .slice a0 c.l0.length c0, .slice a1 c.l1.length c1, .slice a2 c.l2.length c2, .slice a3 c.l3.length c3, .slice aA c.A.length cA, .slice aB c.B.length cB] 59)).heap.size := Nat.le_trans hhr L1.size
      have L0 := L1
      clear V L1
      obtain ⟨sA, hsA⟩ : ∃ s, deeps c.A = s := ⟨_, rfl⟩
      obtain ⟨sB, hsB⟩ : ∃ s, deeps c.B = s := ⟨_, rfl⟩
      have HCA : Hid (∀ w', Below (wr.alloc (.cells #[.int .i64 c.k, .int .i64 c.x, .int .i64 c.y, .bool c.q, .slice a0 c.l0.length c0, .slice a1 c.l1.length c1, .slice a2 c.l2.length c2, .slice a3 c.l3.length c3, .slice aA c.A.length cA, .slice aB c.B.length cB] 59)).heap.size (wr.alloc (.cells #[.int .i64 c.k, .int .i64 c.x, .int .i64 c.y, .bool c.q, .slice a0 c.l0.length c0, .slice a1 c.l1.length c1, .slice a2 c.l2.length c2, .slice a3 c.l3.length c3, .slice aA c.A.length cA, .slice aB c.B.length cB] 59)) w' → Calls Try.prog 111 #[.slice aA c.A.length cA] w' fun e w'' => e = .returned (.int .i64 sA) ∧ Below w'.heap.size w' w'') := fun w' h => by
        rw [← hsA]; exact HA _ _ _ _ _ (rA.below h hhx) (Nat.le_trans hhx h.size) HFF.out.2.2.1
      have HCB : Hid (∀ w', Below (wr.alloc (.cells #[.int .i64 c.k, .int .i64 c.x, .int .i64 c.y, .bool c.q, .slice a0 c.l0.length c0, .slice a1 c.l1.length c1, .slice a2 c.l2.length c2, .slice a3 c.l3.length c3, .slice aA c.A.length cA, .slice aB c.B.length cB] 59)).heap.size (wr.alloc (.cells #[.int .i64 c.k, .int .i64 c.x, .int .i64 c.y, .bool c.q, .slice a0 c.l0.length c0, .slice a1 c.l1.length c1, .slice a2 c.l2.length c2, .slice a3 c.l3.length c3, .slice aA c.A.length cA, .slice aB c.B.length cB] 59)) w' → Calls Try.prog 111 #[.slice aB c.B.length cB] w' fun e w'' => e = .returned (.int .i64 sB) ∧ Below w'.heap.size w' w'') := fun w' h => by
        rw [← hsB]; exact HB _ _ _ _ _ (rB.below h hhx) (Nat.le_trans hhx h.size) HFF.out.2.2.2
      rw [hsA, hsB] at HS2
      have fA' : (sA : Int) ≤ 1048576 := by have := HFF.out.1; omega
      have fB' : (sB : Int) ≤ 1048576 := by have := HFF.out.2.1; omega
      clear hsA hsB HFF HA HB rA rB hhx
      have w1' := wrap64_one sA fA'
      have w2' := wrap64_one sB fB'
      have w1'' := wrapk_one sA fA'
      have w2'' := wrapk_one sB fB'
      have T1 := max_t sA sB
      have T2 := wrapk_one (max sA sB) (bound_t fA' fB')
      have T3 := max_u m (max sA sB)
      clear w1' w2' w1'' w2''
      have TT : Hid (((if sA < sB then (sB : Int) else (sA : Int)) = ((max sA sB : Nat) : Int)) ∧ (IntKind.i64.wrap (1 + ((max sA sB : Nat) : Int)) = 1 + ((max sA sB : Nat) : Int)) ∧ ((if (m : Int) < 1 + ((max sA sB : Nat) : Int) then 1 + ((max sA sB : Nat) : Int) else (m : Int)) = ((max m (1 + max sA sB) : Nat) : Int))) := ⟨T1, T2, T3⟩
      clear T1 T2 T3
      have y9 := B1.c9
      have D0 : Below (wr.alloc (.cells #[.int .i64 c.k, .int .i64 c.x, .int .i64 c.y, .bool c.q, .slice a0 c.l0.length c0, .slice a1 c.l1.length c1, .slice a2 c.l2.length c2, .slice a3 c.l3.length c3, .slice aA c.A.length cA, .slice aB c.B.length cB] 59)).heap.size (wr.alloc (.cells #[.int .i64 c.k, .int .i64 c.x, .int .i64 c.y, .bool c.q, .slice a0 c.l0.length c0, .slice a1 c.l1.length c1, .slice a2 c.l2.length c2, .slice a3 c.l3.length c3, .slice aA c.A.length cA, .slice aB c.B.length cB] 59)) (wr.alloc (.cells #[.int .i64 c.k, .int .i64 c.x, .int .i64 c.y, .bool c.q, .slice a0 c.l0.length c0, .slice a1 c.l1.length c1, .slice a2 c.l2.length c2, .slice a3 c.l3.length c3, .slice aA c.A.length cA, .slice aB c.B.length cB] 59)).drew := (Below.refl _ _).drew
      have B1d := B1.below D0 B1.lt
      go_wp2_with fail
      go_region_with (first
          | (go_at_call_of 111 aA; refine (HCA.out _ D0).mono ?_; rintro e w1 ⟨rfl, hb1⟩; have z9 := (B1d.below hb1 B1d.lt).c9; have D1 := D0.trans (hb1.mono D0.size))
          | (go_at_call_of 111 aB; refine (HCB.out _ (by assumption)).mono ?_; rintro e w2 ⟨rfl, hb2⟩))
      all_goals
        have M2 := (hbw.trans ((L0.trans (D1.mono L0.size)).mono hbw.size)).trans (hb2.mono (hbw.trans ((L0.trans (D1.mono L0.size)).mono hbw.size)).size)
        obtain ⟨T1, T2, T3⟩ := TT.out
        simp only [T1, T2, T3]
        clear T1 T2 T3 TT
        generalize max m (1 + max sA sB) = u at *
        clear z9 y9 hb1 hb2 D1 D0 x0 x1 x2 x3 x4 x5 x6 x7 x8 x9
        go_wp2
        go_roundw
        case rel => exact ⟨k + 1, u, by omega, by go_num, rfl, HS2.out.symm, M2⟩
        case measure => simp [intOf]; omega
    · go_wp2
      go_ret
      obtain rfl : k = n := by omega
      exact ⟨ret_int (by rw [← HTK.out k rfl, hm.out]), hbw⟩

end Go.Proofs.Ytnaeomppceblpaa
