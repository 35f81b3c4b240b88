/-
  The contracts of laws.eqCmd and laws.eqCmdS where both read alike.
-/
import Derived.Test.YtccldjodijdciaaChecked
import Derived.Test.YtccldjodijdciaaEq
import Derived.Test.YtccldjodijdciaaCTo
import Derived.Outline
import Derived.Deep.RegionWith
import Derived.Deep.DeepCutAuto
namespace Go.Proofs.Ytccldjodijdciaa
open Go.RowKit

/-- What eqCmdS answers of two that read alike. -/
def EqS (l : List Cm) : Prop := ∀ (w : World) (lo hi lo' hi' : Nat) (a a' : Option Addr) (cap cap' : Nat), CRow w lo hi a l → CRow w lo' hi' a' l → hi ≤ w.heap.size → hi' ≤ w.heap.size → cnts l ≤ 1048576 →
    Calls Try.prog 54 #[.slice a l.length cap, .slice a' l.length cap'] w fun e w' => e = .returned (.bool true) ∧ Below w.heap.size w w'

set_option maxHeartbeats 1000000 in
theorem eqCmd_of {c : Cm} (HA : EqS c.A) (HB : EqS c.B) (a0 a1 a2 a3 aA aB : Option Addr) (c0 c1 c2 c3 cA cB : Nat) (d0 d1 d2 d3 dA dB : Option Addr) (g0 g1 g2 g3 gA gB : Nat) (w : World) (lo hi lo' hi' : Nat) (V : CVal w lo hi c a0 a1 a2 a3 aA aB) (U : CVal w lo' hi' c d0 d1 d2 d3 dA dB) (hh : hi ≤ w.heap.size) (hh' : hi' ≤ w.heap.size) (hc : c.cnt ≤ 1048576) :
    Calls Try.prog 49 #[.agg #[.int .i64 c.k, .int .i64 c.x, .int .i64 c.y, .bool c.q, .slice a0 c.l0.length c0, .slice a1 c.l1.length c1, .slice a2 c.l2.length c2, .slice a3 c.l3.length c3, .slice aA c.A.length cA, .slice aB c.B.length cB], .agg #[.int .i64 c.k, .int .i64 c.x, .int .i64 c.y, .bool c.q, .slice d0 c.l0.length g0, .slice d1 c.l1.length g1, .slice d2 c.l2.length g2, .slice d3 c.l3.length g3, .slice dA c.A.length gA, .slice dB c.B.length gB]] w fun e w' => e = .returned (.bool true) ∧ Below w.heap.size w w' := by
  have F := Fit.of hc
  have A0 := (B10.new w (.int .i64 c.k) (.int .i64 c.x) (.int .i64 c.y) (.bool c.q) (.slice a0 c.l0.length c0) (.slice a1 c.l1.length c1) (.slice a2 c.l2.length c2) (.slice a3 c.l3.length c3) (.slice aA c.A.length cA) (.slice aB c.B.length cB) 59).alloc (.cells #[.int .i64 c.k, .int .i64 c.x, .int .i64 c.y, .bool c.q, .slice d0 c.l0.length g0, .slice d1 c.l1.length g1, .slice d2 c.l2.length g2, .slice d3 c.l3.length g3, .slice dA c.A.length gA, .slice dB c.B.length gB] 59)
  have D0 := B10.new (w.alloc (.cells #[.int .i64 c.k, .int .i64 c.x, .int .i64 c.y, .bool c.q, .slice a0 c.l0.length c0, .slice a1 c.l1.length c1, .slice a2 c.l2.length c2, .slice a3 c.l3.length c3, .slice aA c.A.length cA, .slice aB c.B.length cB] 59)) (.int .i64 c.k) (.int .i64 c.x) (.int .i64 c.y) (.bool c.q) (.slice d0 c.l0.length g0) (.slice d1 c.l1.length g1) (.slice d2 c.l2.length g2) (.slice d3 c.l3.length g3) (.slice dA c.A.length gA) (.slice dB c.B.length gB) 59
  have L0 : Below w.heap.size w ((w.alloc (.cells #[.int .i64 c.k, .int .i64 c.x, .int .i64 c.y, .bool c.q, .slice a0 c.l0.length c0, .slice a1 c.l1.length c1, .slice a2 c.l2.length c2, .slice a3 c.l3.length c3, .slice aA c.A.length cA, .slice aB c.B.length cB] 59)).alloc (.cells #[.int .i64 c.k, .int .i64 c.x, .int .i64 c.y, .bool c.q, .slice d0 c.l0.length g0, .slice d1 c.l1.length g1, .slice d2 c.l2.length g2, .slice d3 c.l3.length g3, .slice dA c.A.length gA, .slice dB c.B.length gB] 59)) := ((Below.refl _ _).alloc (Nat.le_refl _) _).alloc (by simp) _
  simp only [World.size_alloc] at D0
  go_enter Try.func49, Try.ntmps49
  go_wp2_with fail
  refine (eqAsn_same _ _ _ _ _ _ _ _ _ _ _ _ _ _ _ _ _ _ _ _ _ F.n0 F.n1 F.n2 F.n3 (by exact V.p0.prow L0 hh) (by exact V.p1.prow L0 hh) (by exact V.p2.prow L0 hh) (by exact V.p3.prow L0 hh) (by exact U.p0.prow L0 hh') (by exact U.p1.prow L0 hh') (by exact U.p2.prow L0 hh') (by exact U.p3.prow L0 hh')).mono ?_
  rintro e w1 ⟨rfl, hb⟩
  have A1 := A0.below hb A0.lt; have D1 := D0.below hb D0.lt; have L1 := L0.trans (hb.mono L0.size)
  clear hb A0 D0 L0
  have x8 := A1.c8; have y8 := D1.c8
  go_wp2_with fail
  clear x8 y8
  refine (HA _ _ _ _ _ _ _ _ _ (by exact V.rA.below L1 hh) (by exact U.rA.below L1 hh') (by exact Nat.le_trans hh L1.size) (by exact Nat.le_trans hh' L1.size) F.nA).mono ?_
  rintro e w2 ⟨rfl, hb⟩
  have A2 := A1.below hb A1.lt; have D2 := D1.below hb D1.lt; have L2 := L1.trans (hb.mono L1.size)
  clear hb A1 D1 L1
  have x9 := A2.c9; have y9 := D2.c9
  go_wp2_with fail
  clear x9 y9
  refine (HB _ _ _ _ _ _ _ _ _ (by exact V.rB.below L2 hh) (by exact U.rB.below L2 hh') (by exact Nat.le_trans hh L2.size) (by exact Nat.le_trans hh' L2.size) F.nB).mono ?_
  rintro e w3 ⟨rfl, hb⟩
  have L3 := L2.trans (hb.mono L2.size)
  clear hb A2 D2 L2
  go_wp2
  go_ret
  exact ⟨rfl, L3⟩

set_option maxHeartbeats 1000000 in
theorem eqCmdS_any : ∀ l : List Cm, EqS l := by
  refine Cm.ind fun l ih => ?_
  intro w lo hi lo' hi' a a' cap cap' hr hr' hh hh' hs
  obtain ⟨hm, hr⟩ := hr
  obtain ⟨hm', hr'⟩ := hr'
  have hn : l.length ≤ 1048576 := Nat.le_trans (len_le_cnts l) hs
  have HCELL : Hid (∀ k, k < l.length → ∃ b o, a = some ⟨b, o, none⟩ ∧ lo ≤ b ∧ b < hi ∧ CAt w lo hi b (o + k * 10) (l.getD k Cm.zero)) := by
    intro k hk
    rcases hr with rfl | ⟨b, o, rfl, g1, g2, hc⟩
    · simp at hk
    · exact ⟨b, o, rfl, g1, g2, hc.get k hk⟩
  have HCELL' : Hid (∀ k, k < l.length → ∃ b o, a' = some ⟨b, o, none⟩ ∧ lo' ≤ b ∧ b < hi' ∧ CAt w lo' hi' b (o + k * 10) (l.getD k Cm.zero)) := by
    intro k hk
    rcases hr' with rfl | ⟨b, o, rfl, g1, g2, hc⟩
    · simp at hk
    · exact ⟨b, o, rfl, g1, g2, hc.get k hk⟩
  clear hr hr'
  have HIH : Hid (∀ k, k < l.length → EqS (l.getD k Cm.zero).A ∧ EqS (l.getD k Cm.zero).B ∧ (l.getD k Cm.zero).cnt ≤ 1048576) := fun k hk => ⟨(ih _ (mem_getD hk)).1, (ih _ (mem_getD hk)).2, by have := cnt_le_cnts hk; omega⟩
  clear ih hs hm hm'
  generalize hN : l.length = n at *
  clear hN
  go_enter Try.func54, Try.ntmps54
  go_wp2
  go_loopw [5] (fun i wr => ∃ k : Nat, k ≤ n ∧ i = .int .i64 k ∧ Below w.heap.size w wr) (fun i _ => n - (intOf i).toNat)
  case atStart => exact ⟨0, Nat.zero_le _, rfl, Below.refl _ _⟩
  case round =>
    obtain ⟨k, hk, rfl, hbw⟩ := hrel
    by_cases hlt : k < n
    · obtain ⟨b, o, rfl, e1, e2, hc⟩ := HCELL.out k hlt
      obtain ⟨b', o', rfl, e1', e2', hc'⟩ := HCELL'.out k hlt
      obtain ⟨HA', HB', hcn⟩ := HIH.out k hlt
      obtain ⟨a0, a1, a2, a3, aA, aB, c0, c1, c2, c3, cA, cB, X, V⟩ := hc.out
      obtain ⟨d0, d1, d2, d3, dA, dB, g0, g1, g2, g3, gA, gB, Y, U⟩ := hc'.out
      clear hc hc'
      generalize l.getD k Cm.zero = c at *
      replace X := X.below hbw (by omega)
      replace V := V.below hbw hh
      replace Y := Y.below hbw (by omega)
      replace U := U.below hbw hh'
      have x0 := X.e0; have x1 := X.e1; have x2 := X.e2; have x3 := X.e3; have x4 := X.e4; have x5 := X.e5; have x6 := X.e6; have x7 := X.e7; have x8 := X.e8; have x9 := X.e9
      have y0 := Y.e0; have y1 := Y.e1; have y2 := Y.e2; have y3 := Y.e3; have y4 := Y.e4; have y5 := Y.e5; have y6 := Y.e6; have y7 := Y.e7; have y8 := Y.e8; have y9 := Y.e9
      clear X Y
      have hkn : (k : Int) < (n : Int) := by omega
      have VD := V.below (Below.refl wr.heap.size wr).drew (Nat.le_trans hh hbw.size)
      have UD := U.below (Below.refl wr.heap.size wr).drew (Nat.le_trans hh' hbw.size)
      have q1 : hi ≤ wr.drew.heap.size := Nat.le_trans hh hbw.size
      have q2 : hi' ≤ wr.drew.heap.size := Nat.le_trans hh' hbw.size
      clear V U
      go_wp2
      go_region_with (go_at_call 49; refine (eqCmd_of HA' HB' _ _ _ _ _ _ _ _ _ _ _ _ _ _ _ _ _ _ _ _ _ _ _ _ _ _ _ _ _ VD UD q1 q2 hcn).mono ?_; rintro e w1 ⟨rfl, hb1⟩)
      all_goals
        have hb2 : Below w.heap.size w w1 := hbw.drew.trans (hb1.mono (by simpa using hbw.size))
        clear x0 x1 x2 x3 x4 x5 x6 x7 x8 x9 y0 y1 y2 y3 y4 y5 y6 y7 y8 y9 hb1
        go_wp2
        go_roundw
        case rel => exact ⟨k + 1, by omega, by go_num, hb2⟩
        case measure => simp [intOf]; omega
    · go_wp2
      go_ret
      exact ⟨rfl, hbw⟩

end Go.Proofs.Ytccldjodijdciaa
