/-
  The contract of impl.Lengths.
-/
import Derived.Test.YtmaimklfldeimaaLn
namespace Go.Proofs.Ytmaimklfldeimaa
open Go.RowKit Go.Maps

set_option maxRecDepth 100000 in
set_option maxHeartbeats 2000000 in
theorem iLengths_any (b0 b1 c0 c1 : Nat) (t hv : List Int) (e0 e1 e2 e3 f0 f1 f2 f3 : Nat) (l0 l1 l2 l3 : List (Int × Int)) (w : World) (n0 : t.length ≤ 1048576) (n1 : hv.length ≤ 1048576) (j0 : l0.length ≤ 1048576) (j1 : l1.length ≤ 1048576) (j2 : l2.length ≤ 1048576) (j3 : l3.length ≤ 1048576) (o0 : OwnI w b0 t.length t t.length) (o1 : OwnI w b1 hv.length hv hv.length) (p0 : Q.Own w e0 l0.length l0 l0.length) (p1 : Q.Own w e1 l1.length l1 l1.length) (p2 : Q.Own w e2 l2.length l2 l2.length) (p3 : Q.Own w e3 l3.length l3 l3.length) :
    Calls Try.prog 64 #[.agg #[.slice (some ⟨b0, 0, none⟩) t.length c0, .slice (some ⟨b1, 0, none⟩) hv.length c1], .agg #[.slice (some ⟨e0, 0, none⟩) l0.length f0, .slice (some ⟨e1, 0, none⟩) l1.length f1, .slice (some ⟨e2, 0, none⟩) l2.length f2, .slice (some ⟨e3, 0, none⟩) l3.length f3]] w fun e w' => ∃ a c, e = .returned (.slice a (lenO t hv l0 l1 l2 l3).length c) ∧ IntIn w' w.heap.size w'.heap.size a (lenO t hv l0 l1 l2 l3).length (lenO t hv l0 l1 l2 l3) ∧ Below w.heap.size w w' := by
  have B0 := (Box.new w (.slice (some ⟨b0, 0, none⟩) t.length c0) (.slice (some ⟨b1, 0, none⟩) hv.length c1) 44).alloc (.cells #[.slice (some ⟨e0, 0, none⟩) l0.length f0, .slice (some ⟨e1, 0, none⟩) l1.length f1, .slice (some ⟨e2, 0, none⟩) l2.length f2, .slice (some ⟨e3, 0, none⟩) l3.length f3] 28)
  have A0 := Q.Box.new (w.alloc (.cells #[.slice (some ⟨b0, 0, none⟩) t.length c0, .slice (some ⟨b1, 0, none⟩) hv.length c1] 44)) (.slice (some ⟨e0, 0, none⟩) l0.length f0) (.slice (some ⟨e1, 0, none⟩) l1.length f1) (.slice (some ⟨e2, 0, none⟩) l2.length f2) (.slice (some ⟨e3, 0, none⟩) l3.length f3) 28
  rw [World.size_alloc] at A0
  have L0 : Below w.heap.size w ((w.alloc (.cells #[.slice (some ⟨b0, 0, none⟩) t.length c0, .slice (some ⟨b1, 0, none⟩) hv.length c1] 44)).alloc (.cells #[.slice (some ⟨e0, 0, none⟩) l0.length f0, .slice (some ⟨e1, 0, none⟩) l1.length f1, .slice (some ⟨e2, 0, none⟩) l2.length f2, .slice (some ⟨e3, 0, none⟩) l3.length f3] 28)) := ((Below.refl _ _).alloc (Nat.le_refl _) _).alloc (by simp) _
  replace o0 := o0.keep L0; replace o1 := o1.keep L0; replace p0 := p0.below L0 p0.1; replace p1 := p1.below L0 p1.1; replace p2 := p2.below L0 p2.1; replace p3 := p3.below L0 p3.1
  have hc := iHolds_any b0 b1 c0 c1 t hv e0 e1 e2 e3 f0 f1 f2 f3 l0 l1 l2 l3 _ n0 n1 j0 j1 j2 j3 o0 o1 p0 p1 p2 p3
  go_enter Try.func64, Try.ntmps64
  go_wp2_with fail
  generalize ((w.alloc (.cells #[.slice (some ⟨b0, 0, none⟩) t.length c0, .slice (some ⟨b1, 0, none⟩) hv.length c1] 44)).alloc (.cells #[.slice (some ⟨e0, 0, none⟩) l0.length f0, .slice (some ⟨e1, 0, none⟩) l1.length f1, .slice (some ⟨e2, 0, none⟩) l2.length f2, .slice (some ⟨e3, 0, none⟩) l3.length f3] 28)) = W0 at *
  refine hc.mono ?_
  rintro e w1 ⟨rfl, hb⟩
  replace B0 := B0.keep hb; replace A0 := A0.below hb A0.lt; replace o0 := o0.keep hb; replace o1 := o1.keep hb; replace p0 := p0.below hb p0.1; replace p1 := p1.below hb p1.1; replace p2 := p2.below hb p2.1; replace p3 := p3.below hb p3.1; replace L0 := L0.trans (hb.mono L0.size)
  clear hb hc
  have z0 := B0.c0; have z1 := B0.c1; have y0 := A0.c0; have y1 := A0.c1; have y2 := A0.c2; have y3 := A0.c3
  cases hh0 : holdsV t hv l0 l1 l2 l3
  · have HV : Hid (lenO t hv l0 l1 l2 l3 = []) := lenO_no (hh0)
    go_wp2
    go_ret
    rw [HV.out]
    exact ⟨none, 0, rfl, ⟨rfl, .inl rfl⟩, L0⟩
  · have hh1 := hh0
    unfold holdsV at hh1
    simp only [Bool.and_eq_true] at hh1
    obtain ⟨hs, hq, hh⟩ := hh1
    obtain ⟨t0, t1, t2, t3, m0, m1, m2, m3⟩ := asnB_true hq
    have HO : Hid (lenO t hv l0 l1 l2 l3 = lenK t hv l3 l3.length) := lenO_yes (by unfold holdsV; rw [hs, hq, hh]; rfl)
    have HSP : Hid (∀ k, k < l3.length → (seg hv 7 (tv t (l3.getD k (0, 0)).1) (tv t (l3.getD k (0, 0)).2)).isSome = true) := by
      have h2 : spaceV t hv l2 l3 = true := by unfold holdsB at hh; simp only [Bool.and_eq_true] at hh; exact hh.2
      exact fun k hk => seg_of_space h2 hk
    obtain ⟨⟨e16, -, ht⟩, e7, eh0, hr⟩ := sOk_true hs
    have HR : Hid (∀ i, i < 7 → -1 ≤ hv.getD i 0 ∧ hv.getD i 0 ≤ 6) := hr
    have HTR : Hid (∀ i, i < 16 → 0 ≤ t.getD i 0 ∧ t.getD i 0 ≤ 6) := ht
    have E7 : Hid (hv.length = 7) := e7
    have E16 : Hid (t.length = 16) := e16
    have E0 : Hid (hv.getD 0 0 = -1) := eh0
    have K3 : Hid (Q.toks l3 = true) := t3
    have hc := heapOf_any b1 c1 hv w1 n1 (sOk_heap hs) o1
    clear hr ht e7 e16 eh0 t0 t1 t2 t3 hq hh hh0 y0 y1 y2 z0 hs
    go_wp2_with fail
    refine hc.mono ?_
    rintro e w2 ⟨rfl, hm, hb⟩
    replace B0 := B0.keep hb; replace A0 := A0.below hb A0.lt; replace o0 := o0.keep hb; replace o1 := o1.keep hb; replace p0 := p0.below hb p0.1; replace p1 := p1.below hb p1.1; replace p2 := p2.below hb p2.1; replace p3 := p3.below hb p3.1; replace L0 := L0.trans (hb.mono L0.size)
    rw [E7.out] at hm
    clear hb hc z1 y3
    have a0 := A0.c3
    obtain ⟨i0, hi, hz0, hz1, hz2⟩ := Try.i3
    go_wp2
    clear a0
    go_loopw [6, 8, 9, 21] (fun v _ _ i wr => ∃ k : Nat, k ≤ l3.length ∧ i = .int .i64 k ∧ wr.ownsRow w2.heap.size 3 1 v (lenK t hv l3 k).length (ic (lenK t hv l3 k)) ∧ Below w2.heap.size w2 wr) (fun _ _ _ i _ => l3.length - (intOf i).toNat)
    case atStart => exact ⟨0, by omega, rfl, by rw [show lenK t hv l3 0 = [] from rfl]; exact World.ownsRow_nil _ _ _ _, Below.refl _ _⟩
    case round =>
      obtain ⟨k, hk, rfl, hown, hbw⟩ := hrel
      obtain ⟨sa, sc, rfl, hin0⟩ := IntIn.ofOwns hown
      by_cases hlt : k < l3.length
      · clear hin0
        have hki : (k : Int) < (l3.length : Int) := by omega
        obtain ⟨hr1, hr2⟩ := toks_at K3.out hlt
        have q1 := (p3.2.2 k hlt).1
        have q2 := (p3.2.2 k hlt).2
        obtain ⟨x, ex⟩ : ∃ x : Nat, Hid ((l3.getD k (0, 0)).1 = x) := ⟨(l3.getD k (0, 0)).1.toNat, by show _ = _; omega⟩
        obtain ⟨y, ey⟩ : ∃ y : Nat, Hid ((l3.getD k (0, 0)).2 = y) := ⟨(l3.getD k (0, 0)).2.toNat, by show _ = _; omega⟩
        rw [ex.out] at q1 hr1
        rw [ey.out] at q2 hr2
        have q3 := o0.2.2 x (by have := E16.out; omega)
        have q4 := o0.2.2 y (by have := E16.out; omega)
        have rz := HTR.out x (by omega)
        have rv := HTR.out y (by omega)
        obtain ⟨z, ez⟩ : ∃ z, Hid (t.getD x 0 = z) := ⟨_, rfl⟩
        obtain ⟨v, ev⟩ : ∃ v, Hid (t.getD y 0 = v) := ⟨_, rfl⟩
        rw [ez.out] at q3 rz
        rw [ev.out] at q4 rv
        have hx16 : (x : Int) < (t.length : Int) := by have := E16.out; omega
        have hy16 : (y : Int) < (t.length : Int) := by have := E16.out; omega
        have TZ : Hid (tv t (l3.getD k (0, 0)).1 = z) := by show tv t _ = z; rw [ex.out]; unfold tv; rw [Int.toNat_natCast]; exact ez.out
        have TV : Hid (tv t (l3.getD k (0, 0)).2 = v) := by show tv t _ = v; rw [ey.out]; unfold tv; rw [Int.toNat_natCast]; exact ev.out
        have HF : Hid (lenK t hv l3 (k + 1) = lenK t hv l3 k ++ [((segL hv z v).length : Int)]) := by
          show lenK t hv l3 (k + 1) = _
          rw [lenK_snoc hlt]
          unfold segN
          rw [TZ.out, TV.out]
        replace q1 := cell_keep q1 hbw; replace q2 := cell_keep q2 hbw; replace q3 := cell_keep q3 hbw; replace q4 := cell_keep q4 hbw
        have z0 := cell_keep B0.c0 hbw
        have hle := lenK_le t hv l3 k
        have wz : (Lit.int .i64 z).wf = true := WalkArith.wf_i64 (by omega)
        have hb1 := hbw.alloc hbw.size (.cells #[.int .i64 (x : Int), .int .i64 (y : Int)] 81)
        have pb := (Below.refl wr.heap.size wr).alloc (Nat.le_refl _) (.cells #[.int .i64 (x : Int), .int .i64 (y : Int)] 81)
        have hm1 := (hm.keep hbw).keep pb
        have n0 : (wr.alloc (.cells #[.int .i64 (x : Int), .int .i64 (y : Int)] 81)).cell? ⟨wr.heap.size, 0, none⟩ = some (.int .i64 x) := by simp
        have n1 : (wr.alloc (.cells #[.int .i64 (x : Int), .int .i64 (y : Int)] 81)).cell? ⟨wr.heap.size, 1, none⟩ = some (.int .i64 y) := by simp
        have q5 := cell_keep q3 pb; have q6 := cell_keep q4 pb; have z5 := cell_keep z0 pb
        have dr : Below (wr.alloc (.cells #[.int .i64 (x : Int), .int .i64 (y : Int)] 81)).heap.size (wr.alloc (.cells #[.int .i64 (x : Int), .int .i64 (y : Int)] 81)) (wr.alloc (.cells #[.int .i64 (x : Int), .int .i64 (y : Int)] 81)).drew := (Below.refl _ _).drew
        have h3 := trail_any w1.heap.size hv z v (wr.alloc (.cells #[.int .i64 (x : Int), .int .i64 (y : Int)] 81)).drew wz E0.out HR (hm1.keep dr)
        have hS0 : (wr.alloc (.cells #[.int .i64 (x : Int), .int .i64 (y : Int)] 81)).drew.cell? ⟨w.heap.size, 0, none⟩ = some (.slice (some ⟨b0, 0, none⟩) t.length c0) ∧ (wr.alloc (.cells #[.int .i64 (x : Int), .int .i64 (y : Int)] 81)).drew.cell? ⟨wr.heap.size, 0, none⟩ = some (.int .i64 (x : Int)) ∧ (wr.alloc (.cells #[.int .i64 (x : Int), .int .i64 (y : Int)] 81)).drew.cell? ⟨wr.heap.size, 1, none⟩ = some (.int .i64 (y : Int)) ∧ (wr.alloc (.cells #[.int .i64 (x : Int), .int .i64 (y : Int)] 81)).drew.cell? ⟨b0, x, none⟩ = some (.int .i64 z) ∧ (wr.alloc (.cells #[.int .i64 (x : Int), .int .i64 (y : Int)] 81)).drew.cell? ⟨b0, y, none⟩ = some (.int .i64 v) := ⟨z5, n0, n1, q5, q6⟩
        obtain ⟨T, eT⟩ : ∃ T, Hid (trl hv v 7 [] z = T) := ⟨_, rfl⟩
        have HSEG : Hid (segL hv z v = T.1) := by
          show segL hv z v = T.1
          have h1 := HSP.out k hlt
          rw [TZ.out, TV.out, seg_is E0.out, eT.out] at h1
          unfold segL
          rw [seg_is E0.out, eT.out]
          by_cases c : T.2 = v
          · rw [if_pos c]; rfl
          · rw [if_neg c] at h1; cases h1
        rw [HSEG.out] at HF
        have TL : T.1.length ≤ 7 := by rw [← eT.out]; simpa using trl_len (h := hv) (to := v) 7 [] z
        rw [eT.out] at h3
        generalize lenK t hv l3 k = ls at *
        replace hown := hown.alloc (.cells #[.int .i64 (x : Int), .int .i64 (y : Int)] 81)
        go_wp2
        clear q1 q2 q3 q4 q5 q6 z0 z5 n0 n1
        go_region_held3 (fun W => W.cell? ⟨w.heap.size, 0, none⟩ = some (.slice (some ⟨b0, 0, none⟩) t.length c0) ∧ W.cell? ⟨wr.heap.size, 0, none⟩ = some (.int .i64 (x : Int)) ∧ W.cell? ⟨wr.heap.size, 1, none⟩ = some (.int .i64 (y : Int)) ∧ W.cell? ⟨b0, x, none⟩ = some (.int .i64 z) ∧ W.cell? ⟨b0, y, none⟩ = some (.int .i64 v))
          (first | exact hS0 | assumption | (refine ⟨?_, ?_, ?_, ?_, ?_⟩ <;> assumption))
          (first | (go_at_call 93; refine h3.mono ?_; rintro e w5 ⟨ag, cg, rfl, hin, hb5⟩; have hS9 : w5.cell? ⟨w.heap.size, 0, none⟩ = some (.slice (some ⟨b0, 0, none⟩) t.length c0) ∧ w5.cell? ⟨wr.heap.size, 0, none⟩ = some (.int .i64 (x : Int)) ∧ w5.cell? ⟨wr.heap.size, 1, none⟩ = some (.int .i64 (y : Int)) ∧ w5.cell? ⟨b0, x, none⟩ = some (.int .i64 z) ∧ w5.cell? ⟨b0, y, none⟩ = some (.int .i64 v) := ⟨cell_keep hS0.1 hb5, cell_keep hS0.2.1 hb5, cell_keep hS0.2.2.1 hb5, cell_keep hS0.2.2.2.1 hb5, cell_keep hS0.2.2.2.2 hb5⟩))
        all_goals
          replace hown := row_keep (w := (wr.alloc (.cells #[.int .i64 (x : Int), .int .i64 (y : Int)] 81)).drew) hown hb5
          have hb9 := hb1.drew.trans (hb5.mono hb1.size)
          clear hS0 hS9 h3 hb5 hm1 hb1 pb hbw hin dr
          go_wp2_with (at_builtin; refine wpList_append_own _ rfl _ _ 39 rfl w2.heap.size 3 i0 (.int .i64 0) 1 8 Try.underlying39 hi hz0 hz1 hz2 rfl (by decide) _ _ _ rfl (hown.alloc _) ⟨w5.heap.size, 0, none⟩ 1 1 [.int .i64 ((T.1.length : Nat) : Int)] rfl rfl ?c1 ?c2 ?c3 ?c4 ?c5 ?_)
          try case c1 =>
            intro j u hj
            match j, hj with
            | 0, hj => simp at hj; subst hj; simp [Addr.add]
          try case c2 => first | rfl | (intro u hu; simp at hu; subst hu; rfl)
          case c3 => unfold maxLen; omega
          case c4 => omega
          case c5 => have := hb9.size; simp; omega
          · intro v' w4 hown' hg hiff
            have hb2 := (hb9.alloc hb9.size _).grown hg (Nat.le_trans hb9.size (by simp)) (by intro q hq; exact (hown.lt q hq).1)
            clear hiff hg hown hb9
            go_wp2
            go_roundw
            case rel => exact ⟨k + 1, by omega, by go_num, by rw [HF.out]; simpa [ic] using hown', hb2⟩
            case measure => simp [intOf]; omega
      · obtain rfl : k = l3.length := by omega
        have hki : ¬ ((l3.length : Int) < (l3.length : Int)) := by omega
        have L4 := L0.trans (hbw.mono L0.size)
        go_wp2
        go_ret
        rw [HO.out]
        first | exact ⟨sa, ⟨sc, rfl⟩, hin0.mono L0.size (Nat.le_refl _), L4⟩ | exact ⟨sa, sc, rfl, hin0.mono L0.size (Nat.le_refl _), L4⟩

end Go.Proofs.Ytmaimklfldeimaa
