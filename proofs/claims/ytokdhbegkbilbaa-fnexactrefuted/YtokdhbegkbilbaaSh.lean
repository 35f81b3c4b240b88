/-
  The contract of impl.spaceHolds.
-/
import Derived.Test.YtokdhbegkbilbaaSpc
import Derived.BigQuiet
import Derived.Test.YtokdhbegkbilbaaSoI
namespace Go.Proofs.Ytokdhbegkbilbaa
open Go.RowKit Go.Maps

theorem getD_mem2 {l : List Int} {i : Nat} (h : i < l.length) : l.getD i 0 ∈ l := by
  simp [h]

theorem cell_outS {lo hi : Nat} {W u : World} {b o : Nat} {v : Value} (h : W.cell? ⟨b, o, none⟩ = some v) (ho : Out lo hi W u) (hr : b < lo ∨ hi ≤ b) : u.cell? ⟨b, o, none⟩ = some v := by
  rw [World.cell?_of_block (w := W) (ho.block b (World.block_lt_of_cell? _ _ h) hr)]; exact h

set_option maxRecDepth 100000 in
set_option maxHeartbeats 800000 in
theorem spaceHolds_any (b0 b1 c0 c1 : Nat) (t hv : List Int) (e0 e1 e2 e3 f0 f1 f2 f3 : Nat) (l0 l1 l2 l3 : List (Int × Int)) (w : World) (hs : sOk t hv = true) (m2 : l2.length ≤ 12) (m3 : l3.length ≤ 12) (k2 : Q.toks l2 = true) (k3 : Q.toks l3 = true) (o0 : OwnI w b0 t.length t t.length) (o1 : OwnI w b1 hv.length hv hv.length) (p0 : Q.Own w e0 l0.length l0 l0.length) (p1 : Q.Own w e1 l1.length l1 l1.length) (p2 : Q.Own w e2 l2.length l2 l2.length) (p3 : Q.Own w e3 l3.length l3 l3.length) :
    Calls Try.prog 102 #[.agg #[.slice (some ⟨b0, 0, none⟩) t.length c0, .slice (some ⟨b1, 0, none⟩) hv.length c1], .agg #[.slice (some ⟨e0, 0, none⟩) l0.length f0, .slice (some ⟨e1, 0, none⟩) l1.length f1, .slice (some ⟨e2, 0, none⟩) l2.length f2, .slice (some ⟨e3, 0, none⟩) l3.length f3]] w fun e w' => e = .returned (.bool (spaceV t hv l2 l3)) ∧ Below w.heap.size w w' := by
  have hmm := @run_makeMap Try.prog
  have B0 := (Box.new w (.slice (some ⟨b0, 0, none⟩) t.length c0) (.slice (some ⟨b1, 0, none⟩) hv.length c1) 44).alloc (.cells #[.slice (some ⟨e0, 0, none⟩) l0.length f0, .slice (some ⟨e1, 0, none⟩) l1.length f1, .slice (some ⟨e2, 0, none⟩) l2.length f2, .slice (some ⟨e3, 0, none⟩) l3.length f3] 28)
  have A0 := Q.Box.new (w.alloc (.cells #[.slice (some ⟨b0, 0, none⟩) t.length c0, .slice (some ⟨b1, 0, none⟩) hv.length c1] 44)) (.slice (some ⟨e0, 0, none⟩) l0.length f0) (.slice (some ⟨e1, 0, none⟩) l1.length f1) (.slice (some ⟨e2, 0, none⟩) l2.length f2) (.slice (some ⟨e3, 0, none⟩) l3.length f3) 28
  rw [World.size_alloc] at A0
  have L0 : Below w.heap.size w ((w.alloc (.cells #[.slice (some ⟨b0, 0, none⟩) t.length c0, .slice (some ⟨b1, 0, none⟩) hv.length c1] 44)).alloc (.cells #[.slice (some ⟨e0, 0, none⟩) l0.length f0, .slice (some ⟨e1, 0, none⟩) l1.length f1, .slice (some ⟨e2, 0, none⟩) l2.length f2, .slice (some ⟨e3, 0, none⟩) l3.length f3] 28)) := ((Below.refl _ _).alloc (Nat.le_refl _) _).alloc (by simp) _
  replace o0 := o0.keep L0; replace o1 := o1.keep L0; replace p0 := p0.below L0 p0.1; replace p1 := p1.below L0 p1.1; replace p2 := p2.below L0 p2.1; replace p3 := p3.below L0 p3.1
  obtain ⟨⟨e16, -, ht⟩, e7, eh0, hr⟩ := sOk_true hs
  have HR : Hid (∀ i, i < 7 → -1 ≤ hv.getD i 0 ∧ hv.getD i 0 ≤ 6) := hr
  have HTR : Hid (∀ i, i < 16 → 0 ≤ t.getD i 0 ∧ t.getD i 0 ≤ 6) := ht
  have E7 : Hid (hv.length = 7) := e7
  have E16 : Hid (t.length = 16) := e16
  have E0 : Hid (hv.getD 0 0 = -1) := eh0
  have K2 : Hid (Q.toks l2 = true) := k2
  have K3 : Hid (Q.toks l3 = true) := k3
  have hc := heapOf_any b1 c1 hv _ (by omega) (sOk_heap hs) o1
  clear hr ht e7 e16 eh0 k2 k3 hs
  have bl := B0.lt; have al := A0.lt
  have zz := B0.c1
  go_enter Try.func102, Try.ntmps102
  go_wp2_with fail
  generalize ((w.alloc (.cells #[.slice (some ⟨b0, 0, none⟩) t.length c0, .slice (some ⟨b1, 0, none⟩) hv.length c1] 44)).alloc (.cells #[.slice (some ⟨e0, 0, none⟩) l0.length f0, .slice (some ⟨e1, 0, none⟩) l1.length f1, .slice (some ⟨e2, 0, none⟩) l2.length f2, .slice (some ⟨e3, 0, none⟩) l3.length f3] 28)) = W0 at *
  refine hc.mono ?_
  rintro e w2 ⟨rfl, hm, hb⟩
  have hml := hm.lt
  rw [E7.out] at hm
  have s2 := HS.made w2
  have ab : Below w2.heap.size w2 (w2.alloc (.map #[] 0)) := (Below.refl _ _).alloc (Nat.le_refl _) _
  replace hm := hm.keep ab
  have hbw0 := hb.trans (ab.mono hb.size)
  have sz2 := hb.size
  have z2 := cell_keep A0.c2 hbw0
  clear hb ab hc zz
  go_wp2
  clear z2
  have HA2 : Hid (l2.take l2.length = l2) := List.take_length
  have HA3 : Hid (l3.take l3.length = l3) := List.take_length
  have b0l := o0.1
  go_loopw [8, 9, 24] (fun _ _ i wr => ∃ (k : Nat) (SS : List Int), k ≤ l2.length ∧ i = .int .i64 k ∧ HS wr w2.heap.size SS.length (fun q => decide (q ∈ SS)) ∧ HM wr W0.heap.size 7 (hp hv 7) ∧ Below W0.heap.size W0 wr ∧ Hid (cellsV t hv (l2.take k) = some SS ∧ SS.Nodup ∧ (∀ q ∈ SS, okp hv q = true) ∧ SS.length ≤ 6)) (fun _ _ i _ => l2.length - (intOf i).toNat)
  case atStart => exact ⟨0, [], by omega, rfl, by simpa using s2, hm, hbw0, ⟨rfl, by simp, by simp, by simp⟩⟩
  case round =>
    clear s2 hm hbw0
    obtain ⟨k, SS, hk, rfl, hS, hm, hbw, HI⟩ := hrel
    by_cases hlt : k < l2.length
    · have hki : (k : Int) < (l2.length : Int) := by omega
      obtain ⟨hr1, hr2⟩ := toks_at K2.out hlt
      have q1 := (p2.2.2 k hlt).1
      have q2 := (p2.2.2 k hlt).2
      obtain ⟨x, ex⟩ : ∃ x : Nat, Hid ((l2.getD k (0, 0)).1 = x) := ⟨(l2.getD k (0, 0)).1.toNat, by show _ = _; omega⟩
      obtain ⟨y, ey⟩ : ∃ y : Nat, Hid ((l2.getD k (0, 0)).2 = y) := ⟨(l2.getD k (0, 0)).2.toNat, by show _ = _; omega⟩
      rw [ex.out] at q1 hr1
      rw [ey.out] at q2 hr2
      have q3 := o0.2.2 x (by have := E16.out; omega)
      have q4 := o0.2.2 y (by have := E16.out; omega)
      have rz := HTR.out x (by omega)
      have rv := HTR.out y (by omega)
      obtain ⟨z, ez⟩ : ∃ z, Hid (t.getD x 0 = z) := ⟨_, rfl⟩
      obtain ⟨v, ev⟩ : ∃ v, Hid (t.getD y 0 = v) := ⟨_, rfl⟩
      rw [ez.out] at q3 rz
      rw [ev.out] at q4 rv
      have hx16 : (x : Int) < (t.length : Int) := by have := E16.out; omega
      have hy16 : (y : Int) < (t.length : Int) := by have := E16.out; omega
      have TZ : Hid (tv t (l2.getD k (0, 0)).1 = z) := by show tv t _ = z; rw [ex.out]; unfold tv; rw [Int.toNat_natCast]; exact ez.out
      have TV : Hid (tv t (l2.getD k (0, 0)).2 = v) := by show tv t _ = v; rw [ey.out]; unfold tv; rw [Int.toNat_natCast]; exact ev.out
      have wz : (Lit.int .i64 z).wf = true := WalkArith.wf_i64 (by omega)
      replace q1 := cell_keep q1 hbw; replace q2 := cell_keep q2 hbw; replace q3 := cell_keep q3 hbw; replace q4 := cell_keep q4 hbw
      have z0 := cell_keep B0.c0 hbw
      have hb1 := hbw.alloc hbw.size (.cells #[.int .i64 (x : Int), .int .i64 (y : Int)] 84)
      have pb := (Below.refl wr.heap.size wr).alloc (Nat.le_refl _) (.cells #[.int .i64 (x : Int), .int .i64 (y : Int)] 84)
      have hm1 := hm.keep pb
      have hS1 := hS.keep pb
      have n0 : (wr.alloc (.cells #[.int .i64 (x : Int), .int .i64 (y : Int)] 84)).cell? ⟨wr.heap.size, 0, none⟩ = some (.int .i64 x) := by simp
      have n1 : (wr.alloc (.cells #[.int .i64 (x : Int), .int .i64 (y : Int)] 84)).cell? ⟨wr.heap.size, 1, none⟩ = some (.int .i64 y) := by simp
      have q5 := cell_keep q3 pb; have q6 := cell_keep q4 pb; have z5 := cell_keep z0 pb
      have szw := Nat.lt_of_lt_of_le hS.lt (Nat.le_refl _)
      have hCS : Hid (cellsV t hv (l2.take (k + 1)) = if okp hv z = true ∧ gn hv z = v ∧ z ∉ SS then some (SS ++ [z]) else none) := by
        show cellsV t hv (l2.take (k + 1)) = _
        rw [cells_at hlt, HI.out.1]
        show (if okp hv (tv t (l2.getD k (0, 0)).1) = true ∧ gn hv (tv t (l2.getD k (0, 0)).1) = tv t (l2.getD k (0, 0)).2 ∧ tv t (l2.getD k (0, 0)).1 ∉ SS then some (SS ++ [tv t (l2.getD k (0, 0)).1]) else none) = _
        rw [TZ.out, TV.out]
      go_wp2
      clear q1 q2 q3 q4 z0 n0
      generalize wr.heap.size = bP at *
      generalize (wr.alloc (.cells #[.int .i64 (x : Int), .int .i64 (y : Int)] 84)) = W1 at *
      have hbd : Below W1.heap.size W1 W1.drew := (Below.refl _ _).drew
      replace hm1 := hm1.keep hbd
      replace hS1 := hS1.keep hbd
      have hb0 := hb1
      replace hb1 := hb1.drew
      have ct := there_any W0.heap.size 7 _ z W1.drew wz hm1
      have ctq := fun n => there_any W0.heap.size 7 _ z (W1.drewN n) wz (hm1.block (w' := W1.drewN n) rfl)
      have hbN : ∀ n, Below W0.heap.size W0 (W1.drewN n) := fun n => hb0.trans ⟨rfl, rfl, rfl, Nat.le_refl _, fun _ _ => rfl⟩
      have HV0 : Hid (cellsV t hv (l2.take (k + 1)) = none → spaceV t hv l2 l3 = false) := fun h => space_cells (cells_dead h)
      clear hbd pb
      cases hk : okp hv z
      · have hk2 : (hp hv 7 z).isSome = false := hk
        rw [hk2] at ct
        simp only [hk2] at ctq
        have HV : Hid (spaceV t hv l2 l3 = false) := HV0.out (by rw [hCS.out, if_neg (fun q => by rw [hk] at q; cases q.1)])
        have hS0 : W1.drew.cell? ⟨w.heap.size, 0, none⟩ = some (.slice (some ⟨b0, 0, none⟩) t.length c0) ∧ W1.drew.cell? ⟨bP, 1, none⟩ = some (.int .i64 (y : Int)) ∧ W1.drew.cell? ⟨b0, y, none⟩ = some (.int .i64 v) := ⟨z5, n1, q6⟩
        clear z5 n1 q6 q5 hk hk2
        clear hS0
        go_quiet (first | (go_at_call 104; refine Calls.quiet_of_same (ctq _)))
        all_goals
          go_wp2
          go_ret
          exact ⟨ret_bool HV.out.symm, by first | exact L0.trans (hb1.mono L0.size) | exact L0.trans ((hbN _).mono L0.size)⟩
      · have hk2 : (hp hv 7 z).isSome = true := hk
        obtain ⟨kk1, kk2, kk3, kk4⟩ := okp_at E0.out hk
        rw [hk2] at ct
        simp only [hk2] at ctq
        have HK : Hid (okp hv z = true) := hk
        have hlook := hm1.look wz kk3
        obtain ⟨u, eu⟩ : ∃ u, Hid (gn hv z = u) := ⟨_, rfl⟩
        rw [eu.out] at hlook
        have hS0 : W1.drew.cell? ⟨w.heap.size, 0, none⟩ = some (.slice (some ⟨b0, 0, none⟩) t.length c0) ∧ W1.drew.cell? ⟨bP, 1, none⟩ = some (.int .i64 (y : Int)) ∧ W1.drew.cell? ⟨b0, y, none⟩ = some (.int .i64 v) ∧ (Instr.lookup 93 (.map (some W0.heap.size)) (.int .i64 z) false).run Try.prog W1.drew = .ok (.int .i64 u) W1.drew := ⟨z5, n1, q6, hlook⟩
        have kk9 : hp hv 7 z = some u := by rw [← eu.out]; exact kk3
        clear hk hk2 kk3 kk4
        by_cases cu : u = v
        · have hca := add_any w2.heap.size SS.length _ z W1.drew wz (by have := HI.out.2.2.2; omega) hS1
          by_cases cz : z ∈ SS
          · rw [show (!decide (z ∈ SS)) = false by simp [cz]] at hca
            have HV : Hid (spaceV t hv l2 l3 = false) := HV0.out (by rw [hCS.out, if_neg (fun q => q.2.2 cz)])
            clear z5 n1 q6 q5 hlook
            go_region_held3 (fun W => W.cell? ⟨w.heap.size, 0, none⟩ = some (.slice (some ⟨b0, 0, none⟩) t.length c0) ∧ W.cell? ⟨bP, 1, none⟩ = some (.int .i64 (y : Int)) ∧ W.cell? ⟨b0, y, none⟩ = some (.int .i64 v) ∧ (Instr.lookup 93 (.map (some W0.heap.size)) (.int .i64 z) false).run Try.prog W = .ok (.int .i64 u) W)
              (first | exact hS0 | assumption | (refine ⟨?_, ?_, ?_, ?_⟩ <;> assumption))
              (first
                | (go_at_call 104; refine ct.mono ?_; rintro e wq ⟨rfl, rfl⟩)
                | (go_at_call 111; refine hca.mono ?_; rintro e wq ⟨rfl, hsq, hoq⟩; have hS9 : wq.cell? ⟨w.heap.size, 0, none⟩ = some (.slice (some ⟨b0, 0, none⟩) t.length c0) ∧ wq.cell? ⟨bP, 1, none⟩ = some (.int .i64 (y : Int)) ∧ wq.cell? ⟨b0, y, none⟩ = some (.int .i64 v) ∧ (Instr.lookup 93 (.map (some W0.heap.size)) (.int .i64 z) false).run Try.prog wq = .ok (.int .i64 u) wq := ⟨cell_outS hS0.1 hoq (by omega), cell_outS hS0.2.1 hoq (by omega), cell_outS hS0.2.2.1 hoq (by omega), (hm1.out hoq (by omega)).look wz kk9⟩))
            all_goals
              have hb9 := hb1.trans (hoq.below sz2 hb1.size)
              go_wp2
              go_ret
              exact ⟨ret_bool HV.out.symm, L0.trans (hb9.mono L0.size)⟩
          · rw [show (!decide (z ∈ SS)) = true by simp [cz]] at hca
            have hn1 := nodup_snoc HI.out.2.1 cz
            have ho1 : ∀ q ∈ SS ++ [z], okp hv q = true := fun q hq => by
              rw [List.mem_append] at hq
              rcases hq with hq | hq
              · exact HI.out.2.2.1 q hq
              · simp at hq; rw [hq]; exact HK.out
            have HI2 : Hid (cellsV t hv (l2.take (k + 1)) = some (SS ++ [z]) ∧ (SS ++ [z]).Nodup ∧ (∀ q ∈ SS ++ [z], okp hv q = true) ∧ (SS ++ [z]).length ≤ 6) :=
              ⟨by rw [hCS.out, if_pos ⟨HK.out, by rw [eu.out]; exact cu, cz⟩], hn1, ho1, okp_len E0.out hn1 ho1⟩
            have eS : (fun q => decide (q ∈ SS) || decide (q = z)) = fun q => decide (q ∈ SS ++ [z]) := by funext q; simp
            rw [eS] at hca
            have hnl : (SS ++ [z]).length = SS.length + 1 := by simp
            clear z5 n1 q6 q5 hlook cz HI eS hn1 ho1
            go_region_held3 (fun W => W.cell? ⟨w.heap.size, 0, none⟩ = some (.slice (some ⟨b0, 0, none⟩) t.length c0) ∧ W.cell? ⟨bP, 1, none⟩ = some (.int .i64 (y : Int)) ∧ W.cell? ⟨b0, y, none⟩ = some (.int .i64 v) ∧ (Instr.lookup 93 (.map (some W0.heap.size)) (.int .i64 z) false).run Try.prog W = .ok (.int .i64 u) W)
              (first | exact hS0 | assumption | (refine ⟨?_, ?_, ?_, ?_⟩ <;> assumption))
              (first
                | (go_at_call 104; refine ct.mono ?_; rintro e wq ⟨rfl, rfl⟩)
                | (go_at_call 111; refine hca.mono ?_; rintro e wq ⟨rfl, hsq, hoq⟩; have hS9 : wq.cell? ⟨w.heap.size, 0, none⟩ = some (.slice (some ⟨b0, 0, none⟩) t.length c0) ∧ wq.cell? ⟨bP, 1, none⟩ = some (.int .i64 (y : Int)) ∧ wq.cell? ⟨b0, y, none⟩ = some (.int .i64 v) ∧ (Instr.lookup 93 (.map (some W0.heap.size)) (.int .i64 z) false).run Try.prog wq = .ok (.int .i64 u) wq := ⟨cell_outS hS0.1 hoq (by omega), cell_outS hS0.2.1 hoq (by omega), cell_outS hS0.2.2.1 hoq (by omega), (hm1.out hoq (by omega)).look wz kk9⟩))
            all_goals
              have hb9 := hb1.trans (hoq.below sz2 hb1.size)
              have hm9 := hm1.out hoq (by omega)
              clear hS9 hS0
              go_wp2
              go_roundw
              case rel => exact ⟨k + 1, SS ++ [z], hlt, by go_num, by rw [hnl]; exact hsq, hm9, hb9, HI2⟩
              case measure => have := hlt; simp [intOf]; omega
        · have HV : Hid (spaceV t hv l2 l3 = false) := HV0.out (by rw [hCS.out, if_neg (fun q => by rw [eu.out] at q; exact cu q.2.1)])
          have hlq := fun n => (hm1.block (w' := W1.drewN n) rfl).look wz kk9
          have hd : decide (u = v) = false := decide_eq_false cu
          clear hS0 hlook q5
          go_quiet (first | (go_at_call 104; refine Calls.quiet_of_same (ctq _)))
          all_goals
            go_wp2
            go_ret
            exact ⟨ret_bool HV.out.symm, by first | exact L0.trans (hb1.mono L0.size) | exact L0.trans ((hbN _).mono L0.size)⟩
    · obtain rfl : k = l2.length := by omega
      have HC : Hid (cellsV t hv l2 = some SS) := by have := HI.out.1; rw [HA2.out] at this; exact this
      have z3 := cell_keep A0.c3 hbw
      have HJ : Hid (segsV t hv (some SS) (l3.take 0) = some SS ∧ SS.Nodup ∧ (∀ q ∈ SS, okp hv q = true) ∧ SS.length ≤ 6) := ⟨rfl, HI.out.2⟩
      clear HI
      go_wp2
      clear z3
      go_loopw [11, 12, 13, 14, 16, 60] (fun _ _ _ _ _ i wr => ∃ (k : Nat) (S2 : List Int), k ≤ l3.length ∧ i = .int .i64 k ∧ HS wr w2.heap.size S2.length (fun q => decide (q ∈ S2)) ∧ HM wr W0.heap.size 7 (hp hv 7) ∧ Below W0.heap.size W0 wr ∧ Hid (segsV t hv (some SS) (l3.take k) = some S2 ∧ S2.Nodup ∧ (∀ q ∈ S2, okp hv q = true) ∧ S2.length ≤ 6)) (fun _ _ _ _ _ i _ => l3.length - (intOf i).toNat)
      case atStart => exact ⟨0, SS, by omega, rfl, hS, hm, hbw, HJ⟩
      case round =>
        clear HJ hS hm hbw
        obtain ⟨k, S2, hk, rfl, hS, hm, hbw, HI⟩ := hrel
        by_cases hlt : k < l3.length
        · have hki : (k : Int) < (l3.length : Int) := by omega
          obtain ⟨hr1, hr2⟩ := toks_at K3.out hlt
          have q1 := (p3.2.2 k hlt).1
          have q2 := (p3.2.2 k hlt).2
          obtain ⟨x, ex⟩ : ∃ x : Nat, Hid ((l3.getD k (0, 0)).1 = x) := ⟨(l3.getD k (0, 0)).1.toNat, by show _ = _; omega⟩
          obtain ⟨y, ey⟩ : ∃ y : Nat, Hid ((l3.getD k (0, 0)).2 = y) := ⟨(l3.getD k (0, 0)).2.toNat, by show _ = _; omega⟩
          rw [ex.out] at q1 hr1
          rw [ey.out] at q2 hr2
          have q3 := o0.2.2 x (by have := E16.out; omega)
          have q4 := o0.2.2 y (by have := E16.out; omega)
          have rz := HTR.out x (by omega)
          have rv := HTR.out y (by omega)
          obtain ⟨z, ez⟩ : ∃ z, Hid (t.getD x 0 = z) := ⟨_, rfl⟩
          obtain ⟨v, ev⟩ : ∃ v, Hid (t.getD y 0 = v) := ⟨_, rfl⟩
          rw [ez.out] at q3 rz
          rw [ev.out] at q4 rv
          have hx16 : (x : Int) < (t.length : Int) := by have := E16.out; omega
          have hy16 : (y : Int) < (t.length : Int) := by have := E16.out; omega
          have TZ : Hid (tv t (l3.getD k (0, 0)).1 = z) := by show tv t _ = z; rw [ex.out]; unfold tv; rw [Int.toNat_natCast]; exact ez.out
          have TV : Hid (tv t (l3.getD k (0, 0)).2 = v) := by show tv t _ = v; rw [ey.out]; unfold tv; rw [Int.toNat_natCast]; exact ev.out
          have wz : (Lit.int .i64 z).wf = true := WalkArith.wf_i64 (by omega)
          replace q1 := cell_keep q1 hbw; replace q2 := cell_keep q2 hbw; replace q3 := cell_keep q3 hbw; replace q4 := cell_keep q4 hbw
          have z0 := cell_keep B0.c0 hbw
          have hb1 := hbw.alloc hbw.size (.cells #[.int .i64 (x : Int), .int .i64 (y : Int)] 84)
          have pb := (Below.refl wr.heap.size wr).alloc (Nat.le_refl _) (.cells #[.int .i64 (x : Int), .int .i64 (y : Int)] 84)
          have hm1 := hm.keep pb
          have hS1 := hS.keep pb
          have n0 : (wr.alloc (.cells #[.int .i64 (x : Int), .int .i64 (y : Int)] 84)).cell? ⟨wr.heap.size, 0, none⟩ = some (.int .i64 x) := by simp
          have n1 : (wr.alloc (.cells #[.int .i64 (x : Int), .int .i64 (y : Int)] 84)).cell? ⟨wr.heap.size, 1, none⟩ = some (.int .i64 y) := by simp
          have q5 := cell_keep q3 pb; have q6 := cell_keep q4 pb; have z5 := cell_keep z0 pb
          have szw := Nat.lt_of_lt_of_le hS.lt (Nat.le_refl _)
          have hCS : Hid (segsV t hv (some SS) (l3.take (k + 1)) = match seg hv 7 z v with | none => none | some l => if (S2 ++ l).Nodup then some (S2 ++ l) else none) := by
            show segsV t hv (some SS) (l3.take (k + 1)) = _
            rw [segs_at hlt, HI.out.1]
            show (match seg hv 7 (tv t (l3.getD k (0, 0)).1) (tv t (l3.getD k (0, 0)).2) with | none => none | some l => if (S2 ++ l).Nodup then some (S2 ++ l) else none) = _
            rw [TZ.out, TV.out]
          have HV0 : Hid (segsV t hv (some SS) (l3.take (k + 1)) = none → spaceV t hv l2 l3 = false) := fun h => space_segs HC.out (segs_dead h)
          have h3 := trail_any W0.heap.size hv z v _ wz E0.out HR hm1
          obtain ⟨T, eT⟩ : ∃ T, Hid (trl hv v 7 [] z = T) := ⟨_, rfl⟩
          have HSEG : Hid (seg hv 7 z v = if T.2 = v then some T.1 else none) := by show seg hv 7 z v = _; rw [seg_is E0.out, eT.out]
          have TL : T.1.length ≤ 7 := by rw [← eT.out]; simpa using trl_len (h := hv) (to := v) 7 [] z
          have TOK : Hid (∀ q ∈ T.1, okp hv q = true) := by show ∀ q ∈ T.1, okp hv q = true; rw [← eT.out]; exact trl_ok 7 [] z (by simp)
          rw [eT.out] at h3
          go_wp2_with fail
          refine h3.mono ?_
          rintro e w5 ⟨ag, cg, rfl, hin, hb5⟩
          have hS5 := hS1.keep hb5
          have hm5 := hm1.keep hb5
          have hbw5 := hb1.trans (hb5.mono hb1.size)
          have lo5 : w2.heap.size + 1 ≤ (wr.alloc (.cells #[.int .i64 (x : Int), .int .i64 (y : Int)] 84)).heap.size := by have := hS1.lt; omega
          generalize (wr.alloc (.cells #[.int .i64 (x : Int), .int .i64 (y : Int)] 84)).heap.size = lo at *
          clear h3 hb5 hS1 hm1 hb1 pb q1 q2 q3 q4 q5 q6 z0 z5 n0 n1 hS hm hbw
          generalize hn : T.1.length = n at *
          have HN : Hid (T.1.length = n) := hn
          clear hn
          by_cases cT : T.2 = v
          · rw [if_pos cT] at HSEG
            have HTk : Hid (∀ k, k < n → T.1.take (k + 1) = T.1.take k ++ [T.1.getD k 0]) := fun k hk => take_snoc (by rw [HN.out]; exact hk)
            have HTA : Hid (T.1.take n = T.1) := by show T.1.take n = T.1; rw [← HN.out]; exact List.take_length
            have hi5 : w5.heap.size ≤ w5.heap.size := Nat.le_refl _
            go_wp2
            generalize w5.heap.size = hi at *
            have HI3 : Hid ((S2 ++ T.1.take 0).Nodup) := by show (S2 ++ T.1.take 0).Nodup; simpa using HI.out.2.1
            go_loopw [16, 87] (fun _ i wr => ∃ j : Nat, j ≤ n ∧ i = .int .i64 j ∧ HS wr w2.heap.size (S2.length + j) (fun q => decide (q ∈ S2 ++ T.1.take j)) ∧ HM wr W0.heap.size 7 (hp hv 7) ∧ Below W0.heap.size W0 wr ∧ IntIn wr lo hi ag n T.1 ∧ Hid ((S2 ++ T.1.take j).Nodup)) (fun _ i _ => n - (intOf i).toNat)
            case atStart => exact ⟨0, by omega, rfl, by simpa using hS5, hm5, hbw5, hin, HI3⟩
            case round =>
              clear hS5 hm5 hbw5 hin HI3
              obtain ⟨j, hj, rfl, hS, hm, hbw, hin, HJ⟩ := hrel
              by_cases hjl : j < n
              · obtain ⟨-, h0 | ⟨bg, rfl, hl1, hl2, og⟩⟩ := hin
                · omega
                have hx := og.2.2 j hjl
                have hji : (j : Int) < (n : Int) := by omega
                obtain ⟨a, ea⟩ : ∃ a, Hid (T.1.getD j 0 = a) := ⟨_, rfl⟩
                rw [ea.out] at hx
                have hoka := okp_at E0.out (TOK.out a (by rw [← ea.out]; exact getD_mem2 (by rw [HN.out]; exact hjl)))
                have wa : (Lit.int .i64 a).wf = true := WalkArith.wf_i64 (by omega)
                have HE : Hid (T.1.take (j + 1) = T.1.take j ++ [a]) := by have := HTk.out j hjl; rw [ea.out] at this; exact this
                have hca := add_any w2.heap.size (S2.length + j) _ a wr wa (by have := HI.out.2.2.2; omega) hS
                by_cases ca : a ∈ S2 ++ T.1.take j
                · rw [show (!decide (a ∈ S2 ++ T.1.take j)) = false by simp [ca]] at hca
                  have HV : Hid (spaceV t hv l2 l3 = false) := HV0.out (by
                    rw [hCS.out, HSEG.out]
                    show (if (S2 ++ T.1).Nodup then some (S2 ++ T.1) else none) = none
                    refine if_neg fun hnd => ?_
                    have e1 : T.1 = T.1.take (j + 1) ++ T.1.drop (j + 1) := (List.take_append_drop _ _).symm
                    rw [e1, HE.out, ← List.append_assoc, ← List.append_assoc] at hnd
                    have := (List.nodup_append.1 (List.nodup_append.1 hnd).1).2.2 a ca a (by simp)
                    exact this rfl)
                  clear ca
                  go_wp2_with fail
                  refine hca.mono ?_
                  rintro e w6 ⟨rfl, -, ho⟩
                  have hb6 := hbw.trans (ho.below sz2 hbw.size)
                  clear hca hx og
                  go_wp2
                  go_ret
                  exact ⟨ret_bool HV.out.symm, L0.trans (hb6.mono L0.size)⟩
                · rw [show (!decide (a ∈ S2 ++ T.1.take j)) = true by simp [ca]] at hca
                  have HJ2 : Hid ((S2 ++ T.1.take (j + 1)).Nodup) := by show (S2 ++ T.1.take (j + 1)).Nodup; rw [HE.out, ← List.append_assoc]; exact nodup_snoc HJ.out ca
                  have eS : (fun q => decide (q ∈ S2 ++ T.1.take j) || decide (q = a)) = fun q => decide (q ∈ S2 ++ T.1.take (j + 1)) := by funext q; rw [HE.out]; simp [Bool.or_assoc]
                  rw [eS] at hca
                  clear ca eS
                  go_wp2_with fail
                  refine hca.mono ?_
                  rintro e w6 ⟨rfl, hS6, ho⟩
                  have hb6 := hbw.trans (ho.below sz2 hbw.size)
                  have hm6 := hm.out ho (by omega)
                  have og6 := og.out ho (by omega)
                  have hNT := HN.out
                  clear hca hx og hbw hm hS ho
                  go_wp2
                  go_roundw
                  case rel => exact ⟨j + 1, hjl, by go_num, hS6, hm6, hb6, ⟨hNT, .inr ⟨bg, rfl, hl1, hl2, og6⟩⟩, HJ2⟩
                  case measure => have := hjl; simp [intOf]; omega
              · obtain rfl : j = n := by omega
                have hlen : (S2 ++ T.1).length = S2.length + j := by rw [List.length_append, HN.out]
                have hok2 : ∀ q ∈ S2 ++ T.1, okp hv q = true := fun q hq => by
                  rw [List.mem_append] at hq
                  rcases hq with hq | hq
                  · exact HI.out.2.2.1 q hq
                  · exact TOK.out q hq
                have hnd : (S2 ++ T.1).Nodup := by have := HJ.out; rw [HTA.out] at this; exact this
                have HI4 : Hid (segsV t hv (some SS) (l3.take (k + 1)) = some (S2 ++ T.1) ∧ (S2 ++ T.1).Nodup ∧ (∀ q ∈ S2 ++ T.1, okp hv q = true) ∧ (S2 ++ T.1).length ≤ 6) :=
                  ⟨by rw [hCS.out, HSEG.out]; exact if_pos hnd, hnd, hok2, okp_len E0.out hnd hok2⟩
                rw [HTA.out] at hS
                clear hnd hok2 HJ
                go_wp2
                go_roundw
                case rel => exact ⟨k + 1, S2 ++ T.1, hlt, by go_num, by rw [hlen]; exact hS, hm, hbw, HI4⟩
                case measure => have := hlt; simp [intOf]; omega
          · rw [if_neg cT] at HSEG
            have HV : Hid (spaceV t hv l2 l3 = false) := HV0.out (by rw [hCS.out, HSEG.out])
            go_wp2
            go_ret
            exact ⟨ret_bool HV.out.symm, L0.trans (hbw5.mono L0.size)⟩
        · obtain rfl : k = l3.length := by omega
          have HE := HI.out.1
          rw [HA3.out] at HE
          have HV : Hid (spaceV t hv l2 l3 = allIn hv S2) := space_end HC.out HE
          obtain ⟨Ds, hos, hfs⟩ := hS
          obtain ⟨Dm, hom, hfm⟩ := hm
          have z1 : Maps.size Ds = S2.length := size_set hos HI.out.2.1 (fun x => by rw [hfs x]; simp)
          have z2 : Maps.size Dm = (ascL (domP hv) 7).length := dom_size hom hfm
          have HZ : Hid (decide ((Maps.size Ds : Int) = (Maps.size Dm : Int)) = allIn hv S2) := by show decide _ = _; rw [z1, z2]; exact full_iff HI.out.2.1 HI.out.2.2.1
          clear z1 z2 hfs hfm HE
          have tok : True := trivial
          go_wp2_with (first
            | (at_len; have _t := tok; refine wpList_len_own _ rfl _ 91 rfl 3 117 Try.underlying91 _ w2.heap.size _ Ds rfl hos ?_; clear tok)
            | (at_len; refine wpList_len_own _ rfl _ 93 rfl 3 3 Try.underlying93 _ W0.heap.size _ Dm rfl hom ?_)
            | go_in)
          go_ret
          exact ⟨ret_bool (by rw [HV.out, ← HZ.out]; rfl), L0.trans (hbw.mono L0.size)⟩

end Go.Proofs.Ytokdhbegkbilbaa
