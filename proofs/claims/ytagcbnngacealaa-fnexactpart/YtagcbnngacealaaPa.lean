/-
  The contracts of spec.Part and impl.Part.
-/
import Derived.Test.YtagcbnngacealaaSoI
namespace Go.Proofs.Ytagcbnngacealaa
open Go.RowKit Go.Maps

def partO (t hv al : List Int) : Option (List Int) := if sOk t hv = true ∧ al.length ≤ 100 then some (keepL hv al) else none
theorem partO_len (t hv al : List Int) : ((partO t hv al).getD []).length ≤ 7 := by
  unfold partO
  split
  · simp [keepL_len]
  · simp

set_option maxRecDepth 100000 in
set_option maxHeartbeats 1000000 in
theorem sPart_any (b0 b1 c0 c1 : Nat) (t hv : List Int) (b2 c2 : Nat) (al : List Int) (w : World) (n2 : al.length ≤ 1048576) (o2 : OwnI w b2 al.length al al.length) (n0 : t.length ≤ 1048576) (n1 : hv.length ≤ 1048576) (o0 : OwnI w b0 t.length t t.length) (o1 : OwnI w b1 hv.length hv hv.length) :
    Calls Try.prog 50 #[.agg #[.slice (some ⟨b0, 0, none⟩) t.length c0, .slice (some ⟨b1, 0, none⟩) hv.length c1], .slice (some ⟨b2, 0, none⟩) al.length c2] w (SPost t (partO t hv al) w) := by
  have b2l := o2.1
  have B0 := (Box.new w (.slice (some ⟨b0, 0, none⟩) t.length c0) (.slice (some ⟨b1, 0, none⟩) hv.length c1) 44).alloc (.cells #[.slice none 0 0, .slice none 0 0] 44)
  have R0 := Box.new (w.alloc (.cells #[.slice (some ⟨b0, 0, none⟩) t.length c0, .slice (some ⟨b1, 0, none⟩) hv.length c1] 44)) (.slice none 0 0) (.slice none 0 0) 44
  have L0 : Below w.heap.size w ((w.alloc (.cells #[.slice (some ⟨b0, 0, none⟩) t.length c0, .slice (some ⟨b1, 0, none⟩) hv.length c1] 44)).alloc (.cells #[.slice none 0 0, .slice none 0 0] 44)) := ((Below.refl _ _).alloc (Nat.le_refl _) _).alloc (by simp) _
  rw [World.size_alloc] at R0
  have hc := sStateOk_any b0 b1 c0 c1 t hv _ n0 n1 (by exact o0.keep L0) (by exact o1.keep L0)
  replace o0 := o0.keep L0
  replace o1 := o1.keep L0
  go_enter Try.func50, Try.ntmps50
  go_wp2_with fail
  refine hc.mono ?_
  rintro e w1 ⟨rfl, hb⟩
  have B1 := B0.keep hb; have R1 := R0.keep hb; have L1 := L0.trans (hb.mono L0.size)
  replace o0 := o0.keep hb
  replace o1 := o1.keep hb
  clear hc hb B0 L0 R0
  have z0 := B1.c0; have z1 := B1.c1
  have y0 := R1.c0; have y1 := R1.c1; have f0 := R1.f0; have f1 := R1.f1
  replace o2 := o2.below L1 b2l
  cases hs : sOk t hv
  · have HN : Hid (partO t hv al = none) := if_neg (by rw [hs]; simp)
    have RR := (R1.set0 (.slice none 0 0)).set1 (.slice none 0 0)
    have i0 := RR.c0; have i1 := RR.c1
    have LL := Below.set (Below.set L1 (w.heap.size + 1) 0 (by omega) (.slice none 0 0)) (w.heap.size + 1) 1 (by omega) (.slice none 0 0)
    go_wp2
    exact bodyPost_ret (v := .tuple #[.agg #[.slice none 0 0, .slice none 0 0], .bool false]) (by simp [results, Try.results50, go_sem, i0, i1]) rfl (spost_none HN.out LL)
  · obtain ⟨⟨e16, -, -⟩, e7, -, -⟩ := sOk_true hs
    have E7 : Hid (hv.length = 7) := e7
    have E16 : Hid (t.length = 16) := e16
    clear e7 e16
    by_cases q1 : al.length ≤ 100
    · have HN : Hid (partO t hv al = some (keepL hv al)) := if_pos ⟨hs, q1⟩
      have q2 : ¬ ((100 : Int) < (al.length : Int)) := by omega
      have rl1 := R1.lt
      have s1 := L1.size
      have hc := l2own_any b0 b1 c0 c1 t hv w1 n0 n1 (by have := E16.out; omega) (by have := E7.out; omega) o0 o1
      go_wp2_with fail
      refine hc.mono ?_
      rintro e w3 ⟨d0, d1, g0, g1, rfl, k0, k1, h0, h1, hb2⟩
      have R3 := R1.keep hb2; have L4 := L1.trans (hb2.mono L1.size)
      have o2l := o2.1
      replace o2 := o2.keep hb2
      clear hc hb2 B1 R1 z0 z1 y0 y1 f0 f1 o0 o1 L1 hs
      have X3 := Box.new w3 (.slice (some ⟨d0, 0, none⟩) t.length g0) (.slice (some ⟨d1, 0, none⟩) hv.length g1) 44
      have bl : Below w3.heap.size w3 (w3.alloc (.cells #[.slice (some ⟨d0, 0, none⟩) t.length g0, .slice (some ⟨d1, 0, none⟩) hv.length g1] 44)) := (Below.refl _ _).alloc (Nat.le_refl _) _
      have hd1 := h1.1
      replace R3 := R3.keep bl; replace o2 := o2.keep bl; replace h0 := h0.keep bl; replace h1 := h1.keep bl; replace L4 := L4.trans (bl.mono L4.size)
      clear bl
      go_wp2
      generalize w3.heap.size = bX at *
      generalize (w3.alloc (.cells #[.slice (some ⟨d0, 0, none⟩) t.length g0, .slice (some ⟨d1, 0, none⟩) hv.length g1] 44)) = W4 at *
      have M0 : OwnI W4 d1 hv.length (mixL hv al 0) hv.length := by rw [mixL_zero E7.out]; exact h1
      clear h1
      have HT : Hid (∀ k, k < al.length → al.take (k + 1) = al.take k ++ [al.getD k 0]) := fun k hk => take_snoc hk
      have HA : Hid (al.take al.length = al) := List.take_length
      have ut : ∀ v : Value, v = v := fun _ => rfl
      go_loopw [7, 8, 9] (fun v _ _ wq => ∃ k : Nat, v = .int .i64 k ∧ k ≤ 7 ∧ OwnI wq d1 hv.length (mixL hv al k) hv.length ∧ Out d1 (d1 + 1) W4 wq) (fun v _ _ _ => 7 - (intOf v).toNat)
      case atStart => exact ⟨0, rfl, by omega, M0, Out.refl _ _ _⟩
      case round =>
        clear M0
        obtain ⟨j, rfl, hj, hM, hQ⟩ := hrel
        have hX := X3.out hQ (by omega)
        have xx0 := hX.c0; have xx1 := hX.c1
        by_cases hlt : j < 7
        · have hjl : (j : Int) < (hv.length : Int) := by have := E7.out; omega
          have hj7 : (j : Int) < 7 := by omega
          have o2q := o2.out hQ (by omega)
          go_wp2
          go_loop [8, 9] (fun f i => ∃ k : Nat, i = .int .i64 k ∧ k ≤ al.length ∧ f = .bool (decide ((j : Int) ∈ al.take k))) (fun _ i => al.length - (intOf i).toNat)
          case atStart => exact ⟨0, rfl, by omega, by simp⟩
          case round =>
            obtain ⟨k, rfl, hk, rfl⟩ := hrel
            by_cases hkl : k < al.length
            · have hx := o2q.2.2 k hkl
              have hki : (k : Int) < (al.length : Int) := by omega
              have ET := HT.out k hkl
              obtain ⟨y, ey⟩ : ∃ y, Hid (al.getD k 0 = y) := ⟨_, rfl⟩
              rw [ey.out] at hx ET
              have HE : Hid (al.take (k + 1) = al.take k ++ [y]) := ET
              clear ET
              cases hf : decide ((j : Int) ∈ al.take k)
              · by_cases hyj : y = (j : Int)
                · have HV : Hid (decide ((j : Int) ∈ al.take (k + 1)) = true) := by show decide _ = true; rw [HE.out, hyj]; simp
                  subst hyj
                  go_wp2
                  go_round
                  case rel => exact ⟨k + 1, by go_num, by omega, by rw [HV.out]⟩
                  case measure => simp [intOf]; omega
                · have HV : Hid (decide ((j : Int) ∈ al.take (k + 1)) = false) := by
                    rw [HE.out]
                    have := of_decide_eq_false hf
                    refine decide_eq_false ?_
                    rw [List.mem_append]
                    rintro (q | q)
                    · exact this q
                    · simp at q; exact hyj q.symm
                  go_wp2
                  go_round
                  case rel => exact ⟨k + 1, by go_num, by omega, by rw [HV.out]; simp [hyj]⟩
                  case measure => simp [intOf]; omega
              · have HV : Hid (decide ((j : Int) ∈ al.take (k + 1)) = true) := by
                  rw [HE.out]
                  have := of_decide_eq_true hf
                  exact decide_eq_true (List.mem_append.2 (.inl this))
                go_wp2
                go_round
                case rel => exact ⟨k + 1, by go_num, by omega, by rw [HV.out]⟩
                case measure => simp [intOf]; omega
            · obtain rfl : k = al.length := by omega
              rw [HA.out]
              by_cases cj : (j : Int) ∈ al
              · rw [decide_eq_true cj]
                have EM : Hid (mixL hv al (j + 1) = mixL hv al j) := mixL_in cj
                clear cj
                go_wp2
                go_roundw
                case rel => exact ⟨j + 1, by go_num, by omega, by rw [EM.out]; exact hM, hQ⟩
                case measure => simp [intOf]; omega
              · rw [decide_eq_false cj]
                have hM2 := hM.put j (-1) (mixL hv al (j + 1)) (fun i hi => mixL_out cj i (by have := E7.out; omega))
                have hQ2 := hQ.trans (Out.set d1 j wr (.int .i64 (-1)))
                obtain ⟨vj, hvj⟩ := (hM.2.1 j (by have := E7.out; omega)).1
                have hfz := (hM.2.1 j (by have := E7.out; omega)).2
                clear cj hM hQ
                go_wp2
                go_roundw
                case rel => exact ⟨j + 1, by go_num, by omega, hM2, hQ2⟩
                case measure => simp [intOf]; omega
        · obtain rfl : j = 7 := by omega
          have hR := R3.out hQ (by omega)
          have h7l : ¬ ((7 : Int) < (hv.length : Int)) := by have := E7.out; omega
          have y0 := hR.c0; have y1 := hR.c1; have f0 := hR.f0; have f1 := hR.f1
          have HR7 : Hid (Box _ (w.heap.size + 1) (.slice (some ⟨d0, 0, none⟩) t.length g0) (.slice (some ⟨d1, 0, none⟩) hv.length g1)) := (hR.set0 (.slice (some ⟨d0, 0, none⟩) t.length g0)).set1 (.slice (some ⟨d1, 0, none⟩) hv.length g1)
          have T7 := ((h0.out hQ (by omega)).other (w.heap.size + 1) 0 (by omega) (.slice (some ⟨d0, 0, none⟩) t.length g0)).other (w.heap.size + 1) 1 (by omega) (.slice (some ⟨d1, 0, none⟩) hv.length g1)
          rw [mixL_end] at hM
          have P7 := (hM.other (w.heap.size + 1) 0 (by omega) (.slice (some ⟨d0, 0, none⟩) t.length g0)).other (w.heap.size + 1) 1 (by omega) (.slice (some ⟨d1, 0, none⟩) hv.length g1)
          have L7 := Below.set (Below.set (L4.trans (hQ.below (by omega) L4.size)) (w.heap.size + 1) 0 (by omega) (.slice (some ⟨d0, 0, none⟩) t.length g0)) (w.heap.size + 1) 1 (by omega) (.slice (some ⟨d1, 0, none⟩) hv.length g1)
          clear hM hQ hR hX
          go_wp2
          have i0 := HR7.out.c0; have i1 := HR7.out.c1
          refine bodyPost_ret (v := .tuple #[.agg #[.slice (some ⟨d0, 0, none⟩) t.length g0, .slice (some ⟨d1, 0, none⟩) hv.length g1], .bool true]) ?_ rfl ?_
          · simp [results, Try.results50, go_sem, i0, i1]
          · exact (spost_some HN.out (by rw [keepL_len]; exact E7.out.symm) (by omega) k1 T7 P7 L7)
    · have HN : Hid (partO t hv al = none) := if_neg (fun q => q1 q.2)
      have q2 : (100 : Int) < (al.length : Int) := by omega
      have RR := (R1.set0 (.slice none 0 0)).set1 (.slice none 0 0)
      have i0 := RR.c0; have i1 := RR.c1
      have LL := Below.set (Below.set L1 (w.heap.size + 1) 0 (by omega) (.slice none 0 0)) (w.heap.size + 1) 1 (by omega) (.slice none 0 0)
      go_wp2
      exact bodyPost_ret (v := .tuple #[.agg #[.slice none 0 0, .slice none 0 0], .bool false]) (by simp [results, Try.results50, go_sem, i0, i1]) rfl (spost_none HN.out LL)

set_option maxRecDepth 100000 in
set_option maxHeartbeats 1000000 in
theorem iPart_any (b0 b1 c0 c1 : Nat) (t hv : List Int) (b2 c2 : Nat) (al : List Int) (w : World) (hw : Hid (WFL al)) (n2 : al.length ≤ 1048576) (o2 : OwnI w b2 al.length al al.length) (n0 : t.length ≤ 1048576) (n1 : hv.length ≤ 1048576) (o0 : OwnI w b0 t.length t t.length) (o1 : OwnI w b1 hv.length hv hv.length) :
    Calls Try.prog 51 #[.agg #[.slice (some ⟨b0, 0, none⟩) t.length c0, .slice (some ⟨b1, 0, none⟩) hv.length c1], .slice (some ⟨b2, 0, none⟩) al.length c2] w (SPost t (partO t hv al) w) := by
  have oo0 := o0
  have oo1 := o1
  have oo2 := o2
  have B0 := (Box.new w (.slice (some ⟨b0, 0, none⟩) t.length c0) (.slice (some ⟨b1, 0, none⟩) hv.length c1) 44).alloc (.cells #[.slice none 0 0, .slice none 0 0] 44)
  have R0 := Box.new (w.alloc (.cells #[.slice (some ⟨b0, 0, none⟩) t.length c0, .slice (some ⟨b1, 0, none⟩) hv.length c1] 44)) (.slice none 0 0) (.slice none 0 0) 44
  have L0 : Below w.heap.size w ((w.alloc (.cells #[.slice (some ⟨b0, 0, none⟩) t.length c0, .slice (some ⟨b1, 0, none⟩) hv.length c1] 44)).alloc (.cells #[.slice none 0 0, .slice none 0 0] 44)) := ((Below.refl _ _).alloc (Nat.le_refl _) _).alloc (by simp) _
  rw [World.size_alloc] at R0
  have hc := iStateOk_any b0 b1 c0 c1 t hv _ n0 n1 (by exact o0.keep L0) (by exact o1.keep L0)
  replace o0 := o0.keep L0
  replace o1 := o1.keep L0
  go_enter Try.func51, Try.ntmps51
  go_wp2_with fail
  refine hc.mono ?_
  rintro e w1 ⟨rfl, hb⟩
  have B1 := B0.keep hb; have R1 := R0.keep hb; have L1 := L0.trans (hb.mono L0.size)
  replace o0 := o0.keep hb
  replace o1 := o1.keep hb
  clear hc hb B0 L0 R0
  have z0 := B1.c0; have z1 := B1.c1
  have y0 := R1.c0; have y1 := R1.c1; have f0 := R1.f0; have f1 := R1.f1
  clear o2
  cases hs : sOk t hv
  · have HN : Hid (partO t hv al = none) := if_neg (by rw [hs]; simp)
    have RR := (R1.set0 (.slice none 0 0)).set1 (.slice none 0 0)
    have i0 := RR.c0; have i1 := RR.c1
    have LL := Below.set (Below.set L1 (w.heap.size + 1) 0 (by omega) (.slice none 0 0)) (w.heap.size + 1) 1 (by omega) (.slice none 0 0)
    go_wp2
    exact bodyPost_ret (v := .tuple #[.agg #[.slice none 0 0, .slice none 0 0], .bool false]) (by simp [results, Try.results51, go_sem, i0, i1]) rfl (spost_none HN.out LL)
  · obtain ⟨⟨e16, -, -⟩, e7, -, -⟩ := sOk_true hs
    have HAll := sOk_heap hs
    have E7 : Hid (hv.length = 7) := e7
    have E16 : Hid (t.length = 16) := e16
    clear e7 e16
    by_cases q1 : al.length ≤ 100
    · have HN : Hid (partO t hv al = some (keepL hv al)) := if_pos ⟨hs, q1⟩
      have q2 : ¬ ((100 : Int) < (al.length : Int)) := by omega
      have EL : Hid (lst (fun q => if decide (q ∈ al) = true then hp hv 7 q else none) = keepL hv al) := keep_lst hv al
      have LEN : (keepL hv al).length = 7 := keepL_len _ _
      have hS0 : Below w.heap.size w w1.drew ∧ Two w1.drew (w.heap.size + 1) ∧ w1.drew.cell? ⟨w.heap.size, 0, none⟩ = some (.slice (some ⟨b0, 0, none⟩) t.length c0) ∧ w1.drew.cell? ⟨w.heap.size, 1, none⟩ = some (.slice (some ⟨b1, 0, none⟩) hv.length c1) := ⟨L1.drew, ⟨R1.lt, ⟨_, R1.c0⟩, ⟨_, R1.c1⟩, R1.f0, R1.f1⟩, B1.c0, B1.c1⟩
      clear B1 R1 L1 z0 z1 y0 y1 f0 f1 o0 o1 hs
      go_wp2
      go_region_held3 (fun w' => Below w.heap.size w w' ∧ Two w' (w.heap.size + 1) ∧ w'.cell? ⟨w.heap.size, 0, none⟩ = some (.slice (some ⟨b0, 0, none⟩) t.length c0) ∧ w'.cell? ⟨w.heap.size, 1, none⟩ = some (.slice (some ⟨b1, 0, none⟩) hv.length c1))
        (first | exact hS0 | assumption | (refine keep6_store _ _ ?_; first | assumption | (refine ⟨?_, ?_, ?_, ?_⟩ <;> assumption)) | (refine ⟨?_, ?_, ?_, ?_⟩ <;> assumption))
        (first
          | (go_at_call 85; refine (heapOf_any b1 c1 hv _ n1 HAll (own_of oo1 hS0)).mono ?_; rintro e u0 ⟨rfl, m0, h0⟩; have kk := keep6 hS0 h0; rw [E7.out] at m0)
          | (go_at_call 100; refine (setOf_some b2 c2 al _ n2 hw (own_of oo2 kk)).mono ?_; rintro e u1 ⟨rfl, m1, h1⟩; have k1 := keep6 kk h1; replace m0 := m0.keep h1)
          | (go_at_call 99; refine (only_any _ 7 _ _ _ _ _ (by omega) m0 m1).mono ?_; rintro e u2 ⟨rfl, m2, h2⟩; have k2 := keep6 k1 h2)
          | (go_at_call 98; refine (withHeap_any b0 b1 c0 c1 hv.length _ 7 t _ _ n0 (by have := E16.out; omega) (own_of oo0 k2) m2).mono ?_; rintro e u3 ⟨d0, d1, g0, rfl, kk0, kk1, hh0, hh1, h3⟩; have s2 := lo_ge k2; have k3 := keep6 k2 h3; obtain ⟨x0, hx0⟩ := k3.2.1.2.1; obtain ⟨x1, hx1⟩ := k3.2.1.2.2.1; have f0 := k3.2.1.2.2.2.1; have f1 := k3.2.1.2.2.2.2))
      all_goals

        obtain ⟨FB, FO⟩ := k3.2.1.fill (.slice (some ⟨d0, 0, none⟩) t.length g0) (.slice (some ⟨d1, 0, none⟩) 7 7)
        have hB := k3.1
        rw [EL.out] at hh1
        have T7 := hh0.out FO (by omega)
        have P7 := hh1.out FO (by omega)
        have L7 := hB.trans (FO.below (by omega) hB.size)
        have HFB : Hid (Box _ (w.heap.size + 1) (.slice (some ⟨d0, 0, none⟩) t.length g0) (.slice (some ⟨d1, 0, none⟩) 7 7)) := FB
        clear FB FO hB hh0 hh1 hS0
        go_wp2
        have i0 := HFB.out.c0; have i1 := HFB.out.c1
        refine bodyPost_ret (v := .tuple #[.agg #[.slice (some ⟨d0, 0, none⟩) t.length g0, .slice (some ⟨d1, 0, none⟩) 7 7], .bool true]) ?_ rfl ?_
        · simp [results, Try.results51, go_sem, i0, i1]
        · exact (spost_some HN.out LEN (by omega) kk1 T7 P7 L7)

    · have HN : Hid (partO t hv al = none) := if_neg (fun q => q1 q.2)
      have q2 : (100 : Int) < (al.length : Int) := by omega
      have RR := (R1.set0 (.slice none 0 0)).set1 (.slice none 0 0)
      have i0 := RR.c0; have i1 := RR.c1
      have LL := Below.set (Below.set L1 (w.heap.size + 1) 0 (by omega) (.slice none 0 0)) (w.heap.size + 1) 1 (by omega) (.slice none 0 0)
      go_wp2
      exact bodyPost_ret (v := .tuple #[.agg #[.slice none 0 0, .slice none 0 0], .bool false]) (by simp [results, Try.results51, go_sem, i0, i1]) rfl (spost_none HN.out LL)

end Go.Proofs.Ytagcbnngacealaa
