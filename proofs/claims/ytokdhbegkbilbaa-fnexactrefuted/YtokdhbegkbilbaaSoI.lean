/-
  The contract of impl.Sole.
-/
import Derived.Test.YtokdhbegkbilbaaSo
namespace Go.Proofs.Ytokdhbegkbilbaa
open Go.RowKit Go.Maps

theorem trl_ok {h : List Int} {to : Int} : ∀ (n : Nat) (l : List Int) (x : Int), (∀ y ∈ l, okp h y = true) → ∀ y ∈ (trl h to n l x).1, okp h y = true
  | 0, l, x, hl => hl
  | n + 1, l, x, hl => by
    by_cases c : x ≠ to ∧ okp h x = true ∧ x ∉ l
    · rw [trl_go c]
      exact trl_ok n _ _ (fun y hy => by
        rw [List.mem_append] at hy
        rcases hy with hy | hy
        · exact hl y hy
        · simp at hy; rw [hy]; exact c.2.1)
    · rw [trl_stop c]; exact hl
theorem trl_len {h : List Int} {to : Int} : ∀ (n : Nat) (l : List Int) (x : Int), (trl h to n l x).1.length ≤ l.length + n
  | 0, l, x => Nat.le_refl _
  | n + 1, l, x => by
    by_cases c : x ≠ to ∧ okp h x = true ∧ x ∉ l
    · rw [trl_go c]
      have := trl_len n (l ++ [x]) (gn h x) (h := h) (to := to)
      simp at this
      omega
    · rw [trl_stop c]; simp
theorem trl_wf {h : List Int} (h0 : h.getD 0 0 = -1) (to x : Int) : Hid (WFL (trl h to 7 [] x).1) := fun i hi => by
  have := okp_at h0 (trl_ok (h := h) (to := to) 7 [] x (by simp) ((trl h to 7 [] x).1.getD i 0) (by simp [hi]))
  exact WalkArith.wf_i64 (by omega)

theorem keep_lst (hv l : List Int) : lst (fun q => if decide (q ∈ l) = true then hp hv 7 q else none) = keepL hv l :=
  ext7 (lst_len _) (keepL_len _ _) fun i hi => by
    rw [lst_at _ hi, keepL_at _ _ hi]
    by_cases e : (i : Int) ∈ l
    · rw [if_pos (decide_eq_true e), if_pos e]
      unfold hp
      rw [Int.toNat_natCast]
      by_cases e2 : hv.getD i 0 = -1
      · rw [if_neg (fun q => q.2.2 e2), e2]; rfl
      · rw [if_pos ⟨by omega, by omega, e2⟩]; rfl
    · rw [if_neg (by simp [e]), if_neg e]; rfl

theorem soleO_len (t hv : List Int) (x : Int) : ((soleO t hv x).getD []).length ≤ 7 := by
  unfold soleO
  split
  · simp [keepL_len]
  · simp
theorem tOf_len (t : List Int) (R : Option (List Int)) : (tOf t R).length ≤ t.length := by
  unfold tOf
  split <;> simp

set_option maxRecDepth 100000 in
set_option maxHeartbeats 2000000 in
theorem iSole_any (b0 b1 c0 c1 : Nat) (t hv : List Int) (x : Int) (w : World) (n0 : t.length ≤ 1048576) (n1 : hv.length ≤ 1048576) (o0 : OwnI w b0 t.length t t.length) (o1 : OwnI w b1 hv.length hv hv.length) :
    Calls Try.prog 64 #[.agg #[.slice (some ⟨b0, 0, none⟩) t.length c0, .slice (some ⟨b1, 0, none⟩) hv.length c1], .int .i64 x] w (SPost t (soleO t hv x) w) := by
  have oo0 := o0
  have B0 := (Box.new w (.slice (some ⟨b0, 0, none⟩) t.length c0) (.slice (some ⟨b1, 0, none⟩) hv.length c1) 44).alloc (.cells #[.slice none 0 0, .slice none 0 0] 44)
  have R0 := Box.new (w.alloc (.cells #[.slice (some ⟨b0, 0, none⟩) t.length c0, .slice (some ⟨b1, 0, none⟩) hv.length c1] 44)) (.slice none 0 0) (.slice none 0 0) 44
  have L0 : Below w.heap.size w ((w.alloc (.cells #[.slice (some ⟨b0, 0, none⟩) t.length c0, .slice (some ⟨b1, 0, none⟩) hv.length c1] 44)).alloc (.cells #[.slice none 0 0, .slice none 0 0] 44)) := ((Below.refl _ _).alloc (Nat.le_refl _) _).alloc (by simp) _
  rw [World.size_alloc] at R0
  have hc := iStateOk_any b0 b1 c0 c1 t hv _ n0 n1 (by exact o0.keep L0) (by exact o1.keep L0)
  replace o0 := o0.keep L0
  replace o1 := o1.keep L0
  go_enter Try.func64, Try.ntmps64
  go_wp2_with fail
  refine hc.mono ?_
  rintro e w1 ⟨rfl, hb⟩
  have B1 := B0.keep hb; have R1 := R0.keep hb; have L1 := L0.trans (hb.mono L0.size)
  replace o0 := o0.keep hb
  replace o1 := o1.keep hb
  clear hc hb B0 L0 R0
  have z0 := B1.c0; have z1 := B1.c1
  have y0 := R1.c0; have y1 := R1.c1; have f0 := R1.f0; have f1 := R1.f1
  cases hs : sOk t hv
  · have HN : Hid (soleO t hv x = none) := if_neg (by rw [hs]; simp)
    have RR := (R1.set0 (.slice none 0 0)).set1 (.slice none 0 0)
    have i0 := RR.c0; have i1 := RR.c1
    have LL := Below.set (Below.set L1 (w.heap.size + 1) 0 (by omega) (.slice none 0 0)) (w.heap.size + 1) 1 (by omega) (.slice none 0 0)
    go_wp2
    exact bodyPost_ret (v := .tuple #[.agg #[.slice none 0 0, .slice none 0 0], .bool false]) (by simp [results, Try.results64, go_sem, i0, i1]) rfl (spost_none HN.out LL)
  · obtain ⟨⟨e16, -, ht⟩, e7, e0, hr⟩ := sOk_true hs
    have HR : Hid (∀ i, i < 7 → -1 ≤ hv.getD i 0 ∧ hv.getD i 0 ≤ 6) := hr
    have HTR : Hid (∀ i, i < 16 → 0 ≤ t.getD i 0 ∧ t.getD i 0 ≤ 6) := ht
    have E7 : Hid (hv.length = 7) := e7
    have E16 : Hid (t.length = 16) := e16
    have E0 : Hid (hv.getD 0 0 = -1) := e0
    clear hr e0 e7 e16 ht
    have hc := iTermOk_any x w1
    cases q1 : tok x
    · rw [q1] at hc
      have HN : Hid (soleO t hv x = none) := if_neg (by rw [q1]; simp)
      go_wp2_with fail
      refine hc.mono ?_
      rintro e w1 ⟨rfl, rfl⟩
      have RR := (R1.set0 (.slice none 0 0)).set1 (.slice none 0 0)
      have i0 := RR.c0; have i1 := RR.c1
      have LL := Below.set (Below.set L1 (w.heap.size + 1) 0 (by omega) (.slice none 0 0)) (w.heap.size + 1) 1 (by omega) (.slice none 0 0)
      go_wp2
      exact bodyPost_ret (v := .tuple #[.agg #[.slice none 0 0, .slice none 0 0], .bool false]) (by simp [results, Try.results64, go_sem, i0, i1]) rfl (spost_none HN.out LL)
    rw [q1] at hc
    have q2 : 0 ≤ x ∧ x < 16 := by simpa [tok] using q1
    obtain ⟨a, rfl⟩ : ∃ a : Nat, x = a := ⟨x.toNat, by omega⟩
    obtain ⟨T, eT⟩ : ∃ T, Hid (trl hv (-1) 7 [] (t.getD a 0) = T) := ⟨_, rfl⟩
    have HN : Hid (soleO t hv a = some (keepL hv T.1)) := by
      show soleO t hv a = _
      unfold soleO
      rw [if_pos ⟨hs, q1⟩, Int.toNat_natCast, eT.out]
    have HW : Hid (WFL T.1) := by rw [← eT.out]; exact trl_wf E0.out _ _
    have HL : T.1.length ≤ 7 := by rw [← eT.out]; simpa using trl_len (h := hv) (to := -1) 7 [] (t.getD a 0)
    have EL : Hid (lst (fun q => if decide (q ∈ T.1) = true then hp hv 7 q else none) = keepL hv T.1) := keep_lst hv T.1
    have LEN : (keepL hv T.1).length = 7 := keepL_len _ _
    have h2 := heapOf_any b1 c1 hv w1 n1 (sOk_heap hs) (by exact o1)
    have la : (a : Int) < (t.length : Int) := by have := E16.out; omega
    have ra := HTR.out a (by omega)
    obtain ⟨z, ez⟩ : ∃ z, Hid (t.getD a 0 = z) := ⟨_, rfl⟩
    rw [ez.out] at ra eT
    have wz : (Lit.int .i64 z).wf = true := WalkArith.wf_i64 (by omega)
    clear q1 HTR
    go_wp2_with fail
    refine hc.mono ?_
    rintro e w1 ⟨rfl, rfl⟩
    go_wp2_with fail
    refine h2.mono ?_
    rintro e w2 ⟨rfl, hm, hb⟩
    have B2 := B1.keep hb; have R2 := R1.keep hb; have L2 := L1.trans (hb.mono L1.size)
    have s1 := L1.size
    replace o0 := o0.keep hb
    have ha := o0.2.2 a (by have := E16.out; omega)
    rw [ez.out] at ha
    rw [E7.out] at hm
    have h3 := trail_any _ hv z (-1) w2 wz E0.out HR hm
    rw [eT.out] at h3
    clear hc h2 hb B1 R1 z0 z1 y0 y1 f0 f1 o1 L1
    have z0 := B2.c0; have z1 := B2.c1
    go_wp2_with fail
    refine h3.mono ?_
    rintro e w3 ⟨ag, cg, rfl, hin, hb⟩
    have B3 := B2.keep hb; have R3 := R2.keep hb; have L3 := L2.trans (hb.mono L2.size)
    replace hm := hm.keep hb
    have dr : Below w3.heap.size w3 w3.drew := (Below.refl _ _).drew
    have hm1 : HM w3.drew w1.heap.size 7 (hp hv 7) := hm.keep dr
    have hin1 := hin.below dr (Nat.le_refl _)
    have hS0 : Below w.heap.size w w3.drew ∧ Two w3.drew (w.heap.size + 1) ∧ w3.drew.cell? ⟨w.heap.size, 0, none⟩ = some (.slice (some ⟨b0, 0, none⟩) t.length c0) ∧ w3.drew.cell? ⟨w.heap.size, 1, none⟩ = some (.slice (some ⟨b1, 0, none⟩) hv.length c1) := ⟨L3.drew, ⟨R3.lt, ⟨_, R3.c0⟩, ⟨_, R3.c1⟩, R3.f0, R3.f1⟩, B3.c0, B3.c1⟩
    clear h3 hb B2 R2 L2 o0 ha z0 z1 B3 R3 L3 hm hin dr
    generalize w1.heap.size = bm at *
    go_wp2
    go_region_held3 (fun w' => Below w.heap.size w w' ∧ Two w' (w.heap.size + 1) ∧ w'.cell? ⟨w.heap.size, 0, none⟩ = some (.slice (some ⟨b0, 0, none⟩) t.length c0) ∧ w'.cell? ⟨w.heap.size, 1, none⟩ = some (.slice (some ⟨b1, 0, none⟩) hv.length c1))
      (first | exact hS0 | assumption | (refine keep6_store _ _ ?_; first | assumption | (refine ⟨?_, ?_, ?_, ?_⟩ <;> assumption)) | (refine ⟨?_, ?_, ?_, ?_⟩ <;> assumption))
      (first
        | (go_at_call 109; refine (setOf_any _ _ _ _ _ _ _ (by omega) HW hin1).mono ?_; rintro e u1 ⟨rfl, m1, h1⟩; have k1 := keep6 hS0 h1; replace hm1 := hm1.keep h1)
        | (go_at_call 108; refine (only_any bm 7 _ _ _ _ _ (by omega) hm1 m1).mono ?_; rintro e u2 ⟨rfl, m2, h2⟩; have k2 := keep6 k1 h2)
        | (go_at_call 107; refine (withHeap_any b0 b1 c0 c1 hv.length _ 7 t _ _ n0 (by have := E16.out; omega) (own_of oo0 k2) m2).mono ?_; rintro e u3 ⟨d0, d1, g0, rfl, kk0, kk1, hh0, hh1, h3⟩; have s2 := lo_ge k2; have k3 := keep6 k2 h3; obtain ⟨x0, hx0⟩ := k3.2.1.2.1; obtain ⟨x1, hx1⟩ := k3.2.1.2.2.1; have f0 := k3.2.1.2.2.2.1; have f1 := k3.2.1.2.2.2.2))
    all_goals

      obtain ⟨FB, FO⟩ := k3.2.1.fill (.slice (some ⟨d0, 0, none⟩) t.length g0) (.slice (some ⟨d1, 0, none⟩) 7 7)
      have hB := k3.1
      rw [EL.out] at hh1
      have T7 := hh0.out FO (by omega)
      have P7 := hh1.out FO (by omega)
      have L7 := hB.trans (FO.below (by omega) hB.size)
      have HFB : Hid (Box _ (w.heap.size + 1) (.slice (some ⟨d0, 0, none⟩) t.length g0) (.slice (some ⟨d1, 0, none⟩) 7 7)) := FB
      clear FB FO hB hh0 hh1 hS0
      go_wp2
      have i0 := HFB.out.c0; have i1 := HFB.out.c1
      refine bodyPost_ret (v := .tuple #[.agg #[.slice (some ⟨d0, 0, none⟩) t.length g0, .slice (some ⟨d1, 0, none⟩) 7 7], .bool true]) ?_ rfl ?_
      · simp [results, Try.results64, go_sem, i0, i1]
      · exact (spost_some HN.out LEN (by omega) kk1 T7 P7 L7)

end Go.Proofs.Ytokdhbegkbilbaa
