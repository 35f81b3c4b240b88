/-
  The contracts of spec.Next and impl.Next: both answer by one plain function.
-/
import Derived.Test.YtokdhbegkbilbaaSOk
import Derived.Test.YtokdhbegkbilbaaHm
namespace Go.Proofs.Ytokdhbegkbilbaa
open Go.RowKit Go.Maps

theorem getD_of_all {p : Int → Bool} {l : List Int} (h : l.all p = true) {i : Nat} (hi : i < l.length) : p (l.getD i 0) = true := by
  rw [List.all_eq_true] at h
  have := h l[i] (List.getElem_mem hi)
  simpa [hi] using this

theorem sOk_true {t h : List Int} (e : sOk t h = true) : (t.length = 16 ∧ t.getD 0 0 = 0 ∧ ∀ i, i < 16 → 0 ≤ t.getD i 0 ∧ t.getD i 0 ≤ 6) ∧ h.length = 7 ∧ h.getD 0 0 = -1 ∧ ∀ i, i < 7 → -1 ≤ h.getD i 0 ∧ h.getD i 0 ≤ 6 := by
  unfold sOk tOk hOk at e
  simp only [Bool.and_eq_true, decide_eq_true_eq] at e
  obtain ⟨⟨a1, a2, a3⟩, b1, b2, b3⟩ := e
  refine ⟨⟨a1, a2, fun i hi => ?_⟩, b1, b2, fun i hi => ?_⟩
  · simpa [pOk] using getD_of_all a3 (i := i) (by omega)
  · simpa [aOk] using getD_of_all b3 (i := i) (by omega)

theorem sOk_heap {t h : List Int} (e : sOk t h = true) : Hid (∀ i, i < h.length → aOk (h.getD i 0) = true) := fun i hi => by
  have := sOk_true e
  have q := this.2.2.2 i (by omega)
  simpa [aOk] using q

def nxt (t h : List Int) (x : Int) : Option Int := if sOk t h = true then hp h 7 x else none

theorem ret_ib {a c : Int} {b d : Bool} (h : a = c) (k : b = d) : Ending.returned (.tuple #[.int .i64 a, .bool b]) = .returned (.tuple #[.int .i64 c, .bool d]) := by rw [h, k]

set_option maxHeartbeats 1000000 in
theorem sNext_any (b0 b1 c0 c1 : Nat) (t h : List Int) (x : Int) (w : World) (n0 : t.length ≤ 1048576) (n1 : h.length ≤ 1048576) (o0 : OwnI w b0 t.length t t.length) (o1 : OwnI w b1 h.length h h.length) :
    Calls Try.prog 55 #[.agg #[.slice (some ⟨b0, 0, none⟩) t.length c0, .slice (some ⟨b1, 0, none⟩) h.length c1], .int .i64 x] w fun e w' => e = .returned (.tuple #[.int .i64 ((nxt t h x).getD 0), .bool (nxt t h x).isSome]) ∧ Below w.heap.size w w' := by
  have B0 := Box.new w (.slice (some ⟨b0, 0, none⟩) t.length c0) (.slice (some ⟨b1, 0, none⟩) h.length c1) 44
  have L0 : Below w.heap.size w (w.alloc (.cells #[.slice (some ⟨b0, 0, none⟩) t.length c0, .slice (some ⟨b1, 0, none⟩) h.length c1] 44)) := (Below.refl _ _).alloc (Nat.le_refl _) _
  have hc := sStateOk_any b0 b1 c0 c1 t h _ n0 n1 (by exact o0.alloc (.cells #[.slice (some ⟨b0, 0, none⟩) t.length c0, .slice (some ⟨b1, 0, none⟩) h.length c1] 44)) (by exact o1.alloc _)
  replace o1 := o1.alloc (.cells #[.slice (some ⟨b0, 0, none⟩) t.length c0, .slice (some ⟨b1, 0, none⟩) h.length c1] 44)
  go_enter Try.func55, Try.ntmps55
  go_wp2_with fail
  refine hc.mono ?_
  rintro e w1 ⟨rfl, hb⟩
  have B1 := B0.keep hb; have L1 := L0.trans (hb.mono L0.size)
  replace o1 := o1.keep hb
  clear hc hb B0 L0 o0
  have z0 := B1.c0; have z1 := B1.c1
  cases hs : sOk t h
  · have HN : Hid (nxt t h x = none) := by unfold nxt; rw [hs]; rfl
    go_wp2
    go_ret2
    rw [HN.out]
    exact ⟨rfl, L1⟩
  · obtain ⟨-, e7, e0, hr⟩ := sOk_true hs
    have HN : Hid (nxt t h x = hp h 7 x) := by unfold nxt; rw [hs]; rfl
    have HR : Hid (∀ i, i < 7 → -1 ≤ h.getD i 0 ∧ h.getD i 0 ≤ 6) := hr
    clear hr e0
    by_cases q1 : x < 0
    · go_wp2
      go_ret2
      rw [HN.out, show hp h 7 x = none from if_neg (by omega)]
      exact ⟨rfl, L1⟩
    · by_cases q2 : x > 6
      · go_wp2
        go_ret2
        rw [HN.out, show hp h 7 x = none from if_neg (by omega)]
        exact ⟨rfl, L1⟩
      · obtain ⟨k, rfl⟩ : ∃ k : Nat, x = k := ⟨x.toNat, by omega⟩
        have hk : k < 7 := by omega
        have hx := o1.2.2 k (by omega)
        have hkr := HR.out k hk
        obtain ⟨y, ey⟩ : ∃ y, Hid (h.getD k 0 = y) := ⟨_, rfl⟩
        rw [ey.out] at hx hkr
        have hkl : (k : Int) < (h.length : Int) := by omega
        by_cases q3 : y < 0
        · go_wp2
          go_ret2
          rw [HN.out, show hp h 7 k = none from if_neg (by rw [Int.toNat_natCast, ey.out]; omega)]
          exact ⟨rfl, L1⟩
        · go_wp2
          go_ret2
          rw [HN.out, show hp h 7 k = some y from by unfold hp; rw [Int.toNat_natCast, ey.out, if_pos (by omega)]]
          exact ⟨rfl, L1⟩

set_option maxHeartbeats 1000000 in
theorem iNext_any (b0 b1 c0 c1 : Nat) (t h : List Int) (x : Int) (w : World) (wx : (Lit.int .i64 x).wf = true) (n0 : t.length ≤ 1048576) (n1 : h.length ≤ 1048576) (o0 : OwnI w b0 t.length t t.length) (o1 : OwnI w b1 h.length h h.length) :
    Calls Try.prog 56 #[.agg #[.slice (some ⟨b0, 0, none⟩) t.length c0, .slice (some ⟨b1, 0, none⟩) h.length c1], .int .i64 x] w fun e w' => e = .returned (.tuple #[.int .i64 ((nxt t h x).getD 0), .bool (nxt t h x).isSome]) ∧ Below w.heap.size w w' := by
  have B0 := Box.new w (.slice (some ⟨b0, 0, none⟩) t.length c0) (.slice (some ⟨b1, 0, none⟩) h.length c1) 44
  have L0 : Below w.heap.size w (w.alloc (.cells #[.slice (some ⟨b0, 0, none⟩) t.length c0, .slice (some ⟨b1, 0, none⟩) h.length c1] 44)) := (Below.refl _ _).alloc (Nat.le_refl _) _
  have hc := iStateOk_any b0 b1 c0 c1 t h _ n0 n1 (by exact o0.alloc (.cells #[.slice (some ⟨b0, 0, none⟩) t.length c0, .slice (some ⟨b1, 0, none⟩) h.length c1] 44)) (by exact o1.alloc _)
  replace o1 := o1.alloc (.cells #[.slice (some ⟨b0, 0, none⟩) t.length c0, .slice (some ⟨b1, 0, none⟩) h.length c1] 44)
  go_enter Try.func56, Try.ntmps56
  go_wp2_with fail
  refine hc.mono ?_
  rintro e w1 ⟨rfl, hb⟩
  have B1 := B0.keep hb; have L1 := L0.trans (hb.mono L0.size)
  replace o1 := o1.keep hb
  clear hc hb B0 L0 o0
  have z0 := B1.c0; have z1 := B1.c1
  cases hs : sOk t h
  · have HN : Hid (nxt t h x = none) := by unfold nxt; rw [hs]; rfl
    go_wp2
    go_ret2
    rw [HN.out]
    exact ⟨rfl, L1⟩
  · have e7 : Hid (h.length = 7) := (sOk_true hs).2.1
    have HN : Hid (nxt t h x = hp h 7 x) := by unfold nxt; rw [hs]; rfl
    have hc := heapOf_any b1 c1 h w1 n1 (sOk_heap hs) (by exact o1)
    go_wp2_with fail
    refine hc.mono ?_
    rintro e w2 ⟨rfl, ⟨Dm, hown, hf⟩, hb⟩
    have L2 := L1.trans (hb.mono L1.size)
    have HF : Hid ((hp h 7 x = none → Maps.has Dm (ik x) = false) ∧ ∀ y, hp h 7 x = some y → Maps.has Dm (ik x) = true ∧ ∀ z, Dm.atKey (ik x) z = .lit (.int .i64 y)) := by have := hf x; rw [e7.out] at this; exact this
    clear hc hb B1 L1 z0 z1 o1 hf
    generalize w1.heap.size = B at *
    go_wp2_with (first
      | (at_lookup; refine wpList_lookup_own_ok_int _ rfl _ _ 93 rfl 3 3 .i64 law3 Try.underlying93 Try.underlying3 (zero3 _) B h.length _ rfl hown _ _ rfl (keyOf_int_mk Try.underlying3 wx) ?_; intro c hat hwc)
      | go_in)
    go_ret2
    rw [HN.out]
    refine ⟨?_, L2⟩
    cases e : hp h 7 x with
    | none =>
      have q := HF.out.1 e
      rw [atKey_of_not_has q] at hat
      injection hat with hat
      injection hat with _ hat
      exact ret_ib hat.symm q
    | some y =>
      obtain ⟨q1, q2⟩ := HF.out.2 y e
      rw [q2] at hat
      injection hat with hat
      injection hat with _ hat
      exact ret_ib hat.symm q1

end Go.Proofs.Ytokdhbegkbilbaa
