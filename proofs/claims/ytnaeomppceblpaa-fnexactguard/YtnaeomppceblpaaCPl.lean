/-
  The contracts of IsPlain, in package spec and in package impl.
-/
import Derived.Test.YtnaeomppceblpaaCTop
import Derived.Outline
namespace Go.Proofs.Ytnaeomppceblpaa
open Go.RowKit

def plB (c : Cm) : Bool := decide (0 ≤ c.k ∧ c.k ≤ 4)
def plS (l : List Cm) : Bool := l.all plB
def plainP (l : List Cm) : Bool := progV l && plS l
theorem plS_true {l : List Cm} (h : ∀ i, i < l.length → plB (l.getD i Cm.zero) = true) : plS l = true := by
  unfold plS
  rw [List.all_eq_true]
  intro c hc
  obtain ⟨i, hi, rfl⟩ := List.getElem_of_mem hc
  have := h i hi
  rw [List.getD_eq_getElem?_getD, List.getElem?_eq_getElem hi] at this
  simpa using this
theorem plS_false {l : List Cm} {k : Nat} (hk : k < l.length) (h : plB (l.getD k Cm.zero) = false) : plS l = false := by
  unfold plS
  rw [List.all_eq_false]
  exact ⟨_, mem_getD hk, by rw [h]; decide⟩
/-- In a program that is as it has to be each kind is one of the seven. -/
theorem kind_of {l : List Cm} {k : Nat} (hp : progV l = true) (hk : k < l.length) : 0 ≤ (l.getD k Cm.zero).k := by
  unfold progV okS at hp
  simp only [Bool.and_eq_true] at hp
  have h1 := hp.1.2
  rw [oks_all, List.all_eq_true] at h1
  have h2 := h1 _ (mem_getD hk)
  by_cases h3 : 0 ≤ (l.getD k Cm.zero).k
  · exact h3
  · rw [ok_no (.inl (by omega))] at h2; cases h2

theorem plainKind_any (x : Int) (w : World) : Calls Try.prog 103 #[.int .i64 x] w fun e w' => e = .returned (.bool (decide (0 ≤ x ∧ x ≤ 4))) ∧ w' = w := by
  by_cases c1 : 0 ≤ x
  · go_enter Try.func103, Try.ntmps103
    go_wp2
    go_ret
    exact ⟨ret_bool (by rw [Bool.eq_iff_iff]; simp; omega), rfl⟩
  · go_enter Try.func103, Try.ntmps103
    go_wp2
    go_ret
    exact ⟨ret_bool (by rw [Bool.eq_iff_iff]; simp; omega), rfl⟩

set_option maxHeartbeats 1000000 in
theorem sIsPlain_any (l : List Cm) (w : World) (lo hi : Nat) (a : Option Addr) (cap : Nat) (hr : CRow w lo hi a l) (hh : hi ≤ w.heap.size) (hs : cnts l ≤ 1048576) :
    Calls Try.prog 68 #[.slice a l.length cap] w fun e w' => e = .returned (.bool (plainP l)) ∧ Below w.heap.size w w' := by
  have HV : Hid (plainP l = (progV l && plS l)) := rfl
  have hr0 := hr
  obtain ⟨hm, hr⟩ := hr
  have hn : l.length ≤ 1048576 := Nat.le_trans (len_le_cnts l) hs
  have HCELL : Hid (∀ k, k < l.length → ∃ b o, a = some ⟨b, o, none⟩ ∧ lo ≤ b ∧ b < hi ∧ CAt w lo hi b (o + k * 10) (l.getD k Cm.zero)) := by
    intro k hk
    rcases hr with rfl | ⟨b, o, rfl, g1, g2, hc⟩
    · simp at hk
    · exact ⟨b, o, rfl, g1, g2, hc.get k hk⟩
  clear hr
  have HT : Hid ((∀ i, i < l.length → plB (l.getD i Cm.zero) = true) → plS l = true) := plS_true
  have HF : Hid (∀ k, k < l.length → plB (l.getD k Cm.zero) = false → plS l = false) := fun k hk h => plS_false hk h
  have HK : Hid (progV l = true → ∀ k, k < l.length → 0 ≤ (l.getD k Cm.zero).k) := fun h k hk => kind_of h hk
  go_enter Try.func68, Try.ntmps68
  go_wp2_with fail
  refine (sProgOk_any l _ _ _ _ _ hr0 hh hs).mono ?_
  rintro e w1 ⟨rfl, L⟩
  cases hok : progV l
  · go_wp2
    go_ret
    exact ⟨ret_bool (by rw [HV.out, hok]; rfl), L⟩
  have HK2 : Hid (∀ k, k < l.length → 0 ≤ (l.getD k Cm.zero).k) := HK.out hok
  have HV2 : Hid (plainP l = plS l) := by show plainP l = plS l; rw [HV.out, hok]; rfl
  clear HK HV hok hr0 hs hm
  generalize hN : l.length = n at *
  clear hN
  go_wp2
  go_loopw [3] (fun i wr => ∃ k : Nat, k ≤ n ∧ i = .int .i64 k ∧ Hid (∀ i, i < k → plB (l.getD i Cm.zero) = true) ∧ Below w.heap.size w wr) (fun i _ => n - (intOf i).toNat)
  case atStart => exact ⟨0, Nat.zero_le _, rfl, fun i hi => by omega, L⟩
  case round =>
    clear L
    obtain ⟨k, hk, rfl, hall, hbw⟩ := hrel
    by_cases hlt : k < n
    · obtain ⟨b, o, rfl, e1, e2, hc⟩ := HCELL.out k hlt
      obtain ⟨a0, a1, a2, a3, aA, aB, c0, c1, c2, c3, cA, cB, X, V⟩ := hc.out
      have hk0 := HK2.out k hlt
      have HF2 : Hid (plB (l.getD k Cm.zero) = false → plS l = false) := HF.out k hlt
      have HS2 : Hid (plB (l.getD k Cm.zero) = true → ∀ i, i < k + 1 → plB (l.getD i Cm.zero) = true) := fun h i hi => by
        by_cases e : i = k
        · subst e; exact h
        · exact hall.out i (by omega)
      clear hc V
      have HP : Hid (plB (l.getD k Cm.zero) = decide (0 ≤ (l.getD k Cm.zero).k ∧ (l.getD k Cm.zero).k ≤ 4)) := rfl
      generalize l.getD k Cm.zero = c at *
      have x0 := X.e0
      have x0' := hbw.cell (p := ⟨b, o + k * 10, none⟩) (show b < w.heap.size by omega)
      rw [x0] at x0'
      clear x0 X
      have hkn : (k : Int) < (n : Int) := by omega
      by_cases h5 : 5 ≤ c.k
      · go_wp2
        go_ret
        exact ⟨ret_bool (by rw [HV2.out, HF2.out (by rw [HP.out]; simp; omega)]), hbw⟩
      · go_wp2
        go_roundw
        case rel => exact ⟨k + 1, by omega, by go_num, HS2.out (by rw [HP.out]; simp; omega), hbw⟩
        case measure => simp [intOf]; omega
    · go_wp2
      go_ret
      obtain rfl : k = n := by omega
      exact ⟨ret_bool (by rw [HV2.out, HT.out hall.out]), hbw⟩

theorem clo_any (c : Cm) (a0 a1 a2 a3 aA aB : Option Addr) (c0 c1 c2 c3 cA cB : Nat) (w : World) :
    Calls Try.prog 113 #[.agg #[.int .i64 c.k, .int .i64 c.x, .int .i64 c.y, .bool c.q, .slice a0 c.l0.length c0, .slice a1 c.l1.length c1, .slice a2 c.l2.length c2, .slice a3 c.l3.length c3, .slice aA c.A.length cA, .slice aB c.B.length cB]] w fun e w' => e = .returned (.bool (!plB c)) ∧ Below w.heap.size w w' := by
  have HP : Hid (plB c = decide (0 ≤ c.k ∧ c.k ≤ 4)) := rfl
  have L : Below w.heap.size w (w.alloc (.cells #[.int .i64 c.k, .int .i64 c.x, .int .i64 c.y, .bool c.q, .slice a0 c.l0.length c0, .slice a1 c.l1.length c1, .slice a2 c.l2.length c2, .slice a3 c.l3.length c3, .slice aA c.A.length cA, .slice aB c.B.length cB] 59)) := (Below.refl _ _).alloc (Nat.le_refl _) _
  go_enter Try.func113, Try.ntmps113
  go_wp2_with fail
  refine (plainKind_any _ _).mono ?_
  rintro e w1 ⟨rfl, rfl⟩
  go_wp2
  go_ret
  exact ⟨ret_bool (by rw [HP.out]; simp), L⟩

set_option maxHeartbeats 1000000 in
theorem idxF_any (l : List Cm) (w : World) (lo hi : Nat) (a : Option Addr) (cap : Nat) (hr : CRow w lo hi a l) (hh : hi ≤ w.heap.size) (hs : cnts l ≤ 1048576) :
    Calls Try.prog 148 #[.slice a l.length cap, .func (.func 113) #[] #[]] w fun e w' => ∃ z : Int, e = .returned (.int .i64 z) ∧ (0 ≤ z ↔ plS l = false) ∧ Below w.heap.size w w' := by
  obtain ⟨hm, hr⟩ := hr
  have hn : l.length ≤ 1048576 := Nat.le_trans (len_le_cnts l) hs
  have HCELL : Hid (∀ k, k < l.length → ∃ b o, a = some ⟨b, o, none⟩ ∧ lo ≤ b ∧ b < hi ∧ CAt w lo hi b (o + k * 10) (l.getD k Cm.zero)) := by
    intro k hk
    rcases hr with rfl | ⟨b, o, rfl, g1, g2, hc⟩
    · simp at hk
    · exact ⟨b, o, rfl, g1, g2, hc.get k hk⟩
  clear hr
  have HT : Hid ((∀ i, i < l.length → plB (l.getD i Cm.zero) = true) → plS l = true) := plS_true
  have HF : Hid (∀ k, k < l.length → plB (l.getD k Cm.zero) = false → plS l = false) := fun k hk h => plS_false hk h
  clear hs hm
  generalize hN : l.length = n at *
  clear hN
  go_enter Try.func148, Try.ntmps148
  go_wp2
  go_loopw [5, 8] (fun _ i wr => ∃ k : Nat, k ≤ n ∧ i = .int .i64 k ∧ Hid (∀ i, i < k → plB (l.getD i Cm.zero) = true) ∧ Below w.heap.size w wr) (fun _ i _ => n - (intOf i).toNat)
  case atStart => exact ⟨0, Nat.zero_le _, rfl, fun i hi => by omega, Below.refl _ _⟩
  case round =>
    obtain ⟨k, hk, rfl, hall, hbw⟩ := hrel
    by_cases hlt : k < n
    · obtain ⟨b, o, rfl, e1, e2, hc⟩ := HCELL.out k hlt
      obtain ⟨a0, a1, a2, a3, aA, aB, c0, c1, c2, c3, cA, cB, X, V⟩ := hc.out
      have HF2 : Hid (plB (l.getD k Cm.zero) = false → plS l = false) := HF.out k hlt
      have HS2 : Hid (plB (l.getD k Cm.zero) = true → ∀ i, i < k + 1 → plB (l.getD i Cm.zero) = true) := fun h i hi => by
        by_cases e : i = k
        · subst e; exact h
        · exact hall.out i (by omega)
      clear hc V
      generalize l.getD k Cm.zero = c at *
      replace X := X.below hbw (by omega)
      have x0 := X.e0; have x1 := X.e1; have x2 := X.e2; have x3 := X.e3; have x4 := X.e4; have x5 := X.e5; have x6 := X.e6; have x7 := X.e7; have x8 := X.e8; have x9 := X.e9
      clear X
      have hkn : (k : Int) < (n : Int) := by omega
      go_wp2_with fail
      clear x0 x1 x2 x3 x4 x5 x6 x7 x8 x9
      refine (clo_any c _ _ _ _ _ _ _ _ _ _ _ _ _).mono ?_
      rintro e w1 ⟨rfl, hb⟩
      have M := hbw.trans (hb.mono hbw.size)
      clear hb hbw
      cases hp : plB c
      · have HX : Hid (plS l = false) := HF2.out hp
        simp only [Bool.not_false]
        go_wp2
        go_ret
        exact ⟨k, rfl, ⟨fun _ => HX.out, fun _ => by omega⟩, M⟩
      · simp only [Bool.not_true]
        go_wp2
        go_roundw
        case rel => exact ⟨k + 1, by omega, by go_num, HS2.out hp, M⟩
        case measure => simp [intOf]; omega
    · go_wp2
      go_ret
      obtain rfl : k = n := by omega
      exact ⟨-1, rfl, ⟨fun h => by omega, fun h => by rw [HT.out hall.out] at h; cases h⟩, hbw⟩

set_option maxHeartbeats 1000000 in
theorem conF_any (l : List Cm) (w : World) (lo hi : Nat) (a : Option Addr) (cap : Nat) (hr : CRow w lo hi a l) (hh : hi ≤ w.heap.size) (hs : cnts l ≤ 1048576) :
    Calls Try.prog 112 #[.slice a l.length cap, .func (.func 113) #[] #[]] w fun e w' => e = .returned (.bool (!plS l)) ∧ Below w.heap.size w w' := by
  go_enter Try.func112, Try.ntmps112
  go_wp2_with fail
  refine (idxF_any l _ _ _ _ _ hr hh hs).mono ?_
  rintro e w1 ⟨z, rfl, hz, L⟩
  have HZ : Hid (0 ≤ z ↔ plS l = false) := hz
  clear hz
  go_wp2
  go_ret
  exact ⟨ret_bool (by rw [Bool.eq_iff_iff]; simp [HZ.out]), L⟩

set_option maxHeartbeats 1000000 in
theorem iIsPlain_any (l : List Cm) (w : World) (lo hi : Nat) (a : Option Addr) (cap : Nat) (hr : CRow w lo hi a l) (hh : hi ≤ w.heap.size) (hs : cnts l ≤ 1048576) :
    Calls Try.prog 69 #[.slice a l.length cap] w fun e w' => e = .returned (.bool (plainP l)) ∧ Below w.heap.size w w' := by
  have HV : Hid (plainP l = (progV l && plS l)) := rfl
  go_enter Try.func69, Try.ntmps69
  go_wp2_with fail
  refine (iProgOk_any l _ _ _ _ _ hr hh (by omega)).mono ?_
  rintro e w1 ⟨rfl, L⟩
  cases hok : progV l
  · go_wp2
    go_ret
    exact ⟨ret_bool (by rw [HV.out, hok]; rfl), L⟩
  go_wp2_with fail
  refine (conF_any l _ _ _ _ _ (by exact hr.below L hh) (by exact Nat.le_trans hh L.size) hs).mono ?_
  rintro e w2 ⟨rfl, hb⟩
  have M := L.trans (hb.mono L.size)
  have HV2 : Hid (plainP l = plS l) := by show plainP l = plS l; rw [HV.out, hok]; rfl
  clear hb HV hok
  generalize plS l = g at *
  go_wp2
  go_ret
  exact ⟨ret_bool (by rw [HV2.out]), M⟩

end Go.Proofs.Ytnaeomppceblpaa
