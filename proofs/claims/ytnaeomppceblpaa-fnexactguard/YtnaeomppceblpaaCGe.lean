/-
  The contracts of Guard.
-/
import Derived.Test.YtnaeomppceblpaaCGd
import Derived.Outline
import Derived.Deep.RegionWith
import Derived.Deep.RegionHeld3
namespace Go.Proofs.Ytnaeomppceblpaa
open Go.RowKit

set_option linter.unusedVariables false in
set_option maxHeartbeats 4000000 in
theorem meets_mk (b0 b1 s0 s1 : Nat) (t h : List Int) (kk : Int) (kx ky : Nat) (q : Bool) (l0 l1 l2 l3 : List (Int × Int)) (A B : List Cm) (a0 a1 a2 a3 aA aB : Option Addr) (c0 c1 c2 c3 cA cB : Nat) (w : World) (h16 : t.length = 16) (hx : kx < 16) (hy : ky < 16) (o0 : S.OwnI w b0 t.length t t.length) :
    Calls Try.prog 121 #[.agg #[.slice (some ⟨b0, 0, none⟩) t.length s0, .slice (some ⟨b1, 0, none⟩) h.length s1], .agg #[.int .i64 kk, .int .i64 kx, .int .i64 ky, .bool q, .slice a0 l0.length c0, .slice a1 l1.length c1, .slice a2 l2.length c2, .slice a3 l3.length c3, .slice aA A.length cA, .slice aB B.length cB]] w fun e w' => e = .returned (.bool (condN t kx ky q)) ∧ Below w.heap.size w w' := by
  have HV : Hid (condN t kx ky q = ((t.getD kx 0 == t.getD ky 0) == q)) := rfl
  have L : Below w.heap.size w ((w.alloc (.cells #[.slice (some ⟨b0, 0, none⟩) t.length s0, .slice (some ⟨b1, 0, none⟩) h.length s1] 43)).alloc (.cells #[.int .i64 kk, .int .i64 kx, .int .i64 ky, .bool q, .slice a0 l0.length c0, .slice a1 l1.length c1, .slice a2 l2.length c2, .slice a3 l3.length c3, .slice aA A.length cA, .slice aB B.length cB] 59)) := ((Below.refl _ _).alloc (Nat.le_refl _) _).alloc (by simp) _
  have X := (S.Box.new w (.slice (some ⟨b0, 0, none⟩) t.length s0) (.slice (some ⟨b1, 0, none⟩) h.length s1) 43).alloc (.cells #[.int .i64 kk, .int .i64 kx, .int .i64 ky, .bool q, .slice a0 l0.length c0, .slice a1 l1.length c1, .slice a2 l2.length c2, .slice a3 l3.length c3, .slice aA A.length cA, .slice aB B.length cB] 59)
  have Y := B10.new (w.alloc (.cells #[.slice (some ⟨b0, 0, none⟩) t.length s0, .slice (some ⟨b1, 0, none⟩) h.length s1] 43)) (.int .i64 kk) (.int .i64 kx) (.int .i64 ky) (.bool q) (.slice a0 l0.length c0) (.slice a1 l1.length c1) (.slice a2 l2.length c2) (.slice a3 l3.length c3) (.slice aA A.length cA) (.slice aB B.length cB) 59
  simp only [World.size_alloc] at Y
  have HC : Hid (∀ (k : Nat) w', k < 16 → Below w.heap.size w w' → Calls Try.prog 151 #[.agg #[.slice (some ⟨b0, 0, none⟩) t.length s0, .slice (some ⟨b1, 0, none⟩) h.length s1], .int .i64 k] w' fun e w'' => e = .returned (.int .i64 (t.getD k 0)) ∧ Below w'.heap.size w' w'') := fun k w' hk hb => by
    exact addrOf_any _ _ _ _ t h k w' h16 hk (o0.below hb o0.1)
  have keepS : ∀ {w' w'' : World}, (Below w.heap.size w w' ∧ w.heap.size + 1 < w'.heap.size ∧ w'.cell? ⟨w.heap.size, 0, none⟩ = some (.slice (some ⟨b0, 0, none⟩) t.length s0) ∧ w'.cell? ⟨w.heap.size, 1, none⟩ = some (.slice (some ⟨b1, 0, none⟩) h.length s1) ∧ w'.cell? ⟨w.heap.size + 1, 1, none⟩ = some (.int .i64 kx) ∧ w'.cell? ⟨w.heap.size + 1, 2, none⟩ = some (.int .i64 ky) ∧ w'.cell? ⟨w.heap.size + 1, 3, none⟩ = some (.bool q)) → Below w'.heap.size w' w'' → (Below w.heap.size w w'' ∧ w.heap.size + 1 < w''.heap.size ∧ w''.cell? ⟨w.heap.size, 0, none⟩ = some (.slice (some ⟨b0, 0, none⟩) t.length s0) ∧ w''.cell? ⟨w.heap.size, 1, none⟩ = some (.slice (some ⟨b1, 0, none⟩) h.length s1) ∧ w''.cell? ⟨w.heap.size + 1, 1, none⟩ = some (.int .i64 kx) ∧ w''.cell? ⟨w.heap.size + 1, 2, none⟩ = some (.int .i64 ky) ∧ w''.cell? ⟨w.heap.size + 1, 3, none⟩ = some (.bool q)) := fun {w' w''} hS hb => by
    obtain ⟨h1, h2, h3, h4, h5, h6, h7⟩ := hS
    exact ⟨h1.trans (hb.mono h1.size), Nat.lt_of_lt_of_le h2 hb.size, (hb.cell (p := ⟨w.heap.size, 0, none⟩) (by show w.heap.size < w'.heap.size; omega)).trans h3, (hb.cell (p := ⟨w.heap.size, 1, none⟩) (by show w.heap.size < w'.heap.size; omega)).trans h4, (hb.cell (p := ⟨w.heap.size + 1, 1, none⟩) h2).trans h5, (hb.cell (p := ⟨w.heap.size + 1, 2, none⟩) h2).trans h6, (hb.cell (p := ⟨w.heap.size + 1, 3, none⟩) h2).trans h7⟩
  have hS0 : (Below w.heap.size w ((w.alloc (.cells #[.slice (some ⟨b0, 0, none⟩) t.length s0, .slice (some ⟨b1, 0, none⟩) h.length s1] 43)).alloc (.cells #[.int .i64 kk, .int .i64 kx, .int .i64 ky, .bool q, .slice a0 l0.length c0, .slice a1 l1.length c1, .slice a2 l2.length c2, .slice a3 l3.length c3, .slice aA A.length cA, .slice aB B.length cB] 59)).drew ∧ w.heap.size + 1 < ((w.alloc (.cells #[.slice (some ⟨b0, 0, none⟩) t.length s0, .slice (some ⟨b1, 0, none⟩) h.length s1] 43)).alloc (.cells #[.int .i64 kk, .int .i64 kx, .int .i64 ky, .bool q, .slice a0 l0.length c0, .slice a1 l1.length c1, .slice a2 l2.length c2, .slice a3 l3.length c3, .slice aA A.length cA, .slice aB B.length cB] 59)).drew.heap.size ∧ ((w.alloc (.cells #[.slice (some ⟨b0, 0, none⟩) t.length s0, .slice (some ⟨b1, 0, none⟩) h.length s1] 43)).alloc (.cells #[.int .i64 kk, .int .i64 kx, .int .i64 ky, .bool q, .slice a0 l0.length c0, .slice a1 l1.length c1, .slice a2 l2.length c2, .slice a3 l3.length c3, .slice aA A.length cA, .slice aB B.length cB] 59)).drew.cell? ⟨w.heap.size, 0, none⟩ = some (.slice (some ⟨b0, 0, none⟩) t.length s0) ∧ ((w.alloc (.cells #[.slice (some ⟨b0, 0, none⟩) t.length s0, .slice (some ⟨b1, 0, none⟩) h.length s1] 43)).alloc (.cells #[.int .i64 kk, .int .i64 kx, .int .i64 ky, .bool q, .slice a0 l0.length c0, .slice a1 l1.length c1, .slice a2 l2.length c2, .slice a3 l3.length c3, .slice aA A.length cA, .slice aB B.length cB] 59)).drew.cell? ⟨w.heap.size, 1, none⟩ = some (.slice (some ⟨b1, 0, none⟩) h.length s1) ∧ ((w.alloc (.cells #[.slice (some ⟨b0, 0, none⟩) t.length s0, .slice (some ⟨b1, 0, none⟩) h.length s1] 43)).alloc (.cells #[.int .i64 kk, .int .i64 kx, .int .i64 ky, .bool q, .slice a0 l0.length c0, .slice a1 l1.length c1, .slice a2 l2.length c2, .slice a3 l3.length c3, .slice aA A.length cA, .slice aB B.length cB] 59)).drew.cell? ⟨w.heap.size + 1, 1, none⟩ = some (.int .i64 kx) ∧ ((w.alloc (.cells #[.slice (some ⟨b0, 0, none⟩) t.length s0, .slice (some ⟨b1, 0, none⟩) h.length s1] 43)).alloc (.cells #[.int .i64 kk, .int .i64 kx, .int .i64 ky, .bool q, .slice a0 l0.length c0, .slice a1 l1.length c1, .slice a2 l2.length c2, .slice a3 l3.length c3, .slice aA A.length cA, .slice aB B.length cB] 59)).drew.cell? ⟨w.heap.size + 1, 2, none⟩ = some (.int .i64 ky) ∧ ((w.alloc (.cells #[.slice (some ⟨b0, 0, none⟩) t.length s0, .slice (some ⟨b1, 0, none⟩) h.length s1] 43)).alloc (.cells #[.int .i64 kk, .int .i64 kx, .int .i64 ky, .bool q, .slice a0 l0.length c0, .slice a1 l1.length c1, .slice a2 l2.length c2, .slice a3 l3.length c3, .slice aA A.length cA, .slice aB B.length cB] 59)).drew.cell? ⟨w.heap.size + 1, 3, none⟩ = some (.bool q)) := ⟨L.drew, by simp, X.c0, X.c1, Y.c1, Y.c2, Y.c3⟩
  have HK : Hid (∀ {w' w'' : World}, (Below w.heap.size w w' ∧ w.heap.size + 1 < w'.heap.size ∧ w'.cell? ⟨w.heap.size, 0, none⟩ = some (.slice (some ⟨b0, 0, none⟩) t.length s0) ∧ w'.cell? ⟨w.heap.size, 1, none⟩ = some (.slice (some ⟨b1, 0, none⟩) h.length s1) ∧ w'.cell? ⟨w.heap.size + 1, 1, none⟩ = some (.int .i64 kx) ∧ w'.cell? ⟨w.heap.size + 1, 2, none⟩ = some (.int .i64 ky) ∧ w'.cell? ⟨w.heap.size + 1, 3, none⟩ = some (.bool q)) → Below w'.heap.size w' w'' → (Below w.heap.size w w'' ∧ w.heap.size + 1 < w''.heap.size ∧ w''.cell? ⟨w.heap.size, 0, none⟩ = some (.slice (some ⟨b0, 0, none⟩) t.length s0) ∧ w''.cell? ⟨w.heap.size, 1, none⟩ = some (.slice (some ⟨b1, 0, none⟩) h.length s1) ∧ w''.cell? ⟨w.heap.size + 1, 1, none⟩ = some (.int .i64 kx) ∧ w''.cell? ⟨w.heap.size + 1, 2, none⟩ = some (.int .i64 ky) ∧ w''.cell? ⟨w.heap.size + 1, 3, none⟩ = some (.bool q))) := @keepS
  clear o0 L X Y keepS h16
  generalize t.length = tn at *
  generalize h.length = hn at *
  go_enter Try.func121, Try.ntmps121
  go_wp2_with fail
  generalize ((w.alloc (.cells #[.slice (some ⟨b0, 0, none⟩) tn s0, .slice (some ⟨b1, 0, none⟩) hn s1] 43)).alloc (.cells #[.int .i64 kk, .int .i64 kx, .int .i64 ky, .bool q, .slice a0 l0.length c0, .slice a1 l1.length c1, .slice a2 l2.length c2, .slice a3 l3.length c3, .slice aA A.length cA, .slice aB B.length cB] 59)) = W at *
  go_region_held3 (fun w' => (Below w.heap.size w w' ∧ w.heap.size + 1 < w'.heap.size ∧ w'.cell? ⟨w.heap.size, 0, none⟩ = some (.slice (some ⟨b0, 0, none⟩) tn s0) ∧ w'.cell? ⟨w.heap.size, 1, none⟩ = some (.slice (some ⟨b1, 0, none⟩) hn s1) ∧ w'.cell? ⟨w.heap.size + 1, 1, none⟩ = some (.int .i64 kx) ∧ w'.cell? ⟨w.heap.size + 1, 2, none⟩ = some (.int .i64 ky) ∧ w'.cell? ⟨w.heap.size + 1, 3, none⟩ = some (.bool q)))
    (first | exact hS0 | assumption | (refine ⟨?_, ?_, ?_, ?_, ?_, ?_, ?_⟩ <;> assumption))
    (first
      | (go_at_call_of 151 (Value.int IntKind.i64 (kx : Int)); refine (HC.out kx _ hx hS0.1).mono ?_; rintro e v0 ⟨rfl, g0⟩; have k0 := HK.out hS0 g0)
      | (go_at_call_of 151 (Value.int IntKind.i64 (ky : Int)); refine (HC.out ky _ hy k0.1).mono ?_; rintro e v1 ⟨rfl, g1⟩; have k1 := HK.out k0 g1))
  all_goals
    go_wp2
    go_ret
    exact ⟨ret_bool (by rw [HV.out]; simp), k1.1⟩

theorem condV_mk {t : List Int} {kk : Int} {kx ky : Nat} {q : Bool} {l0 l1 l2 l3 : List (Int × Int)} {A B : List Cm} : condV t (.mk kk kx ky q l0 l1 l2 l3 A B) = condN t kx ky q := by
  show condN t ((kx : Int).toNat) ((ky : Int).toNat) q = _
  simp

theorem l6cond_of (b0 b1 s0 s1 : Nat) (t h : List Int) (c : Cm) (a0 a1 a2 a3 aA aB : Option Addr) (c0 c1 c2 c3 cA cB : Nat) (w : World) (h16 : t.length = 16) (hx : isVal c.x = true) (hy : isVal c.y = true) (o0 : S.OwnI w b0 t.length t t.length) :
    Calls Try.prog 120 #[.agg #[.slice (some ⟨b0, 0, none⟩) t.length s0, .slice (some ⟨b1, 0, none⟩) h.length s1], .agg #[.int .i64 c.k, .int .i64 c.x, .int .i64 c.y, .bool c.q, .slice a0 c.l0.length c0, .slice a1 c.l1.length c1, .slice a2 c.l2.length c2, .slice a3 c.l3.length c3, .slice aA c.A.length cA, .slice aB c.B.length cB]] w fun e w' => e = .returned (.bool (condV t c)) ∧ Below w.heap.size w w' := by
  simp only [isVal, decide_eq_true_eq] at hx hy
  cases c with
  | mk kk x y q l0 l1 l2 l3 A B =>
    have hx' : 0 ≤ x ∧ x ≤ 5 := hx
    have hy' : 0 ≤ y ∧ y ≤ 5 := hy
    obtain ⟨kx, rfl⟩ := Int.eq_ofNat_of_zero_le hx'.1
    obtain ⟨ky, rfl⟩ := Int.eq_ofNat_of_zero_le hy'.1
    rw [condV_mk]
    exact l6cond_mk b0 b1 s0 s1 t h kk kx ky q l0 l1 l2 l3 A B a0 a1 a2 a3 aA aB c0 c1 c2 c3 cA cB w h16 (by omega) (by omega) o0

theorem meets_of (b0 b1 s0 s1 : Nat) (t h : List Int) (c : Cm) (a0 a1 a2 a3 aA aB : Option Addr) (c0 c1 c2 c3 cA cB : Nat) (w : World) (h16 : t.length = 16) (hx : isVal c.x = true) (hy : isVal c.y = true) (o0 : S.OwnI w b0 t.length t t.length) :
    Calls Try.prog 121 #[.agg #[.slice (some ⟨b0, 0, none⟩) t.length s0, .slice (some ⟨b1, 0, none⟩) h.length s1], .agg #[.int .i64 c.k, .int .i64 c.x, .int .i64 c.y, .bool c.q, .slice a0 c.l0.length c0, .slice a1 c.l1.length c1, .slice a2 c.l2.length c2, .slice a3 c.l3.length c3, .slice aA c.A.length cA, .slice aB c.B.length cB]] w fun e w' => e = .returned (.bool (condV t c)) ∧ Below w.heap.size w w' := by
  simp only [isVal, decide_eq_true_eq] at hx hy
  cases c with
  | mk kk x y q l0 l1 l2 l3 A B =>
    have hx' : 0 ≤ x ∧ x ≤ 5 := hx
    have hy' : 0 ≤ y ∧ y ≤ 5 := hy
    obtain ⟨kx, rfl⟩ := Int.eq_ofNat_of_zero_le hx'.1
    obtain ⟨ky, rfl⟩ := Int.eq_ofNat_of_zero_le hy'.1
    rw [condV_mk]
    exact meets_mk b0 b1 s0 s1 t h kk kx ky q l0 l1 l2 l3 A B a0 a1 a2 a3 aA aB c0 c1 c2 c3 cA cB w h16 (by omega) (by omega) o0

theorem cmdV_vals {c : Cm} (h : cmdV c = true) (h5 : 5 ≤ c.k) : isVal c.x = true ∧ isVal c.y = true := by
  unfold cmdV at h
  simp only [Bool.and_eq_true] at h
  have h0 := h.1
  by_cases k5 : c.k = 5
  · rw [ok_if (by omega) k5] at h0
    simp only [Bool.and_eq_true] at h0
    exact ⟨h0.1, h0.2.1⟩
  · by_cases k6 : c.k = 6
    · rw [ok_while (by omega) k6] at h0
      simp only [Bool.and_eq_true] at h0
      exact ⟨h0.1, h0.2.1⟩
    · rw [ok_no (.inr (by omega))] at h0; cases h0
theorem sOk_len {t h : List Int} (hs : S.sOk t h = true) : t.length = 16 := by
  unfold S.sOk S.tOk at hs
  simp only [Bool.and_eq_true, decide_eq_true_eq] at hs
  exact hs.1.1

end Go.Proofs.Ytnaeomppceblpaa
