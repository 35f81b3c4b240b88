/-
  The contracts of Deep, in package spec and in package impl.
-/
import Derived.Test.YtnaeomppceblpaaCTop
import Derived.Outline
import Derived.Deep.RegionWith
namespace Go.Proofs.Ytnaeomppceblpaa
open Go.RowKit Go.Deep

mutual
/-- How deep a command is. -/
def Cm.deep : Cm → Nat
  | .mk _ _ _ _ _ _ _ _ A B => 1 + max (deeps A) (deeps B)
def deeps : List Cm → Nat
  | [] => 0
  | c :: l => max c.deep (deeps l)
end
theorem Cm.deep_eq (c : Cm) : c.deep = 1 + max (deeps c.A) (deeps c.B) := by
  cases c with
  | mk k x y q l0 l1 l2 l3 A B => simp [Cm.deep, Cm.A, Cm.B]
theorem deeps_nil : deeps [] = 0 := by simp [deeps]
theorem deeps_cons (c : Cm) (l : List Cm) : deeps (c :: l) = max c.deep (deeps l) := by simp [deeps]
theorem deeps_append (l r : List Cm) : deeps (l ++ r) = max (deeps l) (deeps r) := by
  induction l with
  | nil => simp [deeps_nil]
  | cons c l ih => rw [List.cons_append, deeps_cons, deeps_cons, ih]; omega
theorem deeps_take_succ {l : List Cm} {k : Nat} (hk : k < l.length) : deeps (l.take (k + 1)) = max (deeps (l.take k)) (1 + max (deeps (l.getD k Cm.zero).A) (deeps (l.getD k Cm.zero).B)) := by
  rw [List.take_succ_eq_append_getElem hk, deeps_append, deeps_cons, deeps_nil, List.getD_eq_getElem?_getD, List.getElem?_eq_getElem hk, ← Cm.deep_eq]
  simp
theorem deeps_le_cnts : ∀ l : List Cm, deeps l ≤ cnts l := by
  refine Cm.ind fun l ih => ?_
  induction l with
  | nil => simp [deeps_nil]
  | cons c l ihl =>
    rw [deeps_cons, cnts_cons, c.deep_eq, c.cnt_eq]
    have h1 := (ih c (List.mem_cons_self ..)).1
    have h2 := (ih c (List.mem_cons_self ..)).2
    have h3 := ihl fun c hc => ih c (List.mem_cons_of_mem _ hc)
    omega
theorem deeps_take_le (l : List Cm) (k : Nat) : deeps (l.take k) ≤ deeps l := by
  have h := deeps_append (l.take k) (l.drop k)
  rw [List.take_append_drop] at h; omega

def DeepS (l : List Cm) : Prop := ∀ (w : World) (lo hi : Nat) (a : Option Addr) (cap : Nat), CRow w lo hi a l → cnts l ≤ 1048576 →
    Calls Try.prog 110 #[.slice a l.length cap] w fun e w' => e = .returned (.int .i64 (deeps l)) ∧ w' = w

set_option maxHeartbeats 2000000 in
theorem l6deep_any : ∀ l : List Cm, DeepS l := by
  refine Cm.ind fun l ih => ?_
  intro w lo hi a cap hr hs
  obtain ⟨hm, hr⟩ := hr
  have hn : l.length ≤ 1048576 := Nat.le_trans (len_le_cnts l) hs
  have HCELL : Hid (∀ k, k < l.length → ∃ b o, a = some ⟨b, o, none⟩ ∧ lo ≤ b ∧ b < hi ∧ CAt w lo hi b (o + k * 10) (l.getD k Cm.zero)) := by
    intro k hk
    rcases hr with rfl | ⟨b, o, rfl, g1, g2, hc⟩
    · simp at hk
    · exact ⟨b, o, rfl, g1, g2, hc.get k hk⟩
  clear hr
  have HIH : Hid (∀ k, k < l.length → DeepS (l.getD k Cm.zero).A ∧ DeepS (l.getD k Cm.zero).B ∧ (l.getD k Cm.zero).cnt ≤ 1048576) := fun k hk => ⟨(ih _ (mem_getD hk)).1, (ih _ (mem_getD hk)).2, by have := cnt_le_cnts hk; omega⟩
  have HST : Hid (∀ k, k < l.length → deeps (l.take (k + 1)) = max (deeps (l.take k)) (1 + max (deeps (l.getD k Cm.zero).A) (deeps (l.getD k Cm.zero).B))) := fun k hk => deeps_take_succ hk
  have HTK : Hid (∀ k, k = l.length → deeps (l.take k) = deeps l) := fun k hk => by rw [hk, List.take_length]
  clear ih hs hm
  generalize hN : l.length = n at *
  clear hN
  go_enter Try.func110, Try.ntmps110
  go_wp2
  go_loopw [3, 4, 5, 6] (fun v i _ _ wr => ∃ k m : Nat, k ≤ n ∧ i = .int .i64 k ∧ v = .int .i64 m ∧ Hid (m = deeps (l.take k)) ∧ wr = w) (fun _ i _ _ _ => n - (intOf i).toNat)
  case atStart => exact ⟨0, 0, Nat.zero_le _, rfl, rfl, by show 0 = deeps (l.take 0); simp [deeps_nil], rfl⟩
  case round =>
    obtain ⟨k, m, hk, rfl, rfl, hm, rfl⟩ := hrel
    by_cases hlt : k < n
    · obtain ⟨b, o, rfl, e1, e2, hc⟩ := HCELL.out k hlt
      obtain ⟨HA, HB, hcn⟩ := HIH.out k hlt
      obtain ⟨a0, a1, a2, a3, aA, aB, c0, c1, c2, c3, cA, cB, X, V⟩ := hc.out
      have F := Fit.of hcn
      have HS2 : Hid (deeps (l.take (k + 1)) = max m (1 + max (deeps (l.getD k Cm.zero).A) (deeps (l.getD k Cm.zero).B))) := by
        show _ = _
        rw [HST.out k hlt, hm.out]
      clear hc hm
      generalize l.getD k Cm.zero = c at *
      have x8 := X.e8; have x9 := X.e9
      clear X
      have hkn : (k : Int) < (n : Int) := by omega
      have bA := deeps_le_cnts c.A
      have bB := deeps_le_cnts c.B
      have fA := F.nA; have fB := F.nB
      have HFF : Hid (deeps c.A ≤ 1048576 ∧ deeps c.B ≤ 1048576) := ⟨by omega, by omega⟩
      clear bA bB fA fB
      go_wp2_with fail
      refine (HA _ _ _ _ _ V.rA F.nA).mono ?_
      rintro e w1 ⟨rfl, rfl⟩
      go_wp2_with fail
      refine (HB _ _ _ _ _ V.rB F.nB).mono ?_
      rintro e w1 ⟨rfl, rfl⟩
      obtain ⟨fA, fB⟩ := HFF.out
      obtain ⟨sA, hsA⟩ : ∃ s, deeps c.A = s := ⟨_, rfl⟩
      obtain ⟨sB, hsB⟩ : ∃ s, deeps c.B = s := ⟨_, rfl⟩
      rw [hsA] at fA HS2 ⊢
      rw [hsB] at fB HS2 ⊢
      clear hsA hsB HFF V F HA HB
      have w1 : wrap64 (1 + (sA : Int)) = 1 + sA := by unfold wrap64; omega
      have w2 : wrap64 (1 + (sB : Int)) = 1 + sB := by unfold wrap64; omega
      have fA' : (sA : Int) ≤ 1048576 := by omega
      have fB' : (sB : Int) ≤ 1048576 := by omega
      by_cases q1 : 1 + (sA : Int) < 1 + sB
      · by_cases q2 : (m : Int) < 1 + sB
        · go_wp2
          go_roundw
          case rel => exact ⟨k + 1, 1 + sB, by omega, by go_num, by go_num, by have := HS2.out; show _ = _; omega, by first | rfl | trivial⟩
          case measure => simp [intOf]; omega
        · go_wp2
          go_roundw
          case rel => exact ⟨k + 1, m, by omega, by go_num, by go_num, by have := HS2.out; show _ = _; omega, by first | rfl | trivial⟩
          case measure => simp [intOf]; omega
      · by_cases q2 : (m : Int) < 1 + sA
        · go_wp2
          go_roundw
          case rel => exact ⟨k + 1, 1 + sA, by omega, by go_num, by go_num, by have := HS2.out; show _ = _; omega, by first | rfl | trivial⟩
          case measure => simp [intOf]; omega
        · go_wp2
          go_roundw
          case rel => exact ⟨k + 1, m, by omega, by go_num, by go_num, by have := HS2.out; show _ = _; omega, by first | rfl | trivial⟩
          case measure => simp [intOf]; omega
    · go_wp2
      go_ret
      obtain rfl : k = n := by omega
      exact ⟨ret_int (by rw [← HTK.out k rfl, hm.out]), rfl⟩

end Go.Proofs.Ytnaeomppceblpaa
