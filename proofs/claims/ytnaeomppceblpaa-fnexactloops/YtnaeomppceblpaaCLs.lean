/-
  The contracts of Loops, in package spec and in package impl.
-/
import Derived.Test.YtnaeomppceblpaaCEw
import Derived.Deep.RegionWith
import Derived.Deep.TreeCalls
import Derived.Deep.QuietTactic
namespace Go.Proofs.Ytnaeomppceblpaa
open Go.RowKit Go.Deep

def lpB (c : Cm) : Bool := decide (c.k = 6)
def lpN (l : List Cm) : Nat := l.countP lpB
def loopsV (l : List Cm) : Int := if progV l = true then (lpN (flats l) : Int) else -1
theorem lpN_le (l : List Cm) : lpN l ≤ l.length := List.countP_le_length
theorem lpN_flats_le (l : List Cm) : lpN (flats l) ≤ cnts l := Nat.le_trans (lpN_le _) (by rw [flats_length]; exact sizes_le_cnts l)
theorem lpN_take_succ {l : List Cm} {k : Nat} (hk : k < l.length) : lpN (flats (l.take (k + 1))) = lpN (flats (l.take k)) + (if (l.getD k Cm.zero).k = 6 then 1 else 0) + lpN (flats (l.getD k Cm.zero).A) + lpN (flats (l.getD k Cm.zero).B) := by
  rw [flats_take_succ hk]
  unfold lpN
  simp only [List.countP_append, List.countP_cons, List.countP_nil, lpB, decide_eq_true_eq]
  omega
theorem lpN_flats_take_le (l : List Cm) (k : Nat) : lpN (flats (l.take k)) ≤ cnts l := Nat.le_trans (lpN_le _) (flats_take_le l k)

def LpS (l : List Cm) : Prop := ∀ (w : World) (lo hi : Nat) (a : Option Addr) (cap : Nat), CRow w lo hi a l → cnts l ≤ 1048576 →
    Calls Try.prog 114 #[.slice a l.length cap] w fun e w' => e = .returned (.int .i64 (lpN (flats l))) ∧ ∃ n, w' = w.drewN n

set_option maxHeartbeats 2000000 in
theorem l6loops_any : ∀ l : List Cm, LpS l := by
  refine Cm.ind fun l ih => ?_
  intro w lo hi a cap hr hs
  obtain ⟨hm, hr⟩ := hr
  have hn : l.length ≤ 1048576 := Nat.le_trans (len_le_cnts l) hs
  have HCELL : Hid (∀ k, k < l.length → ∃ b o, a = some ⟨b, o, none⟩ ∧ lo ≤ b ∧ b < hi ∧ CAt w lo hi b (o + k * 10) (l.getD k Cm.zero)) := by
    intro k hk
    rcases hr with rfl | ⟨b, o, rfl, g1, g2, hc⟩
    · simp at hk
    · exact ⟨b, o, rfl, g1, g2, hc.get k hk⟩
  clear hr
  have HIH : Hid (∀ k, k < l.length → LpS (l.getD k Cm.zero).A ∧ LpS (l.getD k Cm.zero).B ∧ (l.getD k Cm.zero).cnt ≤ 1048576) := fun k hk => ⟨(ih _ (mem_getD hk)).1, (ih _ (mem_getD hk)).2, by have := cnt_le_cnts hk; omega⟩
  have HST : Hid (∀ k, k < l.length → lpN (flats (l.take (k + 1))) = lpN (flats (l.take k)) + (if (l.getD k Cm.zero).k = 6 then 1 else 0) + lpN (flats (l.getD k Cm.zero).A) + lpN (flats (l.getD k Cm.zero).B)) := fun k hk => lpN_take_succ hk
  have HB : Hid (∀ k, lpN (flats (l.take k)) ≤ 1048576) := fun k => Nat.le_trans (lpN_flats_take_le l k) hs
  have HTK : Hid (∀ k, k = l.length → lpN (flats (l.take k)) = lpN (flats l)) := fun k hk => by rw [hk, List.take_length]
  clear ih hs hm
  generalize hN : l.length = n at *
  clear hN
  go_enter Try.func114, Try.ntmps114
  go_wp2
  go_loopw [3, 4] (fun v i wr => ∃ k m : Nat, k ≤ n ∧ i = .int .i64 k ∧ v = .int .i64 m ∧ Hid (m = lpN (flats (l.take k))) ∧ ∃ d, wr = w.drewN d) (fun _ i _ => n - (intOf i).toNat)
  case atStart => exact ⟨0, 0, Nat.zero_le _, rfl, rfl, by show 0 = lpN (flats (l.take 0)); simp [flats_nil, lpN], 0, rfl⟩
  case round =>
    obtain ⟨k, m, hk, rfl, rfl, hm, d, hd⟩ := hrel
    by_cases hlt : k < n
    · obtain ⟨b, o, rfl, e1, e2, hc⟩ := HCELL.out k hlt
      obtain ⟨HA, HB', hcn⟩ := HIH.out k hlt
      obtain ⟨a0, a1, a2, a3, aA, aB, c0, c1, c2, c3, cA, cB, X, V⟩ := hc.out
      have F := Fit.of hcn
      have HS2 : Hid (lpN (flats (l.take (k + 1))) = m + (if (l.getD k Cm.zero).k = 6 then 1 else 0) + lpN (flats (l.getD k Cm.zero).A) + lpN (flats (l.getD k Cm.zero).B)) := by
        show _ = _
        rw [HST.out k hlt, hm.out]
      have HB2 := HB.out (k + 1)
      have HB3 : Hid (m + (if (l.getD k Cm.zero).k = 6 then 1 else 0) + lpN (flats (l.getD k Cm.zero).A) + lpN (flats (l.getD k Cm.zero).B) ≤ 1048576) := by
        have := HS2.out; show _ ≤ _; omega
      clear hc HB2
      generalize l.getD k Cm.zero = c at *
      have x0 : wr.cell? ⟨b, o + k * 10, none⟩ = some (.int .i64 c.k) := by rw [hd]; exact X.e0
      have x8 : wr.cell? ⟨b, o + k * 10 + 8, none⟩ = some (.slice aA c.A.length cA) := by rw [hd]; exact X.e8
      have x9 : wr.cell? ⟨b, o + k * 10 + 9, none⟩ = some (.slice aB c.B.length cB) := by rw [hd]; exact X.e9
      have rA : CRow wr lo hi aA c.A := by rw [hd]; exact V.rA.drewN d
      have rB : CRow wr lo hi aB c.B := by rw [hd]; exact V.rB.drewN d
      have hD : Hid (wr = w.drewN d) := hd
      have HFA : Hid (cnts c.A ≤ 1048576 ∧ cnts c.B ≤ 1048576) := ⟨F.nA, F.nB⟩
      clear X V hd F
      have hkn : (k : Int) < (n : Int) := by omega
      obtain ⟨sA, hsA⟩ : ∃ s, lpN (flats c.A) = s := ⟨_, rfl⟩
      obtain ⟨sB, hsB⟩ : ∃ s, lpN (flats c.B) = s := ⟨_, rfl⟩
      rw [hsA, hsB] at HS2 HB3
      have HCA : Hid (∀ q, Calls Try.prog 114 #[.slice aA c.A.length cA] (wr.drewN q) fun e w' => e = .returned (.int .i64 sA) ∧ ∃ n, w' = (wr.drewN q).drewN n) := fun q => by
        rw [← hsA]; exact HA _ _ _ _ _ (rA.drewN q) HFA.out.1
      have HCB : Hid (∀ q, Calls Try.prog 114 #[.slice aB c.B.length cB] (wr.drewN q) fun e w' => e = .returned (.int .i64 sB) ∧ ∃ n, w' = (wr.drewN q).drewN n) := fun q => by
        rw [← hsB]; exact HB' _ _ _ _ _ (rB.drewN q) HFA.out.2
      clear rA rB hsA hsB HA HB'
      have hB3 := HB3.out
      by_cases h6 : c.k = 6
      · rw [if_pos h6] at hB3
        have HS3 : Hid (lpN (flats (l.take (k + 1))) = m + 1 + sA + sB) := by have := HS2.out; rw [if_pos h6] at this; exact this
        have hm1 : (m : Int) ≤ 1048576 := by omega
        rw [h6] at x0
        clear h6 HS2
        go_wp2
        go_quiet (first | (go_at_call_of 114 aA; exact Calls.quiet_of (HCA.out _)) | (go_at_call_of 114 aB; exact Calls.quiet_of (HCB.out _)))
        have w2 : IntKind.i64.wrap ((m : Int) + 1 + sA) = m + 1 + sA := wrap_small (by omega) (by omega)
        have w3 : IntKind.i64.wrap ((m : Int) + 1 + sA + sB) = m + 1 + sA + sB := wrap_small (by omega) (by omega)
        simp only [w2, w3]
        go_wp2
        go_roundw
        case rel => exact ⟨k + 1, m + 1 + sA + sB, by omega, by go_num, by first | (congr 1; done) | (congr 1; omega), HS3.out.symm, _, by rw [hD.out, World.drewN_drewN]⟩
        case measure => simp [intOf]; omega
      · rw [if_neg h6] at hB3
        have HS3 : Hid (lpN (flats (l.take (k + 1))) = m + sA + sB) := by have := HS2.out; rw [if_neg h6] at this; exact this
        have hm1 : (m : Int) ≤ 1048576 := by omega
        clear HS2
        go_wp2
        go_quiet (first | (go_at_call_of 114 aA; exact Calls.quiet_of (HCA.out _)) | (go_at_call_of 114 aB; exact Calls.quiet_of (HCB.out _)))
        have w2 : IntKind.i64.wrap ((m : Int) + sA) = m + sA := wrap_small (by omega) (by omega)
        have w3 : IntKind.i64.wrap ((m : Int) + sA + sB) = m + sA + sB := wrap_small (by omega) (by omega)
        simp only [w2, w3]
        go_wp2
        go_roundw
        case rel => exact ⟨k + 1, m + sA + sB, by omega, by go_num, by first | (congr 1; done) | (congr 1; omega), HS3.out.symm, _, by rw [hD.out, World.drewN_drewN]⟩
        case measure => simp [intOf]; omega
    · go_wp2
      go_ret
      obtain rfl : k = n := by omega
      exact ⟨ret_int (by rw [← HTK.out k rfl, hm.out]), d, rfl⟩

end Go.Proofs.Ytnaeomppceblpaa
