/-
  The contract of spec.l6size.
-/
import Derived.Test.YtccldjodijdciaaSem
import Derived.Test.YtccldjodijdciaaCF
import Derived.Outline
import Derived.Deep.RegionWith
import Derived.Deep.TreeCalls
import Derived.Deep.QuietTactic
namespace Go.Proofs.Ytccldjodijdciaa
open Go.RowKit Go.Deep

theorem Eqv.drewN (lo hi : Nat) (w : World) (n : Nat) : Eqv lo hi w (w.drewN n) := fun _ _ _ _ => rfl
theorem CRow.drewN {w : World} {lo hi : Nat} {a : Option Addr} {l : List Cm} (h : CRow w lo hi a l) (n : Nat) : CRow (w.drewN n) lo hi a l := h.keep (Eqv.drewN _ _ _ _) (Nat.le_refl _) (Nat.le_refl _)
theorem wrap_small {x : Int} (h0 : 0 ≤ x) (h1 : x ≤ 1000000000) : IntKind.i64.wrap x = x := by rw [IntKind.wrap_i64]; omega

/-- What l6size answers for one list. -/
def SizeS (l : List Cm) : Prop := ∀ (w : World) (lo hi : Nat) (a : Option Addr) (cap : Nat), CRow w lo hi a l → cnts l ≤ 1048576 →
    Calls Try.prog 101 #[.slice a l.length cap] w fun e w' => e = .returned (.int .i64 (sizes l)) ∧ ∃ n, w' = w.drewN n

set_option maxHeartbeats 2000000 in
theorem l6size_any : ∀ l : List Cm, SizeS l := by
  refine Cm.ind fun l ih => ?_
  intro w lo hi a cap hr hs
  obtain ⟨hm, hr⟩ := hr
  have hn : l.length ≤ 1048576 := Nat.le_trans (len_le_cnts l) hs
  have HCELL : Hid (∀ k, k < l.length → ∃ b o, a = some ⟨b, o, none⟩ ∧ lo ≤ b ∧ b < hi ∧ CAt w lo hi b (o + k * 10) (l.getD k Cm.zero)) := by
    intro k hk
    rcases hr with rfl | ⟨b, o, rfl, g1, g2, hc⟩
    · simp at hk
    · exact ⟨b, o, rfl, g1, g2, hc.get k hk⟩
  clear hr
  have HIH : Hid (∀ k, k < l.length → SizeS (l.getD k Cm.zero).A ∧ SizeS (l.getD k Cm.zero).B ∧ (l.getD k Cm.zero).cnt ≤ 1048576) := fun k hk => ⟨(ih _ (mem_getD hk)).1, (ih _ (mem_getD hk)).2, by have := cnt_le_cnts hk; omega⟩
  have HST : Hid (∀ k, k < l.length → sizes (l.take (k + 1)) = sizes (l.take k) + (1 + sizes (l.getD k Cm.zero).A + sizes (l.getD k Cm.zero).B)) := fun k hk => by rw [sizes_take_succ hk, Cm.size_eq]
  have HB : Hid (∀ k, sizes (l.take k) ≤ 1048576) := fun k => by have h1 := sizes_take_drop l k; have h2 := sizes_le_cnts l; omega
  have HTK : Hid (∀ k, k = l.length → sizes (l.take k) = sizes l) := fun k hk => by rw [hk, List.take_length]
  clear ih hs hm
  generalize hN : l.length = n at *
  clear hN
  go_enter Try.func101, Try.ntmps101
  go_wp2
  go_loopw [3, 4] (fun v i wr => ∃ k m : Nat, k ≤ n ∧ i = .int .i64 k ∧ v = .int .i64 m ∧ Hid (m = sizes (l.take k)) ∧ ∃ d, wr = w.drewN d) (fun _ i _ => n - (intOf i).toNat)
  case atStart => exact ⟨0, 0, Nat.zero_le _, rfl, rfl, by show 0 = sizes (l.take 0); simp [sizes_nil], 0, rfl⟩
  case round =>
    obtain ⟨k, m, hk, rfl, rfl, hm, d, hd⟩ := hrel
    by_cases hlt : k < n
    · obtain ⟨b, o, rfl, e1, e2, hc⟩ := HCELL.out k hlt
      obtain ⟨HA, HB', hcn⟩ := HIH.out k hlt
      obtain ⟨a0, a1, a2, a3, aA, aB, c0, c1, c2, c3, cA, cB, X, V⟩ := hc.out
      have F := Fit.of hcn
      have HS2 : Hid (sizes (l.take (k + 1)) = m + (1 + sizes (l.getD k Cm.zero).A + sizes (l.getD k Cm.zero).B)) := by
        show _ = _
        rw [HST.out k hlt, hm.out]
      have HB2 := HB.out (k + 1)
      have HB3 : Hid (m + (1 + sizes (l.getD k Cm.zero).A + sizes (l.getD k Cm.zero).B) ≤ 1048576) := by
        have := HS2.out; show _ ≤ _; omega
      clear hc HB2
      generalize l.getD k Cm.zero = c at *
      have x8 : wr.cell? ⟨b, o + k * 10 + 8, none⟩ = some (.slice aA c.A.length cA) := by rw [hd]; exact X.e8
      have x9 : wr.cell? ⟨b, o + k * 10 + 9, none⟩ = some (.slice aB c.B.length cB) := by rw [hd]; exact X.e9
      have rA : CRow wr lo hi aA c.A := by rw [hd]; exact V.rA.drewN d
      have rB : CRow wr lo hi aB c.B := by rw [hd]; exact V.rB.drewN d
      have hD : Hid (wr = w.drewN d) := hd
      have HFA : Hid (cnts c.A ≤ 1048576 ∧ cnts c.B ≤ 1048576) := ⟨F.nA, F.nB⟩
      clear X V hd F
      have hkn : (k : Int) < (n : Int) := by omega
      obtain ⟨sA, hsA⟩ : ∃ s, sizes c.A = s := ⟨_, rfl⟩
      obtain ⟨sB, hsB⟩ : ∃ s, sizes c.B = s := ⟨_, rfl⟩
      rw [hsA, hsB] at HS2 HB3
      have cA' : ∀ q, Calls Try.prog 101 #[.slice aA c.A.length cA] (wr.drewN q) fun e w' => e = .returned (.int .i64 sA) ∧ ∃ n, w' = (wr.drewN q).drewN n := fun q => by
        rw [← hsA]; exact HA _ _ _ _ _ (rA.drewN q) HFA.out.1
      have cB' : ∀ q, Calls Try.prog 101 #[.slice aB c.B.length cB] (wr.drewN q) fun e w' => e = .returned (.int .i64 sB) ∧ ∃ n, w' = (wr.drewN q).drewN n := fun q => by
        rw [← hsB]; exact HB' _ _ _ _ _ (rB.drewN q) HFA.out.2
      have HCA : Hid (∀ q, Calls Try.prog 101 #[.slice aA c.A.length cA] (wr.drewN q) fun e w' => e = .returned (.int .i64 sA) ∧ ∃ n, w' = (wr.drewN q).drewN n) := cA'
      have HCB : Hid (∀ q, Calls Try.prog 101 #[.slice aB c.B.length cB] (wr.drewN q) fun e w' => e = .returned (.int .i64 sB) ∧ ∃ n, w' = (wr.drewN q).drewN n) := cB'
      clear cA' cB' rA rB hsA hsB HA HB'
      go_wp2
      go_quiet (first | (go_at_call_of 101 aA; exact Calls.quiet_of (HCA.out _)) | (go_at_call_of 101 aB; exact Calls.quiet_of (HCB.out _)))
      have h1 := HB3.out
      have w1 : IntKind.i64.wrap ((m : Int) + 1) = m + 1 := wrap_small (by omega) (by omega)
      have w2 : IntKind.i64.wrap ((m : Int) + 1 + sA) = m + 1 + sA := wrap_small (by omega) (by omega)
      have w3 : IntKind.i64.wrap ((m : Int) + 1 + sA + sB) = m + 1 + sA + sB := wrap_small (by omega) (by omega)
      simp only [w1, w2, w3]
      go_wp2
      go_roundw
      case rel => exact ⟨k + 1, m + (1 + sA + sB), by omega, by go_num, by congr 1; omega, HS2.out.symm, _, by rw [hD.out, World.drewN_drewN]⟩
      case measure => simp [intOf]; omega
    · go_wp2
      go_ret
      obtain rfl : k = n := by omega
      exact ⟨ret_int (by rw [← HTK.out k rfl, hm.out]), d, rfl⟩

end Go.Proofs.Ytccldjodijdciaa
