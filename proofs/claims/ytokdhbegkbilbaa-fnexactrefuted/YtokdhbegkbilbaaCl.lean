/-
  The contract of spec.l2claim.
-/
import Derived.Test.YtokdhbegkbilbaaSpc
namespace Go.Proofs.Ytokdhbegkbilbaa
open Go.RowKit Go.Maps

theorem getD_mem3 {l : List Int} {i : Nat} (h : i < l.length) : l.getD i 0 ∈ l := by
  simp [h]

set_option maxHeartbeats 1000000 in
theorem claim_some (bI cI bg cg : Nat) (SS l : List Int) (w : World) (hn : l.length ≤ 100) (hnd : SS.Nodup) (hok : ∀ q ∈ l, 0 ≤ q ∧ q ≤ 6) (hne : bg ≠ bI) (hI : BRow w bI (fun j => decide ((j : Int) ∈ SS))) (og : OwnI w bg l.length l l.length) :
    Calls Try.prog 123 #[.slice (some ⟨bI, 0, none⟩) 7 cI, .slice (some ⟨bg, 0, none⟩) l.length cg] w fun e w' => e = .returned (.bool (decide (SS ++ l).Nodup)) ∧ ((SS ++ l).Nodup → BRow w' bI (fun j => decide ((j : Int) ∈ SS ++ l))) ∧ Out bI (bI + 1) w w' := by
  have HOK : Hid (∀ q ∈ l, 0 ≤ q ∧ q ≤ 6) := hok
  have HTk : Hid (∀ k, k < l.length → l.take (k + 1) = l.take k ++ [l.getD k 0]) := fun k hk => take_snoc hk
  have HTA : Hid (l.take l.length = l) := List.take_length
  have HND : Hid ((SS ++ l.take 0).Nodup) := by show (SS ++ l.take 0).Nodup; simpa using hnd
  have HM3 : Hid (∀ j, j < l.length → l.getD j 0 ∈ l) := fun j hj => getD_mem3 hj
  have h0 : BRow w bI (fun j => decide ((j : Int) ∈ SS ++ l.take 0)) := by simpa using hI
  have HD : Hid (∀ j (a : Int), l.take (j + 1) = l.take j ++ [a] → a ∈ SS ++ l.take j → decide (SS ++ l).Nodup = false) := fun j a HE ca => by
    refine decide_eq_false fun hnd => ?_
    have e1 : l = l.take (j + 1) ++ l.drop (j + 1) := (List.take_append_drop _ _).symm
    rw [e1, HE, ← List.append_assoc, ← List.append_assoc] at hnd
    exact (List.nodup_append.1 (List.nodup_append.1 hnd).1).2.2 a ca a (by simp) rfl
  have HDN : Hid (∀ j : World, decide (SS ++ l).Nodup = false → (SS ++ l).Nodup → BRow (j : World) bI (fun (j : Nat) => decide ((j : Int) ∈ SS ++ l))) := fun j h1 h2 => absurd h2 (of_decide_eq_false h1)
  clear hok hnd hI
  generalize hN : l.length = n at *
  clear hN
  go_enter Try.func123, Try.ntmps123
  go_wp2
  go_loopw [5] (fun i wr => ∃ j : Nat, j ≤ n ∧ i = .int .i64 j ∧ BRow wr bI (fun q => decide ((q : Int) ∈ SS ++ l.take j)) ∧ Out bI (bI + 1) w wr ∧ Hid ((SS ++ l.take j).Nodup)) (fun i _ => n - (intOf i).toNat)
  case atStart => exact ⟨0, by omega, rfl, h0, Out.refl _ _ _, HND⟩
  case round =>
    clear h0 HND
    obtain ⟨j, hj, rfl, hI, hO, HJ⟩ := hrel
    by_cases hjl : j < n
    · have hx := (og.out hO (by omega)).2.2 j hjl
      have hji : (j : Int) < (n : Int) := by omega
      have hmem := HM3.out j hjl
      obtain ⟨a, ea⟩ : ∃ a, Hid (l.getD j 0 = a) := ⟨_, rfl⟩
      rw [ea.out] at hx hmem
      have hra := HOK.out a hmem
      obtain ⟨m, rfl⟩ : ∃ m : Nat, a = m := ⟨a.toNat, by omega⟩
      have HE : Hid (l.take (j + 1) = l.take j ++ [(m : Int)]) := by have := HTk.out j hjl; rw [ea.out] at this; exact this
      have hm7 : (m : Int) < 7 := by omega
      have hf1 : wr.cell? ⟨bI, m, none⟩ = some (.bool (decide ((m : Int) ∈ SS ++ l.take j))) := (hI.2 m (by omega)).1
      have hf2 := (hI.2 m (by omega)).2
      clear hmem
      by_cases ca : (m : Int) ∈ SS ++ l.take j
      · have HV : Hid (decide (SS ++ l).Nodup = false) := HD.out j m HE.out ca
        rw [decide_eq_true ca] at hf1
        clear ca
        go_wp2
        go_ret
        exact ⟨ret_bool HV.out.symm, fun h => HDN.out _ HV.out h, hO⟩
      · rw [decide_eq_false ca] at hf1
        have HJ2 : Hid ((SS ++ l.take (j + 1)).Nodup) := by show (SS ++ l.take (j + 1)).Nodup; rw [HE.out, ← List.append_assoc]; exact nodup_snoc HJ.out ca
        have hI2 := hI.set m (fun q => decide ((q : Int) ∈ SS ++ l.take (j + 1))) (fun q _ => by rw [HE.out]; simp [Int.natCast_inj, Bool.or_assoc])
        have hO2 := hO.trans (Out.set bI m wr (.bool true))
        have hx2 := (og.out hO2 (by omega)).2.2 j hjl
        rw [ea.out] at hx2
        clear ca hI hO
        go_wp2
        go_roundw
        case rel => exact ⟨j + 1, hjl, by go_num, hI2, hO2, HJ2⟩
        case measure => have := hjl; simp [intOf]; omega
    · obtain rfl : j = n := by omega
      rw [HTA.out] at hI
      have HV : Hid ((SS ++ l).Nodup) := by have := HJ.out; rw [HTA.out] at this; exact this
      clear HJ
      go_wp2
      go_ret
      exact ⟨ret_bool (decide_eq_true HV.out).symm, fun _ => hI, hO⟩

set_option maxHeartbeats 400000 in
theorem claim_nil (bI cI cg : Nat) (a : Option Addr) (w : World) :
    Calls Try.prog 123 #[.slice (some ⟨bI, 0, none⟩) 7 cI, .slice a 0 cg] w fun e w' => e = .returned (.bool true) ∧ w' = w := by
  go_enter Try.func123, Try.ntmps123
  go_wp2
  go_loop [5] (fun i => i = .int .i64 0) (fun _ => 0)
  case atStart => exact rfl
  case round =>
    subst hrel
    go_wp2
    go_ret
    exact ⟨rfl, rfl⟩

theorem claim_any (bI cI lo hi n cg : Nat) (a : Option Addr) (SS l : List Int) (w : World) (hn : n ≤ 100) (hnd : SS.Nodup) (hok : ∀ q ∈ l, 0 ≤ q ∧ q ≤ 6) (hne : bI < lo) (hI : BRow w bI (fun j => decide ((j : Int) ∈ SS))) (og : IntIn w lo hi a n l) :
    Calls Try.prog 123 #[.slice (some ⟨bI, 0, none⟩) 7 cI, .slice a n cg] w fun e w' => e = .returned (.bool (decide (SS ++ l).Nodup)) ∧ ((SS ++ l).Nodup → BRow w' bI (fun j => decide ((j : Int) ∈ SS ++ l))) ∧ Out bI (bI + 1) w w' := by
  obtain ⟨rfl, h0 | ⟨b, rfl, h1, h2, h3⟩⟩ := og
  · obtain rfl : l = [] := List.eq_nil_of_length_eq_zero h0
    refine (claim_nil bI cI cg a w).mono fun e w' ⟨he, hw⟩ => ⟨by rw [he]; simp [hnd], fun _ => by rw [hw]; simpa using hI, hw ▸ Out.refl _ _ _⟩
  · exact claim_some bI cI b cg SS l w hn hnd hok (by omega) hI h3

end Go.Proofs.Ytokdhbegkbilbaa
