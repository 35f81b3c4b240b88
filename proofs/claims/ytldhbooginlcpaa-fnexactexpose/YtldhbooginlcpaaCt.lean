/-
  What is contrary: the contract of spec.l3contra.
-/
import Derived.Test.YtldhbooginlcpaaIx
import Derived.Test.YtldhbooginlcpaaHs
import Derived.Test.YtldhbooginlcpaaHc
import Derived.Deep.QuietTactic
import Derived.BigQuiet
namespace Go.Proofs.Ytldhbooginlcpaa
open Go.RowKit
def sameV (c : List Int) (l : List (Int × Int)) : Bool := l.any fun p => decide (c.getD p.1.toNat 0 = c.getD p.2.toNat 0)
def dupV (h : List Int) : Bool := (List.range h.length).any fun i => decide (h.getD i 0 = 0) || hasV (h.take i) (h.getD i 0)
def contraV (c : List Int) (l1 l2 l3 : List (Int × Int)) : Bool := sameV c l1 || dupV (headsV c l2 l3)
theorem same_hit {c : List Int} {l : List (Int × Int)} {k : Nat} (hk : k < l.length) (h : c.getD (l.getD k (0, 0)).1.toNat 0 = c.getD (l.getD k (0, 0)).2.toNat 0) : sameV c l = true := by
  unfold sameV
  rw [List.any_eq_true]
  refine ⟨l[k], List.getElem_mem hk, ?_⟩
  simpa [hk] using h
theorem same_none {c : List Int} {l : List (Int × Int)} (h : ∀ k, k < l.length → ¬ c.getD (l.getD k (0, 0)).1.toNat 0 = c.getD (l.getD k (0, 0)).2.toNat 0) : sameV c l = false := by
  unfold sameV
  rw [List.any_eq_false]
  intro p hp
  obtain ⟨k, hk, rfl⟩ := List.getElem_of_mem hp
  have := h k hk
  simpa [hk] using this
theorem dup_hit {h : List Int} {k : Nat} (hk : k < h.length) (e : (decide (h.getD k 0 = 0) || hasV (h.take k) (h.getD k 0)) = true) : dupV h = true := by
  unfold dupV
  rw [List.any_eq_true]
  exact ⟨k, by simpa using hk, e⟩
theorem dup_none {h : List Int} (e : ∀ k, k < h.length → (decide (h.getD k 0 = 0) || hasV (h.take k) (h.getD k 0)) = false) : dupV h = false := by
  unfold dupV
  rw [List.any_eq_false]
  intro k hk
  rw [e k (by simpa using hk)]
  decide
theorem OwnI.prefix {w : World} {b n : Nat} {l : List Int} (h : OwnI w b n l n) {k : Nat} (hk : k ≤ n) : OwnI w b k (l.take k) k := by
  obtain ⟨h1, h2, h3⟩ := h
  refine ⟨h1, fun j hj => h2 j (by omega), fun i hi => ?_⟩
  rw [h3 i (by omega)]
  congr 2
  rw [List.getD_eq_getElem?_getD, List.getD_eq_getElem?_getD, List.getElem?_take, if_pos hi]

set_option maxRecDepth 3000 in
set_option maxHeartbeats 2000000 in
theorem l3contra_any (a0 a1 a2 a3 : Option Addr) (c0 c1 c2 c3 : Nat) (l0 l1 l2 l3 : List (Int × Int)) (b cp : Nat) (c : List Int) (hl : c.length = 16) (w : World) (n1 : l1.length ≤ 1048576) (n2 : l2.length ≤ 1048576) (n3 : l3.length ≤ 1048576) (hh : (headsV c l2 l3).length ≤ 1048576) (t1 : toks l1 = true) (t2 : toks l2 = true) (t3 : toks l3 = true) (r1 : PRow w a1 l1) (r2 : PRow w a2 l2) (r3 : PRow w a3 l3) (CO : OwnI w b 16 c 16) :
    Calls Try.prog 146 #[.agg #[.slice a0 l0.length c0, .slice a1 l1.length c1, .slice a2 l2.length c2, .slice a3 l3.length c3], .slice (some ⟨b, 0, none⟩) 16 cp] w fun e w' => e = .returned (.bool (contraV c l1 l2 l3)) ∧ Below w.heap.size w w' := by
  have CW := CO.alloc (.cells #[.slice a0 l0.length c0, .slice a1 l1.length c1, .slice a2 l2.length c2, .slice a3 l3.length c3] 28)
  have BW := Box.new w (.slice a0 l0.length c0) (.slice a1 l1.length c1) (.slice a2 l2.length c2) (.slice a3 l3.length c3) 28
  have LW : Below w.heap.size w (w.alloc (.cells #[.slice a0 l0.length c0, .slice a1 l1.length c1, .slice a2 l2.length c2, .slice a3 l3.length c3] 28)) := (Below.refl _ _).alloc (Nat.le_refl _) _
  have HL : Hid (c.length = 16) := hl
  have HH : Hid ((headsV c l2 l3).length ≤ 1048576) := hh
  clear CO hh hl
  go_enter Try.func146, Try.ntmps146
  go_wp2_with fail
  generalize (w.alloc (.cells #[.slice a0 l0.length c0, .slice a1 l1.length c1, .slice a2 l2.length c2, .slice a3 l3.length c3] 28)) = W at *
  go_loopw [5] (fun i wr => ∃ m : Nat, m ≤ l1.length ∧ i = .int .i64 m ∧ Hid (∀ j, j < m → ¬ c.getD (l1.getD j (0, 0)).1.toNat 0 = c.getD (l1.getD j (0, 0)).2.toNat 0) ∧ OwnI wr b 16 c 16 ∧ Box wr w.heap.size (.slice a0 l0.length c0) (.slice a1 l1.length c1) (.slice a2 l2.length c2) (.slice a3 l3.length c3) ∧ Below w.heap.size w wr) (fun i _ => l1.length - (intOf i).toNat)
  case atStart => exact ⟨0, Nat.zero_le _, rfl, fun j hj => absurd hj (Nat.not_lt_zero _), CW, BW, LW⟩
  case round =>
    clear CW BW LW
    obtain ⟨m, hm, rfl, HM, C, B, L⟩ := hrel
    have e1 := B.c1
    by_cases hlty : m < l1.length
    · rcases r1 with hnil | ⟨b1, off1, rfl, hb1, hcl1⟩
      · rw [hnil] at hlty; simp at hlty
      have hyq0 : wr.cell? ⟨b1, off1 + m * 2, none⟩ = some (.int .i64 (l1.getD m (0, 0)).1) := by rw [L.cell (p := ⟨b1, _, none⟩) hb1]; exact (hcl1 m hlty).1
      have hyq1 : wr.cell? ⟨b1, off1 + m * 2 + 1, none⟩ = some (.int .i64 (l1.getD m (0, 0)).2) := by rw [L.cell (p := ⟨b1, _, none⟩) hb1]; exact (hcl1 m hlty).2
      have hmn : (m : Int) < (l1.length : Int) := by omega
      have hm0 : (0 : Int) ≤ (m : Int) := by omega
      have htm := toks_get t1 hlty
      have HHIT : Hid (c.getD (l1.getD m (0, 0)).1.toNat 0 = c.getD (l1.getD m (0, 0)).2.toNat 0 → sameV c l1 = true) := fun h => same_hit hlty h
      have HM2 : Hid (¬ c.getD (l1.getD m (0, 0)).1.toNat 0 = c.getD (l1.getD m (0, 0)).2.toNat 0 → ∀ j, j < m + 1 → ¬ c.getD (l1.getD j (0, 0)).1.toNat 0 = c.getD (l1.getD j (0, 0)).2.toNat 0) := by
        intro hf j hj
        by_cases e : j = m
        · subst e; exact hf
        · exact HM.out j (by omega)
      generalize l1.getD m (0, 0) = pp at *
      clear hcl1
      obtain ⟨⟨q1, q2⟩, q3, q4⟩ := htm
      obtain ⟨s, t, rfl, hs, hts⟩ : ∃ s t : Nat, pp = ((s : Int), (t : Int)) ∧ s < 16 ∧ t < 16 := ⟨pp.1.toNat, pp.2.toNat, by rw [Int.toNat_of_nonneg q1, Int.toNat_of_nonneg q3], by omega, by omega⟩
      clear q1 q2 q3 q4
      dsimp only at hyq0 hyq1
      simp only [Int.toNat_natCast] at HHIT HM2
      have hsa : (s : Int) < 16 := by omega
      have hta : (t : Int) < 16 := by omega
      have hsb : (0 : Int) ≤ (s : Int) := by omega
      have htb : (0 : Int) ≤ (t : Int) := by omega
      have ep := C.2.2 s hs
      have eq := C.2.2 t hts
      generalize c.getD s 0 = p at *
      generalize c.getD t 0 = q at *
      go_wp2_with fail
      have hS0 : Below w.heap.size w wr.drew ∧ wr.drew.cell? ⟨w.heap.size, 1, none⟩ = some (.slice (some ⟨b1, off1, none⟩) l1.length c1) ∧ wr.drew.cell? ⟨b1, off1 + m * 2, none⟩ = some (.int .i64 s) ∧ wr.drew.cell? ⟨b1, off1 + m * 2 + 1, none⟩ = some (.int .i64 t) ∧ wr.drew.cell? ⟨b, s, none⟩ = some (.int .i64 p) ∧ wr.drew.cell? ⟨b, t, none⟩ = some (.int .i64 q) := ⟨L.drew, e1, hyq0, hyq1, ep, eq⟩
      have C2 := C.drew; have B2 := B.drew
      go_region_held3 (fun w' => Below w.heap.size w w' ∧ w'.cell? ⟨w.heap.size, 1, none⟩ = some (.slice (some ⟨b1, off1, none⟩) l1.length c1) ∧ w'.cell? ⟨b1, off1 + m * 2, none⟩ = some (.int .i64 s) ∧ w'.cell? ⟨b1, off1 + m * 2 + 1, none⟩ = some (.int .i64 t) ∧ w'.cell? ⟨b, s, none⟩ = some (.int .i64 p) ∧ w'.cell? ⟨b, t, none⟩ = some (.int .i64 q))
        (first | exact hS0 | assumption | (refine ⟨?_, ?_, ?_, ?_, ?_, ?_⟩ <;> assumption))
        (fail)
      replace L := hS0.1
      clear hS0 C B e1 ep eq hyq0 hyq1
      generalize wr.drew = wd at *
      by_cases h1 : p = q
      · have HV : Hid (contraV c l1 l2 l3 = true) := by unfold Hid contraV; rw [HHIT.out h1]; rfl
        go_wp2
        go_ret
        exact ⟨by rw [HV.out]; rfl, L⟩
      · have HU2 : Hid (∀ j, j < m + 1 → ¬ c.getD (l1.getD j (0, 0)).1.toNat 0 = c.getD (l1.getD j (0, 0)).2.toNat 0) := HM2.out h1
        go_wp2
        go_roundw
        case rel => exact ⟨m + 1, by omega, by go_num, HU2, C2, B2, L⟩
        case measure => simp [intOf]; omega
    · have HA : Hid (contraV c l1 l2 l3 = dupV (headsV c l2 l3)) := by
        unfold Hid contraV
        rw [same_none (fun j hj => HM.out j (by omega))]
        rfl
      have hge : ¬ ((m : Int) < (l1.length : Int)) := by omega
      have e0 := B.c0; have e2 := B.c2; have e3 := B.c3
      go_wp2_with fail
      refine (l3heads_cap _ _ _ _ _ _ _ _ _ _ _ _ b cp c HL.out _ n2 n3 t2 t3 (by exact r2.below L (Nat.le_refl _)) (by exact r3.below L (Nat.le_refl _)) (by exact C)).mono ?_
      rintro e w3 ⟨ag, cg, rfl, hcap, G, hb⟩
      have L3 := L.trans (hb.mono L.size)
      clear hb B C e0 e1 e2 e3
      have hn := HH.out
      generalize headsV c l2 l3 = hs at *
      obtain ⟨_, hr⟩ := G
      generalize hn2 : hs.length = n at *
      replace hn2 : Hid (hs.length = n) := hn2
      go_wp2_with fail
      go_loopw [7] (fun i wx => ∃ k : Nat, k ≤ n ∧ i = .int .i64 k ∧ Hid (∀ j, j < k → (decide (hs.getD j 0 = 0) || hasV (hs.take j) (hs.getD j 0)) = false) ∧ Below w3.heap.size w3 wx) (fun i _ => n - (intOf i).toNat)
      case atStart => exact ⟨0, Nat.zero_le _, rfl, fun j hj => absurd hj (Nat.not_lt_zero _), Below.refl _ _⟩
      case round =>
        obtain ⟨k, hk, rfl, HK, hbw⟩ := hrel
        have L4 := L3.trans (hbw.mono L3.size)
        by_cases hlt : k < n
        · rcases hr with h0 | ⟨bh, rfl, _, _, OH⟩
          · omega
          have OH2 := OH.below hbw OH.1
          have ev := OH2.2.2 k hlt
          have hkn : (k : Int) < (n : Int) := by omega
          have hk0 : (0 : Int) ≤ (k : Int) := by omega
          have G2 : IntIn wr 0 (bh + 1) (some ⟨bh, 0, none⟩) k (hs.take k) := ⟨by rw [List.length_take, hn2.out]; omega, .inr ⟨bh, rfl, Nat.zero_le _, Nat.lt_succ_self _, OH2.prefix (by omega)⟩⟩
          have HHIT : Hid ((decide (hs.getD k 0 = 0) || hasV (hs.take k) (hs.getD k 0)) = true → contraV c l1 l2 l3 = true) := fun e => by rw [HA.out]; exact dup_hit (by have := hn2.out; omega) e
          have HK2 : Hid ((decide (hs.getD k 0 = 0) || hasV (hs.take k) (hs.getD k 0)) = false → ∀ j, j < k + 1 → (decide (hs.getD j 0 = 0) || hasV (hs.take j) (hs.getD j 0)) = false) := by
            intro hf j hj
            by_cases e : j = k
            · subst e; exact hf
            · exact HK.out j (by omega)
          have hkn3 : (k : Int) ≤ (cg : Int) := by omega
          have HZ : Hid (∃ z, hs.getD k 0 = z) := ⟨_, rfl⟩
          clear HZ
          generalize hs.getD k 0 = z at *
          generalize hs.take k = ts at *
          cases hz : (z == 0)
          · have DZ : decide (z = 0) = false := by rw [beq_eq_false_iff_ne] at hz; exact decide_eq_false hz
            rw [DZ, Bool.false_or] at HHIT HK2
            clear DZ
            go_wp2_with fail
            have hS0 : Below w3.heap.size w3 wr.drew ∧ wr.drew.cell? ⟨bh, k, none⟩ = some (.int .i64 z) ∧ IntIn wr.drew 0 (bh + 1) (some ⟨bh, 0, none⟩) k ts := ⟨hbw.drew, ev, G2.below ((Below.refl _ _).drew) OH2.1⟩
            go_region_held3 (fun w' => Below w3.heap.size w3 w' ∧ w'.cell? ⟨bh, k, none⟩ = some (.int .i64 z) ∧ IntIn w' 0 (bh + 1) (some ⟨bh, 0, none⟩) k ts)
              (first | exact hS0 | assumption | (refine ⟨?_, ?_, ?_⟩ <;> assumption))
              (first
                | (go_at_call 189; refine (l3has_any 0 (bh + 1) k _ _ ts z _ (by omega) hS0.2.2).mono ?_; rintro e wz ⟨rfl, rfl⟩))
            all_goals
              have hbw2 := hS0.1
              clear hS0
              generalize wr.drew = wd at *
              have L5 := L3.trans (hbw2.mono L3.size)
              cases hf : hasV ts z
              · have HK3 : Hid (∀ j, j < k + 1 → (decide (hs.getD j 0 = 0) || hasV (hs.take j) (hs.getD j 0)) = false) := HK2.out hf
                go_wp2
                go_roundw
                case rel => exact ⟨k + 1, by omega, by go_num, HK3, hbw2⟩
                case measure => simp [intOf]; omega
              · have HV : Hid (contraV c l1 l2 l3 = true) := HHIT.out hf
                go_wp2
                go_ret
                exact ⟨by rw [HV.out]; rfl, L5⟩
          · have DZ : decide (z = 0) = true := by rw [beq_iff_eq] at hz; exact decide_eq_true hz
            have HV : Hid (contraV c l1 l2 l3 = true) := HHIT.out (by rw [DZ]; rfl)
            clear DZ
            go_wp2_with fail
            go_quiet (fail)
            go_wp2
            go_ret
            refine ⟨by rw [HV.out]; rfl, ?_⟩
            exact L4.trans ⟨rfl, rfl, rfl, Nat.le_refl _, fun _ _ => rfl⟩
        · have HV : Hid (contraV c l1 l2 l3 = false) := by unfold Hid; rw [HA.out]; exact dup_none (fun j hj => HK.out j (by have := hn2.out; omega))
          have hge2 : ¬ ((k : Int) < (n : Int)) := by omega
          go_wp2
          go_ret
          exact ⟨by rw [HV.out]; rfl, L4⟩
end Go.Proofs.Ytldhbooginlcpaa
