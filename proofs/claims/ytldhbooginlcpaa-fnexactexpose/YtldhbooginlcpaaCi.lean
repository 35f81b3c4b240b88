/-
  The contracts of Contra.
-/
import Derived.Test.YtldhbooginlcpaaCt
import Derived.Test.YtldhbooginlcpaaOs
import Derived.Test.YtldhbooginlcpaaSt
namespace Go.Proofs.Ytldhbooginlcpaa
open Go.RowKit
def contraA (l0 l1 l2 l3 : List (Int × Int)) : Bool := asnB l0 l1 l2 l3 && (openV (clsV l0) l1 l3 && contraV (clsV l0) l1 l2 l3)
theorem contra_open (l0 l1 l2 l3 : List (Int × Int)) : contraA l0 l1 l2 l3 = (openA l0 l1 l2 l3 && contraV (clsV l0) l1 l2 l3) := by
  unfold contraA openA
  rw [Bool.and_assoc]
theorem wf16 {z : Int} (h0 : 0 ≤ z) (h1 : z < 16) : (Lit.int .i64 z).wf = true := by
  have : ∀ k : Nat, k < 16 → (Lit.int .i64 (k : Int)).wf = true := by decide +kernel
  obtain ⟨k, rfl⟩ := Int.eq_ofNat_of_zero_le h0
  exact this k (by omega)
theorem has_step {l : List Int} {k : Nat} (hk : k < l.length) (v : Int) : hasV (l.take (k + 1)) v = (hasV (l.take k) v || decide (l.getD k 0 = v)) := by
  unfold hasV
  rw [List.take_add_one, List.getElem?_eq_getElem hk]
  simp only [Option.toList_some, List.any_append, List.any_cons, List.any_nil, Bool.or_false]
  rw [List.getD_eq_getElem?_getD (l := l), List.getElem?_eq_getElem hk, Option.getD_some]
theorem headsOf_wf {c : List Int} (hc : Cls c) {l : List (Int × Int)} (ht : toks l = true) : ∀ z ∈ headsOf c l, 0 ≤ z ∧ z < 16 := by
  intro z hz
  unfold headsOf at hz
  rw [List.mem_map] at hz
  obtain ⟨p, hp, rfl⟩ := hz
  obtain ⟨k, hk, rfl⟩ := List.getElem_of_mem hp
  have := (toks_get ht hk).1
  rw [List.getD_eq_getElem?_getD, List.getElem?_eq_getElem hk, Option.getD_some] at this
  exact hc.2 _ (by omega)
theorem heads_wf {c : List Int} (hc : Cls c) {l2 l3 : List (Int × Int)} (h2 : toks l2 = true) (h3 : toks l3 = true) : ∀ j, j < (headsV c l2 l3).length → 0 ≤ (headsV c l2 l3).getD j 0 ∧ (headsV c l2 l3).getD j 0 < 16 := by
  intro j hj
  have hm : (headsV c l2 l3).getD j 0 ∈ headsV c l2 l3 := by
    rw [List.getD_eq_getElem?_getD, List.getElem?_eq_getElem hj, Option.getD_some]
    exact List.getElem_mem hj
  generalize (headsV c l2 l3).getD j 0 = z at *
  unfold headsV at hm
  rw [List.mem_append] at hm
  rcases hm with hm | hm
  · exact headsOf_wf hc h2 z hm
  · exact headsOf_wf hc h3 z hm

set_option maxRecDepth 3000 in
set_option maxHeartbeats 1000000 in
theorem sContra_any (a0 a1 a2 a3 : Option Addr) (c0 c1 c2 c3 : Nat) (l0 l1 l2 l3 : List (Int × Int)) (w : World)
    (n0 : l0.length ≤ 1048576) (n1 : l1.length ≤ 1048576) (n2 : l2.length ≤ 1048576) (n3 : l3.length ≤ 1048576)
    (r0 : PRow w a0 l0) (r1 : PRow w a1 l1) (r2 : PRow w a2 l2) (r3 : PRow w a3 l3) :
    Calls Try.prog 66 #[.agg #[.slice a0 l0.length c0, .slice a1 l1.length c1, .slice a2 l2.length c2, .slice a3 l3.length c3]] w fun e w' => e = .returned (.bool (contraA l0 l1 l2 l3)) ∧ Below w.heap.size w w' := by
  have B0 := Box.new w (.slice a0 l0.length c0) (.slice a1 l1.length c1) (.slice a2 l2.length c2) (.slice a3 l3.length c3) 28
  have L0 : Below w.heap.size w (w.alloc (.cells #[.slice a0 l0.length c0, .slice a1 l1.length c1, .slice a2 l2.length c2, .slice a3 l3.length c3] 28)) := (Below.refl _ _).alloc (Nat.le_refl _) _
  go_enter Try.func66, Try.ntmps66
  go_wp2_with fail
  refine (sAsnOk_any _ _ _ _ _ _ _ _ _ _ _ _ _ n0 n1 n2 n3 (by exact r0.below L0 (Nat.le_refl _)) (by exact r1.below L0 (Nat.le_refl _)) (by exact r2.below L0 (Nat.le_refl _)) (by exact r3.below L0 (Nat.le_refl _))).mono ?_
  rintro e w1 ⟨rfl, hb⟩
  have B1 := B0.below hb B0.lt; have L1 := L0.trans (hb.mono L0.size)
  clear hb B0 L0
  cases ha : asnB l0 l1 l2 l3
  · have HE : Hid (contraA l0 l1 l2 l3 = false) := by unfold Hid contraA; rw [ha]; rfl
    go_wp2
    go_ret
    exact ⟨by rw [HE.out]; rfl, L1⟩
  have ht := asnB_tokA ha
  have HE : Hid (contraA l0 l1 l2 l3 = (openV (clsV l0) l1 l3 && contraV (clsV l0) l1 l2 l3)) := by unfold Hid contraA; rw [ha]; rfl
  have HLE : Hid ((headsV (clsV l0) l2 l3).length ≤ 1048576) := by have := headsA_le l0 l1 l2 l3; unfold headsA at this; rw [if_pos ha] at this; exact this
  have HC : Hid (Cls (clsV l0)) := Cls.all ht.1
  clear ha
  have x0 := B1.c0; have x1 := B1.c1; have x2 := B1.c2; have x3 := B1.c3
  go_wp2_with fail
  refine (l3classes_any _ _ _ _ _ _ _ _ _ _ _ _ _ n0 ht.1 (by exact r0.below L1 (Nat.le_refl _))).mono ?_
  rintro e w2 ⟨b, cp, rfl, hbb, O, hb⟩
  have L2 := L1.trans (hb.mono L1.size)
  have B2 := B1.below hb B1.lt
  clear hb B1 L1 x0 x1 x2 x3
  generalize clsV l0 = c at *
  have x0 := B2.c0; have x1 := B2.c1; have x2 := B2.c2; have x3 := B2.c3
  go_wp2_with fail
  refine (l3opened_any _ _ _ _ _ _ _ _ _ _ _ _ b cp c HC.out _ n1 n3 ht.2.1 ht.2.2.2 (by exact r1.below L2 (Nat.le_refl _)) (by exact r3.below L2 (Nat.le_refl _)) (by exact O)).mono ?_
  rintro e w3 ⟨rfl, hb⟩
  have L3 := L2.trans (hb.mono L2.size)
  have B3 := B2.below hb B2.lt
  have O3 := O.below hb O.1
  clear hb B2 L2 O x0 x1 x2 x3
  have x0 := B3.c0; have x1 := B3.c1; have x2 := B3.c2; have x3 := B3.c3
  cases ho : openV c l1 l3
  · rw [ho] at HE
    go_wp2
    go_ret
    exact ⟨by rw [HE.out]; rfl, L3⟩
  rw [ho] at HE
  go_wp2_with fail
  refine (l3contra_any _ _ _ _ _ _ _ _ _ _ _ _ b cp c HC.out.1 _ n1 n2 n3 HLE.out ht.2.1 ht.2.2.1 ht.2.2.2 (by exact r1.below L3 (Nat.le_refl _)) (by exact r2.below L3 (Nat.le_refl _)) (by exact r3.below L3 (Nat.le_refl _)) (by exact O3)).mono ?_
  rintro e w4 ⟨rfl, hb⟩
  have L4 := L3.trans (hb.mono L3.size)
  clear hb
  go_wp2
  go_ret
  exact ⟨by rw [HE.out]; rfl, L4⟩

set_option maxRecDepth 3000 in
set_option maxHeartbeats 1000000 in
theorem iContra_any (a0 a1 a2 a3 : Option Addr) (c0 c1 c2 c3 : Nat) (l0 l1 l2 l3 : List (Int × Int)) (w : World)
    (n0 : l0.length ≤ 1048576) (n1 : l1.length ≤ 1048576) (n2 : l2.length ≤ 1048576) (n3 : l3.length ≤ 1048576)
    (r0 : PRow w a0 l0) (r1 : PRow w a1 l1) (r2 : PRow w a2 l2) (r3 : PRow w a3 l3) :
    Calls Try.prog 67 #[.agg #[.slice a0 l0.length c0, .slice a1 l1.length c1, .slice a2 l2.length c2, .slice a3 l3.length c3]] w fun e w' => e = .returned (.bool (contraA l0 l1 l2 l3)) ∧ Below w.heap.size w w' := by
  have B0 := Box.new w (.slice a0 l0.length c0) (.slice a1 l1.length c1) (.slice a2 l2.length c2) (.slice a3 l3.length c3) 28
  have L0 : Below w.heap.size w (w.alloc (.cells #[.slice a0 l0.length c0, .slice a1 l1.length c1, .slice a2 l2.length c2, .slice a3 l3.length c3] 28)) := (Below.refl _ _).alloc (Nat.le_refl _) _
  go_enter Try.func67, Try.ntmps67
  go_wp2_with fail
  refine (iOpened_any _ _ _ _ _ _ _ _ _ _ _ _ _ n0 n1 n2 n3 (by exact r0.below L0 (Nat.le_refl _)) (by exact r1.below L0 (Nat.le_refl _)) (by exact r2.below L0 (Nat.le_refl _)) (by exact r3.below L0 (Nat.le_refl _))).mono ?_
  rintro e w1 ⟨rfl, hb⟩
  have B1 := B0.below hb B0.lt; have L1 := L0.trans (hb.mono L0.size)
  clear hb B0 L0
  cases hop : openA l0 l1 l2 l3
  · have HE : Hid (contraA l0 l1 l2 l3 = false) := by unfold Hid; rw [contra_open, hop]; rfl
    go_wp2
    go_ret
    exact ⟨by rw [HE.out]; rfl, L1⟩
  have HE : Hid (contraA l0 l1 l2 l3 = contraV (clsV l0) l1 l2 l3) := by unfold Hid; rw [contra_open, hop]; rfl
  have ha : asnB l0 l1 l2 l3 = true := by unfold openA at hop; rw [Bool.and_eq_true] at hop; exact hop.1
  have ht := asnB_tokA ha
  have HLE : Hid ((headsV (clsV l0) l2 l3).length ≤ 1048576) := by have := headsA_le l0 l1 l2 l3; unfold headsA at this; rw [if_pos ha] at this; exact this
  have HC : Hid (Cls (clsV l0)) := Cls.all ht.1
  clear ha hop
  have x0 := B1.c0; have x1 := B1.c1; have x2 := B1.c2; have x3 := B1.c3
  go_wp2_with fail
  refine (classesOf_any _ _ _ _ _ _ _ _ _ _ _ _ _ n0 ht.1 (by exact r0.below L1 (Nat.le_refl _))).mono ?_
  rintro e w2 ⟨rfl, hb⟩
  have L2 := L1.trans (hb.mono L1.size)
  have B2 := B1.below hb B1.lt
  clear hb B1 L1 x0 x1 x2 x3
  unfold aV
  dsimp only
  iterate 4 go_step
  have Z := OwnI.zeros w2 95
  refine ws67 rfl (.tmp 3) (.tmp 13) rfl _ rfl (clsV l0) _ rfl Z HC.out.1 rfl ?_
  have C := Z.setAll HC.out.1
  have L3 := Below.setCells w2.heap.size L2.size (ic (clsV l0)) 0 _ (L2.alloc L2.size (.cells z16 95))
  have L23 := Below.setCells w2.heap.size (Nat.le_refl _) (ic (clsV l0)) 0 _ ((Below.refl w2.heap.size w2).alloc (Nat.le_refl _) (.cells z16 95))
  have B3 := B2.below L23 B2.lt
  have sb := B2.lt
  have s2 := L2.size
  clear Z L2 L23 B2
  generalize (w2.alloc (.cells z16 95)).setCells w2.heap.size 0 (ic (clsV l0)) = w3 at *
  generalize clsV l0 = c at *
  generalize w2.heap.size = q at *
  have x1 := B3.c1
  go_wp2_with fail
  clear x1
  go_loopw [17] (fun i wr => ∃ m : Nat, m ≤ l1.length ∧ i = .int .i64 m ∧ Hid (∀ j, j < m → ¬ c.getD (l1.getD j (0, 0)).1.toNat 0 = c.getD (l1.getD j (0, 0)).2.toNat 0) ∧ OwnI wr q 16 c 16 ∧ Box wr w.heap.size (.slice a0 l0.length c0) (.slice a1 l1.length c1) (.slice a2 l2.length c2) (.slice a3 l3.length c3) ∧ Below w.heap.size w wr) (fun i _ => l1.length - (intOf i).toNat)
  case atStart => exact ⟨0, Nat.zero_le _, rfl, fun j hj => absurd hj (Nat.not_lt_zero _), C, B3, L3⟩
  case round =>
    clear C B3 L3
    obtain ⟨m, hm, rfl, HM, C, B, L⟩ := hrel
    by_cases hlty : m < l1.length
    · rcases r1 with hnil | ⟨b1, off1, rfl, hb1, hcl1⟩
      · rw [hnil] at hlty; simp at hlty
      have hyq0 : wr.cell? ⟨b1, off1 + m * 2, none⟩ = some (.int .i64 (l1.getD m (0, 0)).1) := by rw [L.cell (p := ⟨b1, _, none⟩) hb1]; exact (hcl1 m hlty).1
      have hyq1 : wr.cell? ⟨b1, off1 + m * 2 + 1, none⟩ = some (.int .i64 (l1.getD m (0, 0)).2) := by rw [L.cell (p := ⟨b1, _, none⟩) hb1]; exact (hcl1 m hlty).2
      have hmn : (m : Int) < (l1.length : Int) := by omega
      have hm0 : (0 : Int) ≤ (m : Int) := by omega
      have htm := toks_get ht.2.1 hlty
      have HHIT : Hid (c.getD (l1.getD m (0, 0)).1.toNat 0 = c.getD (l1.getD m (0, 0)).2.toNat 0 → sameV c l1 = true) := fun h => same_hit hlty h
      have HM2 : Hid (¬ c.getD (l1.getD m (0, 0)).1.toNat 0 = c.getD (l1.getD m (0, 0)).2.toNat 0 → ∀ j, j < m + 1 → ¬ c.getD (l1.getD j (0, 0)).1.toNat 0 = c.getD (l1.getD j (0, 0)).2.toNat 0) := by
        intro hf j hj
        by_cases e : j = m
        · subst e; exact hf
        · exact HM.out j (by omega)
      generalize l1.getD m (0, 0) = pp at *
      clear hcl1
      obtain ⟨⟨q1, q2⟩, q3, q4⟩ := htm
      obtain ⟨s, t, rfl, hs, hts⟩ : ∃ s t : Nat, pp = ((s : Int), (t : Int)) ∧ s < 16 ∧ t < 16 := ⟨pp.1.toNat, pp.2.toNat, by rw [Int.toNat_of_nonneg q1, Int.toNat_of_nonneg q3], by omega, by omega⟩
      clear q1 q2 q3 q4
      dsimp only at hyq0 hyq1
      simp only [Int.toNat_natCast] at HHIT HM2
      have hsa : (s : Int) < 16 := by omega
      have hta : (t : Int) < 16 := by omega
      have hsb : (0 : Int) ≤ (s : Int) := by omega
      have htb : (0 : Int) ≤ (t : Int) := by omega
      go_wp2_with fail
      have P1 := PBox.new wr s t 67
      have L1 := L.alloc L.size (.cells #[.int .i64 (s : Int), .int .i64 (t : Int)] 67)
      have C1 := C.alloc (.cells #[.int .i64 (s : Int), .int .i64 (t : Int)] 67)
      have B1 := B.alloc (.cells #[.int .i64 (s : Int), .int .i64 (t : Int)] 67)
      clear hyq0 hyq1 C L B hb1
      generalize wr.alloc (.cells #[.int .i64 (s : Int), .int .i64 (t : Int)] 67) = W2 at *
      generalize wr.heap.size = p5 at *
      have eu := C1.2.2 s hs
      have ev := C1.2.2 t hts
      generalize c.getD s 0 = u at *
      generalize c.getD t 0 = v at *
      have hS0 : Below w.heap.size w W2.drew ∧ W2.drew.cell? ⟨p5, 0, none⟩ = some (.int .i64 s) ∧ W2.drew.cell? ⟨p5, 1, none⟩ = some (.int .i64 t) ∧ W2.drew.cell? ⟨q, s, none⟩ = some (.int .i64 u) ∧ W2.drew.cell? ⟨q, t, none⟩ = some (.int .i64 v) := ⟨L1.drew, P1.c0, P1.c1, eu, ev⟩
      replace C1 := C1.drew; replace B1 := B1.drew
      clear P1 eu ev L1
      go_region_held3 (fun w' => Below w.heap.size w w' ∧ w'.cell? ⟨p5, 0, none⟩ = some (.int .i64 s) ∧ w'.cell? ⟨p5, 1, none⟩ = some (.int .i64 t) ∧ w'.cell? ⟨q, s, none⟩ = some (.int .i64 u) ∧ w'.cell? ⟨q, t, none⟩ = some (.int .i64 v))
        (first | exact hS0 | assumption | (refine ⟨?_, ?_, ?_, ?_, ?_⟩ <;> assumption))
        (fail)
      have L := hS0.1
      clear hS0
      generalize W2.drew = wd at *
      by_cases h1 : u = v
      · have HV : Hid (contraV c l1 l2 l3 = true) := by unfold Hid contraV; rw [HHIT.out h1]; rfl
        go_wp2
        go_ret
        exact ⟨by rw [HE.out, HV.out]; rfl, L⟩
      · have HU2 : Hid (∀ j, j < m + 1 → ¬ c.getD (l1.getD j (0, 0)).1.toNat 0 = c.getD (l1.getD j (0, 0)).2.toNat 0) := HM2.out h1
        go_wp2
        go_roundw
        case rel => exact ⟨m + 1, by omega, by go_num, HU2, C1, B1, L⟩
        case measure => simp [intOf]; omega
    · have HA : Hid (contraV c l1 l2 l3 = dupV (headsV c l2 l3)) := by
        unfold Hid contraV
        rw [same_none (fun j hj => HM.out j (by omega))]
        rfl
      have hge : ¬ ((m : Int) < (l1.length : Int)) := by omega
      go_wp2_with fail
      have O0 : OwnI (wr.alloc (.cells #[.int .i64 0] 3)) wr.heap.size ([0] : List Int).length [0] ([0] : List Int).length := OwnI.new wr [0] 1 rfl 3
      refine (setOf_some _ _ [0] _ (by decide) (fun i hi => by obtain rfl : i = 0 := (by simp at hi; exact hi); rfl) O0).mono ?_
      rintro e w5 ⟨rfl, T5, hb⟩
      have L5 := (L.alloc L.size (.cells #[.int .i64 0] 3)).trans (hb.mono (L.alloc L.size _).size)
      have C5 := (C.alloc (.cells #[.int .i64 0] 3)).below hb (C.alloc _).1
      have B5 := (B.alloc (.cells #[.int .i64 0] 3)).below hb (B.alloc _).lt
      have st := (L.alloc L.size (.cells #[.int .i64 (0 : Int)] 3)).size
      clear hb C B L O0
      generalize (wr.alloc (.cells #[.int .i64 0] 3)).heap.size = T at *
      dsimp only
      iterate 10 go_step
      refine wl67 rfl (.tmp 3) rfl _ rfl C5 HC.out.1 ?_
      have y0 := B5.c0; have y1 := B5.c1; have y2 := B5.c2; have y3 := B5.c3
      go_wp2_with fail
      refine (heads_any _ _ _ _ _ _ _ _ _ _ _ _ c HC.out.1 _ n2 n3 ht.2.2.1 ht.2.2.2 (by exact r2.below L5 (Nat.le_refl _)) (by exact r3.below L5 (Nat.le_refl _))).mono ?_
      rintro e w6 ⟨ag, cg, rfl, G, hb⟩
      have L6 := L5.trans (hb.mono L5.size)
      have T6 := T5.keep hb
      have sT := T5.lt
      clear hb L5 C5 B5 y0 y1 y2 y3 T5
      have hn := HLE.out
      have HWF := heads_wf HC.out ht.2.2.1 ht.2.2.2
      generalize headsV c l2 l3 = hs at *
      replace HWF : Hid (∀ j, j < hs.length → 0 ≤ hs.getD j 0 ∧ hs.getD j 0 < 16) := HWF
      obtain ⟨_, hr⟩ := G
      generalize hn2 : hs.length = n at *
      replace hn2 : Hid (hs.length = n) := hn2
      have T7 : HS w6 T 1 (fun z => decide (z = 0) || hasV (hs.take 0) z) := by
        have e : (fun z => decide (z = 0) || hasV (hs.take 0) z) = fun (q : Int) => decide (q ∈ ([0] : List Int)) := by funext z; simp [hasV]
        rw [e]; exact T6
      clear T6
      go_wp2_with fail
      go_loopw [37] (fun i wx => ∃ k : Nat, k ≤ n ∧ i = .int .i64 k ∧ Hid (∀ j, j < k → (decide (hs.getD j 0 = 0) || hasV (hs.take j) (hs.getD j 0)) = false) ∧ HS wx T (k + 1) (fun z => decide (z = 0) || hasV (hs.take k) z) ∧ Out T (T + 1) w6 wx) (fun i _ => n - (intOf i).toNat)
      case atStart => exact ⟨0, Nat.zero_le _, rfl, fun j hj => absurd hj (Nat.not_lt_zero _), T7, Out.refl _ _ _⟩
      case round =>
        clear T7
        obtain ⟨k, hk, rfl, HK, TS, OU⟩ := hrel
        have L8 := L6.trans (OU.below st L6.size)
        by_cases hlt : k < n
        · rcases hr with h0 | ⟨bh, rfl, g1, g2, OH⟩
          · omega
          have OH2 := OH.out OU (by omega)
          have ev := OH2.2.2 k hlt
          have hkn : (k : Int) < (n : Int) := by omega
          have hk0 : (0 : Int) ≤ (k : Int) := by omega
          have hz := HWF.out k (by have := hn2.out; omega)
          have HHIT : Hid ((decide (hs.getD k 0 = 0) || hasV (hs.take k) (hs.getD k 0)) = true → contraV c l1 l2 l3 = true) := fun e => by rw [HA.out]; exact dup_hit (by have := hn2.out; omega) e
          have HK2 : Hid ((decide (hs.getD k 0 = 0) || hasV (hs.take k) (hs.getD k 0)) = false → ∀ j, j < k + 1 → (decide (hs.getD j 0 = 0) || hasV (hs.take j) (hs.getD j 0)) = false) := by
            intro hf j hj
            by_cases e : j = k
            · subst e; exact hf
            · exact HK.out j (by omega)
          have HST := has_step (l := hs) (k := k) (by have := hn2.out; omega)
          generalize hs.getD k 0 = z at *
          have hadd := add_any T (k + 1) _ z wr (wf16 hz.1 hz.2) (by omega) TS
          have eS : (fun (x : Int) => (decide (x = 0) || hasV (hs.take k) x) || decide (x = z)) = fun x => decide (x = 0) || hasV (hs.take (k + 1)) x := by
            funext x; rw [HST x, Bool.or_assoc]; congr 2; exact decide_eq_decide.2 ⟨Eq.symm, Eq.symm⟩
          rw [eS] at hadd
          clear eS HST TS
          generalize hp : (decide (z = 0) || hasV (hs.take k) z) = pz at *
          clear hp
          go_wp2_with fail
          refine hadd.mono ?_
          rintro e w7 ⟨rfl, T8, o8⟩
          have OU2 := OU.trans o8
          have L9 := L6.trans (OU2.below st L6.size)
          clear hadd o8 OU L8 OH2 ev
          cases pz
          · have HK3 : Hid (∀ j, j < k + 1 → (decide (hs.getD j 0 = 0) || hasV (hs.take j) (hs.getD j 0)) = false) := HK2.out rfl
            go_wp2
            go_roundw
            case rel => exact ⟨k + 1, by omega, by go_num, HK3, T8, OU2⟩
            case measure => simp [intOf]; omega
          · have HV : Hid (contraV c l1 l2 l3 = true) := HHIT.out rfl
            go_wp2
            go_ret
            exact ⟨by rw [HE.out, HV.out]; rfl, L9⟩
        · have HV : Hid (contraV c l1 l2 l3 = false) := by unfold Hid; rw [HA.out]; exact dup_none (fun j hj => HK.out j (by have := hn2.out; omega))
          have hge2 : ¬ ((k : Int) < (n : Int)) := by omega
          go_wp2
          go_ret
          exact ⟨by rw [HE.out, HV.out]; rfl, L8⟩

end Go.Proofs.Ytldhbooginlcpaa
