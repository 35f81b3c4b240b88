/-
  The contract of impl.Normal.
-/
import Derived.Test.YtmiiebmnjijhoaaNms
import Derived.Deep.MidRow
namespace Go.Proofs.Ytmiiebmnjijhoaa
open Go.RowKit
set_option linter.unusedVariables false

/-- The variable lies in a new block and holds four rows that lie apart. -/
def RelF (cur : World) (U0 U1 U2 U3 : List (Int × Int)) (v6 : Value) (wz : World) : Prop :=
  ∃ Z p0 p1 p2 p3 q0 q1 q2 q3, v6 = .pointer (some ⟨Z, 0, none⟩) ∧ Box wz Z (.slice p0 U0.length q0) (.slice p1 U1.length q1) (.slice p2 U2.length q2) (.slice p3 U3.length q3) ∧ Four wz cur.heap.size wz.heap.size p0 p1 p2 p3 U0.length U1.length U2.length U3.length U0 U1 U2 U3 ∧ Below cur.heap.size cur wz ∧ cur.heap.size ≤ Z

theorem relF_fill {cur w3 : World} {Z s0 t0 s1 t1 s2 t2 s3 t3 : Nat} {U0 U1 U2 U3 : List (Int × Int)} {p0 p1 p2 p3 : Option Addr} {q0 q1 q2 q3 : Nat} (bx : Box w3 Z (.slice none 0 0) (.slice none 0 0) (.slice none 0 0) (.slice none 0 0)) (hX : Below cur.heap.size cur w3) (hz : cur.heap.size ≤ Z) (T0 : RowIn w3 s0 t0 p0 U0.length U0) (T1 : RowIn w3 s1 t1 p1 U1.length U1) (T2 : RowIn w3 s2 t2 p2 U2.length U2) (T3 : RowIn w3 s3 t3 p3 U3.length U3)
    (hs : cur.heap.size ≤ s0 ∧ t0 ≤ s1 ∧ t1 ≤ s2 ∧ t2 ≤ s3 ∧ t3 ≤ w3.heap.size ∧ s0 ≤ t0 ∧ s1 ≤ t1 ∧ s2 ≤ t2 ∧ s3 ≤ t3) (hzz : (Z < s0 ∨ t0 ≤ Z) ∧ (Z < s1 ∨ t1 ≤ Z) ∧ (Z < s2 ∨ t2 ≤ Z) ∧ (Z < s3 ∨ t3 ≤ Z)) :
    RelF cur U0 U1 U2 U3 (.pointer (some ⟨Z, 0, none⟩)) ((((w3.setCell ⟨Z, 0, none⟩ (.slice p0 U0.length q0)).setCell ⟨Z, 1, none⟩ (.slice p1 U1.length q1)).setCell ⟨Z, 2, none⟩ (.slice p2 U2.length q2)).setCell ⟨Z, 3, none⟩ (.slice p3 U3.length q3)) := by
  obtain ⟨F, FO⟩ := bx.fill (.slice p0 U0.length q0) (.slice p1 U1.length q1) (.slice p2 U2.length q2) (.slice p3 U3.length q3)
  have fz := FO.size
  exact ⟨Z, p0, p1, p2, p3, q0, q1, q2, q3, rfl, F, ⟨s0, t0, s1, t1, s2, t2, s3, t3, ⟨by omega, by omega, T0.out FO (by omega)⟩, ⟨by omega, by omega, T1.out FO (by omega)⟩, ⟨by omega, by omega, T2.out FO (by omega)⟩, ⟨by omega, by omega, T3.out FO (by omega)⟩, by omega, by omega, by omega, by omega, by omega, by omega⟩, hX.trans (FO.below hz hX.size), hz⟩

theorem relF_alloc {cur w3 : World} {s0 t0 s1 t1 s2 t2 s3 t3 : Nat} {U0 U1 U2 U3 : List (Int × Int)} {p0 p1 p2 p3 : Option Addr} {q0 q1 q2 q3 : Nat} (hX : Below cur.heap.size cur w3) (T0 : RowIn w3 s0 t0 p0 U0.length U0) (T1 : RowIn w3 s1 t1 p1 U1.length U1) (T2 : RowIn w3 s2 t2 p2 U2.length U2) (T3 : RowIn w3 s3 t3 p3 U3.length U3)
    (hs : cur.heap.size ≤ s0 ∧ t0 ≤ s1 ∧ t1 ≤ s2 ∧ t2 ≤ s3 ∧ t3 ≤ w3.heap.size ∧ s0 ≤ t0 ∧ s1 ≤ t1 ∧ s2 ≤ t2 ∧ s3 ≤ t3) :
    RelF cur U0 U1 U2 U3 (.pointer (some ⟨w3.heap.size, 0, none⟩)) (w3.alloc (.cells #[.slice p0 U0.length q0, .slice p1 U1.length q1, .slice p2 U2.length q2, .slice p3 U3.length q3] 28)) := by
  have al : Below w3.heap.size w3 (w3.alloc (.cells #[.slice p0 U0.length q0, .slice p1 U1.length q1, .slice p2 U2.length q2, .slice p3 U3.length q3] 28)) := (Below.refl _ _).alloc (Nat.le_refl _) _
  have fz := al.size
  exact ⟨w3.heap.size, p0, p1, p2, p3, q0, q1, q2, q3, rfl, Box.new w3 (.slice p0 U0.length q0) (.slice p1 U1.length q1) (.slice p2 U2.length q2) (.slice p3 U3.length q3) 28, ⟨s0, t0, s1, t1, s2, t2, s3, t3, ⟨by omega, by omega, T0.below al (by omega)⟩, ⟨by omega, by omega, T1.below al (by omega)⟩, ⟨by omega, by omega, T2.below al (by omega)⟩, ⟨by omega, by omega, T3.below al (by omega)⟩, by omega, by omega, by omega, by omega, by omega, by omega⟩, Below.link hX al, hX.size⟩

set_option maxRecDepth 20000 in
set_option maxHeartbeats 16000000 in
theorem iNormal_any (a0 a1 a2 a3 : Option Addr) (c0 c1 c2 c3 : Nat) (l0 l1 l2 l3 : List (Int × Int)) (w : World) (n0 : l0.length ≤ 1048576) (n1 : l1.length ≤ 1048576) (n2 : l2.length ≤ 1048576) (n3 : l3.length ≤ 1048576) (r0 : PRow w a0 l0) (r1 : PRow w a1 l1) (r2 : PRow w a2 l2) (r3 : PRow w a3 l3) :
    Calls Try.prog 60 #[.agg #[.slice a0 l0.length c0, .slice a1 l1.length c1, .slice a2 l2.length c2, .slice a3 l3.length c3]] w fun e w' => ∃ p0 p1 p2 p3 q0 q1 q2 q3, e = .returned (.tuple #[.agg #[.slice p0 (okL (normB l0 l1 l2 l3) (linksV (clsV l0))).length q0, .slice p1 (okL (normB l0 l1 l2 l3) (inC (clsV l0) l1)).length q1, .slice p2 (okL (normB l0 l1 l2 l3) (inC (clsV l0) l2)).length q2, .slice p3 (okL (normB l0 l1 l2 l3) (inC (clsV l0) l3)).length q3], .bool (normB l0 l1 l2 l3)]) ∧ Four w' w.heap.size w'.heap.size p0 p1 p2 p3 (okL (normB l0 l1 l2 l3) (linksV (clsV l0))).length (okL (normB l0 l1 l2 l3) (inC (clsV l0) l1)).length (okL (normB l0 l1 l2 l3) (inC (clsV l0) l2)).length (okL (normB l0 l1 l2 l3) (inC (clsV l0) l3)).length (okL (normB l0 l1 l2 l3) (linksV (clsV l0))) (okL (normB l0 l1 l2 l3) (inC (clsV l0) l1)) (okL (normB l0 l1 l2 l3) (inC (clsV l0) l2)) (okL (normB l0 l1 l2 l3) (inC (clsV l0) l3)) ∧ Below w.heap.size w w' := by
  have A0 := (Box.new w (.slice a0 l0.length c0) (.slice a1 l1.length c1) (.slice a2 l2.length c2) (.slice a3 l3.length c3) 28).alloc (.cells #[.slice none 0 0, .slice none 0 0, .slice none 0 0, .slice none 0 0] 28)
  have R0 := Box.new (w.alloc (.cells #[.slice a0 l0.length c0, .slice a1 l1.length c1, .slice a2 l2.length c2, .slice a3 l3.length c3] 28)) (.slice none 0 0) (.slice none 0 0) (.slice none 0 0) (.slice none 0 0) 28
  rw [World.size_alloc] at R0
  have L0 : Below w.heap.size w ((w.alloc (.cells #[.slice a0 l0.length c0, .slice a1 l1.length c1, .slice a2 l2.length c2, .slice a3 l3.length c3] 28)).alloc (.cells #[.slice none 0 0, .slice none 0 0, .slice none 0 0, .slice none 0 0] 28)) := ((Below.refl _ _).alloc (Nat.le_refl _) _).alloc (by simp) _
  go_enter Try.func60, Try.ntmps60
  go_wp2_with fail
  refine (iAsnOk_any _ _ _ _ _ _ _ _ _ _ _ _ _ n0 n1 n2 n3 (by exact r0.below L0 (Nat.le_refl _)) (by exact r1.below L0 (Nat.le_refl _)) (by exact r2.below L0 (Nat.le_refl _)) (by exact r3.below L0 (Nat.le_refl _))).mono ?_
  rintro e w1 ⟨rfl, hb⟩
  replace A0 := A0.below hb A0.lt; replace R0 := R0.below hb R0.lt; replace L0 := L0.trans (hb.mono L0.size)
  clear hb
  have A0c0 := A0.c0; have A0c1 := A0.c1; have A0c2 := A0.c2; have A0c3 := A0.c3
  cases h1 : asnB l0 l1 l2 l3
  · have HE : Hid ((normB l0 l1 l2 l3) = false) := by show (normB l0 l1 l2 l3) = false; unfold normB; rw [h1]; rfl
    obtain ⟨F, FO⟩ := R0.fill (.slice none 0 0) (.slice none 0 0) (.slice none 0 0) (.slice none 0 0)
    have j0' := R0.c0; have j1' := R0.c1; have j2' := R0.c2; have j3' := R0.c3
    have g0 := R0.f0; have g1 := R0.f1; have g2 := R0.f2; have g3 := R0.f3
    go_wp2
    have i0 := F.c0; have i1 := F.c1; have i2 := F.c2; have i3 := F.c3
    refine bodyPost_ret (v := .tuple #[.agg #[.slice none 0 0, .slice none 0 0, .slice none 0 0, .slice none 0 0], .bool false]) ?_ rfl ⟨none, none, none, none, 0, 0, 0, 0, by rw [HE.out]; rfl, ?_, ?_⟩
    · simp [results, Try.results60, go_sem, i0, i1, i2, i3]
    · rw [HE.out]; exact (Four.none _ w.heap.size).mono (Nat.le_refl _) (by have := FO.size; have := L0.size; omega)
    · exact L0.trans (FO.below (by omega) L0.size)
  have H1 : Hid (asnB l0 l1 l2 l3 = true) := h1
  obtain ⟨t0, t1, t2, t3⟩ := asnB_toks h1
  clear h1
  have zR := R0.lt
  go_wp2_with fail
  clear A0c0 A0c1 A0c2 A0c3
  refine (classesOf_any _ _ _ _ _ _ _ _ _ _ _ _ _ n0 t0 (by exact r0.below L0 (Nat.le_refl _))).mono ?_
  rintro e w2 ⟨rfl, hb⟩
  replace A0 := A0.below hb A0.lt; replace R0 := R0.below hb R0.lt; replace L0 := L0.trans (hb.mono L0.size)
  clear hb
  replace r0 := r0.below L0 (Nat.le_refl _); replace r1 := r1.below L0 (Nat.le_refl _); replace r2 := r2.below L0 (Nat.le_refl _); replace r3 := r3.below L0 (Nat.le_refl _)
  unfold aV
  have HC := (Cls.all t0).1
  have zR3 := R0.lt
  have zA := A0.lt
  dsimp only
  iterate 4 go_step
  have Zz := OwnI.zeros w2 88
  refine ws67 rfl (.tmp 4) (.tmp 11) rfl _ rfl (clsV l0) _ rfl Zz HC rfl ?_
  have CO := Zz.setAll HC
  have hbS : Below w2.heap.size w2 ((w2.alloc (.cells z16 88)).setCells w2.heap.size 0 (ic (clsV l0))) := Below.setCells w2.heap.size (Nat.le_refl _) (ic (clsV l0)) 0 _ ((Below.refl _ _).alloc (Nat.le_refl _) (.cells z16 88))
  replace A0 := A0.below hbS A0.lt; replace R0 := R0.below hbS R0.lt; replace L0 := L0.trans (hbS.mono L0.size)
  replace r0 := r0.below hbS (Nat.le_refl _); replace r1 := r1.below hbS (Nat.le_refl _); replace r2 := r2.below hbS (Nat.le_refl _); replace r3 := r3.below hbS (Nat.le_refl _)
  clear Zz hbS
  generalize (w2.alloc (.cells z16 88)).setCells w2.heap.size 0 (ic (clsV l0)) = w3 at *
  generalize w2.heap.size = bC at *
  obtain ⟨cl, hcl⟩ : ∃ cl, clsV l0 = cl := ⟨_, rfl⟩
  rw [hcl] at CO HC ⊢
  have HCL : Hid (clsV l0 = cl) := hcl
  clear hcl
  obtain ⟨U0, hU0⟩ : ∃ U, linksV cl = U := ⟨_, rfl⟩
  have HU0 : Hid (linksV cl = U0) := hU0
  clear hU0
  obtain ⟨U1, hU1⟩ : ∃ U, inC cl l1 = U := ⟨_, rfl⟩
  have HU1 : Hid (inC cl l1 = U1) := hU1
  clear hU1
  obtain ⟨U2, hU2⟩ : ∃ U, inC cl l2 = U := ⟨_, rfl⟩
  have HU2 : Hid (inC cl l2 = U2) := hU2
  clear hU2
  obtain ⟨U3, hU3⟩ : ∃ U, inC cl l3 = U := ⟨_, rfl⟩
  have HU3 : Hid (inC cl l3 = U3) := hU3
  clear hU3
  have zbC : bC < w3.heap.size := CO.1
  have zA3 := A0.lt
  have u67 := Try.underlying88
  have i67 : (Try.prog.info? 88).map (·.size) = some (ic cl).length := by rw [ic_length, HC]; kernel_rfl
  go_upto_region 4 with fail
  go_cut [5] (fun v6 wz => RelF w3 U0 U1 U2 U3 v6 wz)
  case first =>
    have HX : Below w3.heap.size w3 w3.drew := (Below.refl _ _).drew
    have hS0 : Below w3.heap.size w3 w3.drew ∧ w3.drew.rangeAt bC 0 (ic cl) ∧ w3.drew.cell? ⟨w.heap.size, 1, none⟩ = some (.slice a1 l1.length c1) ∧ w3.drew.cell? ⟨w.heap.size, 2, none⟩ = some (.slice a2 l2.length c2) ∧ w3.drew.cell? ⟨w.heap.size, 3, none⟩ = some (.slice a3 l3.length c3) := ⟨HX, (own1I CO HX).range HC, A0.drew.c1, A0.drew.c2, A0.drew.c3⟩
    refine wp_region_held_drew (S := fun W => Below w3.heap.size w3 W ∧ W.rangeAt bC 0 (ic cl) ∧ W.cell? ⟨w.heap.size, 1, none⟩ = some (.slice a1 l1.length c1) ∧ W.cell? ⟨w.heap.size, 2, none⟩ = some (.slice a2 l2.length c2) ∧ W.cell? ⟨w.heap.size, 3, none⟩ = some (.slice a3 l3.length c3)) (by kernel_rfl) hS0 (fun _ => ?_)
    have B3 := Box.drew A0
    have BN := (Box.new w3 (.slice none 0 0) (.slice none 0 0) (.slice none 0 0) (.slice none 0 0) 28).drew
    generalize hW0 : w3.drew = W0 at *
    have zW0 : W0.heap.size = w3.heap.size := by rw [← hW0]; rfl
    clear hW0 BN
    refine wpAnyH_take (i := 0) rfl (by kernel_rfl) (by kernel_rfl) (by kernel_rfl) (fun _ _ _ h => h) (yieldsIf_load_mid (by rfl) _ _ rfl _ _ rfl _ _ (fun w' h => h.2.1) u67 rfl i67) hS0 ?_
    simp only [Act.put, List.setIfInBounds_toArray]
    refine wpAnyH_take (i := 2) rfl (by kernel_rfl) (by kernel_rfl) (by kernel_rfl) (fun _ _ _ h => h) (yieldsIf_load_mid (by rfl) _ _ rfl _ _ rfl _ _ (fun w' h => h.2.1) u67 rfl i67) hS0 ?_
    simp only [Act.put]
    refine wpAnyH_take (i := 3) (v := .pointer (some ⟨w.heap.size, 1, none⟩)) rfl (by kernel_rfl) (by kernel_rfl) (by kernel_rfl) (fun _ _ _ h => h) (Or.inl ⟨by rfl, ?_⟩) hS0 ?_
    · intro w2' hSw; obtain ⟨-, -, s1', s2', s3'⟩ := hSw; go_simp
    simp only [Act.put]
    refine wpAnyH_take (i := 4) (v := .slice a1 l1.length c1) rfl (by kernel_rfl) (by kernel_rfl) (by kernel_rfl) (fun _ _ _ h => h) (Or.inl ⟨by rfl, ?_⟩) hS0 ?_
    · intro w2' hSw; obtain ⟨-, -, s1', s2', s3'⟩ := hSw; go_simp
    simp only [Act.put]
    refine wpAnyH_take (i := 6) rfl (by kernel_rfl) (by kernel_rfl) (by kernel_rfl) (fun _ _ _ h => h) (yieldsIf_load_mid (by rfl) _ _ rfl _ _ rfl _ _ (fun w' h => h.2.1) u67 rfl i67) hS0 ?_
    simp only [Act.put]
    refine wpAnyH_take (i := 7) (v := .pointer (some ⟨w.heap.size, 2, none⟩)) rfl (by kernel_rfl) (by kernel_rfl) (by kernel_rfl) (fun _ _ _ h => h) (Or.inl ⟨by rfl, ?_⟩) hS0 ?_
    · intro w2' hSw; obtain ⟨-, -, s1', s2', s3'⟩ := hSw; go_simp
    simp only [Act.put]
    refine wpAnyH_take (i := 8) (v := .slice a2 l2.length c2) rfl (by kernel_rfl) (by kernel_rfl) (by kernel_rfl) (fun _ _ _ h => h) (Or.inl ⟨by rfl, ?_⟩) hS0 ?_
    · intro w2' hSw; obtain ⟨-, -, s1', s2', s3'⟩ := hSw; go_simp
    simp only [Act.put]
    refine wpAnyH_take (i := 10) rfl (by kernel_rfl) (by kernel_rfl) (by kernel_rfl) (fun _ _ _ h => h) (yieldsIf_load_mid (by rfl) _ _ rfl _ _ rfl _ _ (fun w' h => h.2.1) u67 rfl i67) hS0 ?_
    simp only [Act.put]
    refine wpAnyH_take (i := 11) (v := .pointer (some ⟨w.heap.size, 3, none⟩)) rfl (by kernel_rfl) (by kernel_rfl) (by kernel_rfl) (fun _ _ _ h => h) (Or.inl ⟨by rfl, ?_⟩) hS0 ?_
    · intro w2' hSw; obtain ⟨-, -, s1', s2', s3'⟩ := hSw; go_simp
    simp only [Act.put]
    refine wpAnyH_take (i := 12) (v := .slice a3 l3.length c3) rfl (by kernel_rfl) (by kernel_rfl) (by kernel_rfl) (fun _ _ _ h => h) (Or.inl ⟨by rfl, ?_⟩) hS0 ?_
    · intro w2' hSw; obtain ⟨-, -, s1', s2', s3'⟩ := hSw; go_simp
    simp only [Act.put]
    refine wpAnyH_ready (rs := [1, 15]) (by kernel_rfl) (by simp) ?_
    refine AllReadyH.cons rfl (fun K hK => ?_) ?_
    · rw [if_pos (by rfl)]
      go_simp
      refine (links_any cl HC _).mono ?_
      rintro e u0_0 ⟨p0, q0, rfl, T0, h0_0⟩
      rw [HU0.out] at T0
      rw [HU0.out]
      have xu0_0 := Below.link hS0.1 h0_0
      have su0_0 : Below w3.heap.size w3 u0_0 ∧ u0_0.rangeAt bC 0 (ic cl) ∧ u0_0.cell? ⟨w.heap.size, 1, none⟩ = some (.slice a1 l1.length c1) ∧ u0_0.cell? ⟨w.heap.size, 2, none⟩ = some (.slice a2 l2.length c2) ∧ u0_0.cell? ⟨w.heap.size, 3, none⟩ = some (.slice a3 l3.length c3) := ⟨xu0_0, (own1I CO xu0_0).range HC, (A0.keep2 xu0_0).c1, (A0.keep2 xu0_0).c2, (A0.keep2 xu0_0).c3⟩
      have zu0_0 := h0_0.size
      refine hK.out _ _ su0_0 (fun _ => ?_)
      clear hK K
      refine wpAnyH_ready (rs := [5, 15]) (by kernel_rfl) (by simp) ?_
      refine AllReadyH.cons rfl (fun K hK => ?_) ?_
      · rw [if_pos (by rfl)]
        go_simp
        refine (inClasses_any _ _ l1 cl HC _ n1 t1 (r1.below su0_0.1 (Nat.le_refl _))).mono ?_
        rintro e u1_0 ⟨p1, q1, rfl, T1, h1_0⟩
        rw [HU1.out] at T1
        rw [HU1.out]
        have xu1_0 := Below.link su0_0.1 h1_0
        have su1_0 : Below w3.heap.size w3 u1_0 ∧ u1_0.rangeAt bC 0 (ic cl) ∧ u1_0.cell? ⟨w.heap.size, 1, none⟩ = some (.slice a1 l1.length c1) ∧ u1_0.cell? ⟨w.heap.size, 2, none⟩ = some (.slice a2 l2.length c2) ∧ u1_0.cell? ⟨w.heap.size, 3, none⟩ = some (.slice a3 l3.length c3) := ⟨xu1_0, (own1I CO xu1_0).range HC, (A0.keep2 xu1_0).c1, (A0.keep2 xu1_0).c2, (A0.keep2 xu1_0).c3⟩
        have zu1_0 := h1_0.size
        replace T0 := T0.below h1_0 (by (try simp only [World.size_alloc]); omega)
        refine hK.out _ _ su1_0 (fun _ => ?_)
        clear hK K
        refine wpAnyH_ready (rs := [9, 15]) (by kernel_rfl) (by simp) ?_
        refine AllReadyH.cons rfl (fun K hK => ?_) ?_
        · rw [if_pos (by rfl)]
          go_simp
          refine (inClasses_any _ _ l2 cl HC _ n2 t2 (r2.below su1_0.1 (Nat.le_refl _))).mono ?_
          rintro e u2_0 ⟨p2, q2, rfl, T2, h2_0⟩
          rw [HU2.out] at T2
          rw [HU2.out]
          have xu2_0 := Below.link su1_0.1 h2_0
          have su2_0 : Below w3.heap.size w3 u2_0 ∧ u2_0.rangeAt bC 0 (ic cl) ∧ u2_0.cell? ⟨w.heap.size, 1, none⟩ = some (.slice a1 l1.length c1) ∧ u2_0.cell? ⟨w.heap.size, 2, none⟩ = some (.slice a2 l2.length c2) ∧ u2_0.cell? ⟨w.heap.size, 3, none⟩ = some (.slice a3 l3.length c3) := ⟨xu2_0, (own1I CO xu2_0).range HC, (A0.keep2 xu2_0).c1, (A0.keep2 xu2_0).c2, (A0.keep2 xu2_0).c3⟩
          have zu2_0 := h2_0.size
          replace T0 := T0.below h2_0 (by (try simp only [World.size_alloc]); omega)
          replace T1 := T1.below h2_0 (by (try simp only [World.size_alloc]); omega)
          refine hK.out _ _ su2_0 (fun _ => ?_)
          clear hK K
          refine wpAnyH_ready (rs := [13, 15]) (by kernel_rfl) (by simp) ?_
          refine AllReadyH.cons rfl (fun K hK => ?_) ?_
          · rw [if_pos (by rfl)]
            go_simp
            refine (inClasses_any _ _ l3 cl HC _ n3 t3 (r3.below su2_0.1 (Nat.le_refl _))).mono ?_
            rintro e u3_0 ⟨p3, q3, rfl, T3, h3_0⟩
            rw [HU3.out] at T3
            rw [HU3.out]
            have xu3_0 := Below.link su2_0.1 h3_0
            have su3_0 : Below w3.heap.size w3 u3_0 ∧ u3_0.rangeAt bC 0 (ic cl) ∧ u3_0.cell? ⟨w.heap.size, 1, none⟩ = some (.slice a1 l1.length c1) ∧ u3_0.cell? ⟨w.heap.size, 2, none⟩ = some (.slice a2 l2.length c2) ∧ u3_0.cell? ⟨w.heap.size, 3, none⟩ = some (.slice a3 l3.length c3) := ⟨xu3_0, (own1I CO xu3_0).range HC, (A0.keep2 xu3_0).c1, (A0.keep2 xu3_0).c2, (A0.keep2 xu3_0).c3⟩
            have zu3_0 := h3_0.size
            replace T0 := T0.below h3_0 (by (try simp only [World.size_alloc]); omega)
            replace T1 := T1.below h3_0 (by (try simp only [World.size_alloc]); omega)
            replace T2 := T2.below h3_0 (by (try simp only [World.size_alloc]); omega)
            refine hK.out _ _ su3_0 (fun _ => ?_)
            clear hK K
            refine wpAnyH_take (i := 14) (v := .agg #[(.slice p0 U0.length q0), (.slice p1 U1.length q1), (.slice p2 U2.length q2), (.slice p3 U3.length q3)]) rfl (by kernel_rfl) (by kernel_rfl) (by kernel_rfl) (fun _ _ _ h => h) (Or.inl ⟨by rfl, ?_⟩) su3_0 ?_
            · intro w2' hSw; go_simp
            simp only [Act.put, List.setIfInBounds_toArray]
            have RF := relF_alloc (U0 := U0) (U1 := U1) (U2 := U2) (U3 := U3) (p0 := p0) (p1 := p1) (p2 := p2) (p3 := p3) (q0 := q0) (q1 := q1) (q2 := q2) (q3 := q3) su3_0.1 T0 T1 T2 T3 (by omega)
            refine wpAnyH_ready (rs := [15]) (by kernel_rfl) (by simp) ?_
            refine AllReadyH.cons rfl (fun K hK => ?_) AllReadyH.nil
            rw [if_pos (by rfl)]
            go_simp
            have al4 : Below u3_0.heap.size u3_0 (u3_0.alloc (.cells #[.slice none 0 0, .slice none 0 0, .slice none 0 0, .slice none 0 0] 28)) := (Below.refl _ _).alloc (Nat.le_refl _) _
            have BX := Box.new u3_0 (.slice none 0 0) (.slice none 0 0) (.slice none 0 0) (.slice none 0 0) 28
            try rw [zW0] at BX
            have xA4 := Below.link su3_0.1 al4
            have sA4 : Below w3.heap.size w3 (u3_0.alloc (.cells #[.slice none 0 0, .slice none 0 0, .slice none 0 0, .slice none 0 0] 28)) ∧ (u3_0.alloc (.cells #[.slice none 0 0, .slice none 0 0, .slice none 0 0, .slice none 0 0] 28)).rangeAt bC 0 (ic cl) ∧ (u3_0.alloc (.cells #[.slice none 0 0, .slice none 0 0, .slice none 0 0, .slice none 0 0] 28)).cell? ⟨w.heap.size, 1, none⟩ = some (.slice a1 l1.length c1) ∧ (u3_0.alloc (.cells #[.slice none 0 0, .slice none 0 0, .slice none 0 0, .slice none 0 0] 28)).cell? ⟨w.heap.size, 2, none⟩ = some (.slice a2 l2.length c2) ∧ (u3_0.alloc (.cells #[.slice none 0 0, .slice none 0 0, .slice none 0 0, .slice none 0 0] 28)).cell? ⟨w.heap.size, 3, none⟩ = some (.slice a3 l3.length c3) := ⟨xA4, (own1I CO xA4).range HC, (A0.keep2 xA4).c1, (A0.keep2 xA4).c2, (A0.keep2 xA4).c3⟩
            have zA4_ : (u3_0.alloc (.cells #[.slice none 0 0, .slice none 0 0, .slice none 0 0, .slice none 0 0] 28)).heap.size = u3_0.heap.size + 1 := by simp
            replace T0 := T0.below al4 (by omega)
            replace T1 := T1.below al4 (by omega)
            replace T2 := T2.below al4 (by omega)
            replace T3 := T3.below al4 (by omega)
            refine hK.out _ _ sA4 (fun _ => ?_)
            clear hK K
            refine wpAnyH_ready (rs := [16]) (by kernel_rfl) (by simp) ?_
            refine AllReadyH.cons rfl (fun K hK => ?_) AllReadyH.nil
            rw [if_pos (by rfl)]
            have bx0 := BX.c0; have bf0 := BX.f0; have bx1 := BX.c1; have bf1 := BX.f1; have bx2 := BX.c2; have bf2 := BX.f2; have bx3 := BX.c3; have bf3 := BX.f3
            go_simp
            obtain ⟨_, _, _, _, _, _, _, _, _, _, _, _, xF, _⟩ := id RF
            refine hK.out _ _ ⟨xF, (own1I CO xF).range HC, (A0.keep2 xF).c1, (A0.keep2 xF).c2, (A0.keep2 xF).c3⟩ (fun _ => ?_)
            clear hK K
            refine wpAnyH_done (by kernel_rfl) ?_ _
            go_wp2_with fail
            go_meet
            exact RF
          refine AllReadyH.cons rfl (fun K hK => ?_) AllReadyH.nil
          · rw [if_pos (by rfl)]
            go_simp
            have al3 : Below u2_0.heap.size u2_0 (u2_0.alloc (.cells #[.slice none 0 0, .slice none 0 0, .slice none 0 0, .slice none 0 0] 28)) := (Below.refl _ _).alloc (Nat.le_refl _) _
            have BX := Box.new u2_0 (.slice none 0 0) (.slice none 0 0) (.slice none 0 0) (.slice none 0 0) 28
            try rw [zW0] at BX
            have xA3 := Below.link su2_0.1 al3
            have sA3 : Below w3.heap.size w3 (u2_0.alloc (.cells #[.slice none 0 0, .slice none 0 0, .slice none 0 0, .slice none 0 0] 28)) ∧ (u2_0.alloc (.cells #[.slice none 0 0, .slice none 0 0, .slice none 0 0, .slice none 0 0] 28)).rangeAt bC 0 (ic cl) ∧ (u2_0.alloc (.cells #[.slice none 0 0, .slice none 0 0, .slice none 0 0, .slice none 0 0] 28)).cell? ⟨w.heap.size, 1, none⟩ = some (.slice a1 l1.length c1) ∧ (u2_0.alloc (.cells #[.slice none 0 0, .slice none 0 0, .slice none 0 0, .slice none 0 0] 28)).cell? ⟨w.heap.size, 2, none⟩ = some (.slice a2 l2.length c2) ∧ (u2_0.alloc (.cells #[.slice none 0 0, .slice none 0 0, .slice none 0 0, .slice none 0 0] 28)).cell? ⟨w.heap.size, 3, none⟩ = some (.slice a3 l3.length c3) := ⟨xA3, (own1I CO xA3).range HC, (A0.keep2 xA3).c1, (A0.keep2 xA3).c2, (A0.keep2 xA3).c3⟩
            have zA3_ : (u2_0.alloc (.cells #[.slice none 0 0, .slice none 0 0, .slice none 0 0, .slice none 0 0] 28)).heap.size = u2_0.heap.size + 1 := by simp
            replace T0 := T0.below al3 (by omega)
            replace T1 := T1.below al3 (by omega)
            replace T2 := T2.below al3 (by omega)
            refine hK.out _ _ sA3 (fun _ => ?_)
            clear hK K
            refine wpAnyH_ready (rs := [13]) (by kernel_rfl) (by simp) ?_
            refine AllReadyH.cons rfl (fun K hK => ?_) ?_
            · rw [if_pos (by rfl)]
              go_simp
              refine (inClasses_any _ _ l3 cl HC _ n3 t3 (r3.below sA3.1 (Nat.le_refl _))).mono ?_
              rintro e u3_40 ⟨p3, q3, rfl, T3, h3_40⟩
              rw [HU3.out] at T3
              rw [HU3.out]
              have xu3_40 := Below.link sA3.1 h3_40
              have su3_40 : Below w3.heap.size w3 u3_40 ∧ u3_40.rangeAt bC 0 (ic cl) ∧ u3_40.cell? ⟨w.heap.size, 1, none⟩ = some (.slice a1 l1.length c1) ∧ u3_40.cell? ⟨w.heap.size, 2, none⟩ = some (.slice a2 l2.length c2) ∧ u3_40.cell? ⟨w.heap.size, 3, none⟩ = some (.slice a3 l3.length c3) := ⟨xu3_40, (own1I CO xu3_40).range HC, (A0.keep2 xu3_40).c1, (A0.keep2 xu3_40).c2, (A0.keep2 xu3_40).c3⟩
              have zu3_40 := h3_40.size
              replace T0 := T0.below h3_40 (by (try simp only [World.size_alloc]); omega)
              replace T1 := T1.below h3_40 (by (try simp only [World.size_alloc]); omega)
              replace T2 := T2.below h3_40 (by (try simp only [World.size_alloc]); omega)
              replace BX := BX.keep2 h3_40
              refine hK.out _ _ su3_40 (fun _ => ?_)
              clear hK K
              refine wpAnyH_take (i := 14) (v := .agg #[(.slice p0 U0.length q0), (.slice p1 U1.length q1), (.slice p2 U2.length q2), (.slice p3 U3.length q3)]) rfl (by kernel_rfl) (by kernel_rfl) (by kernel_rfl) (fun _ _ _ h => h) (Or.inl ⟨by rfl, ?_⟩) su3_40 ?_
              · intro w2' hSw; go_simp
              simp only [Act.put, List.setIfInBounds_toArray]
              refine wpAnyH_ready (rs := [16]) (by kernel_rfl) (by simp) ?_
              refine AllReadyH.cons rfl (fun K hK => ?_) AllReadyH.nil
              rw [if_pos (by rfl)]
              have bx0 := BX.c0; have bf0 := BX.f0; have bx1 := BX.c1; have bf1 := BX.f1; have bx2 := BX.c2; have bf2 := BX.f2; have bx3 := BX.c3; have bf3 := BX.f3
              go_simp
              have RF := relF_fill (U0 := U0) (U1 := U1) (U2 := U2) (U3 := U3) (p0 := p0) (p1 := p1) (p2 := p2) (p3 := p3) (q0 := q0) (q1 := q1) (q2 := q2) (q3 := q3) BX su3_40.1 (by omega) T0 T1 T2 T3 (by (try simp only [World.size_alloc]); omega) (by (try simp only [World.size_alloc]); omega)
              obtain ⟨_, _, _, _, _, _, _, _, _, _, _, _, xF, _⟩ := id RF
              refine hK.out _ _ ⟨xF, (own1I CO xF).range HC, (A0.keep2 xF).c1, (A0.keep2 xF).c2, (A0.keep2 xF).c3⟩ (fun _ => ?_)
              clear hK K
              refine wpAnyH_done (by kernel_rfl) ?_ _
              go_wp2_with fail
              go_meet
              exact RF
            exact AllReadyH.nil
        refine AllReadyH.cons rfl (fun K hK => ?_) AllReadyH.nil
        · rw [if_pos (by rfl)]
          go_simp
          have al2 : Below u1_0.heap.size u1_0 (u1_0.alloc (.cells #[.slice none 0 0, .slice none 0 0, .slice none 0 0, .slice none 0 0] 28)) := (Below.refl _ _).alloc (Nat.le_refl _) _
          have BX := Box.new u1_0 (.slice none 0 0) (.slice none 0 0) (.slice none 0 0) (.slice none 0 0) 28
          try rw [zW0] at BX
          have xA2 := Below.link su1_0.1 al2
          have sA2 : Below w3.heap.size w3 (u1_0.alloc (.cells #[.slice none 0 0, .slice none 0 0, .slice none 0 0, .slice none 0 0] 28)) ∧ (u1_0.alloc (.cells #[.slice none 0 0, .slice none 0 0, .slice none 0 0, .slice none 0 0] 28)).rangeAt bC 0 (ic cl) ∧ (u1_0.alloc (.cells #[.slice none 0 0, .slice none 0 0, .slice none 0 0, .slice none 0 0] 28)).cell? ⟨w.heap.size, 1, none⟩ = some (.slice a1 l1.length c1) ∧ (u1_0.alloc (.cells #[.slice none 0 0, .slice none 0 0, .slice none 0 0, .slice none 0 0] 28)).cell? ⟨w.heap.size, 2, none⟩ = some (.slice a2 l2.length c2) ∧ (u1_0.alloc (.cells #[.slice none 0 0, .slice none 0 0, .slice none 0 0, .slice none 0 0] 28)).cell? ⟨w.heap.size, 3, none⟩ = some (.slice a3 l3.length c3) := ⟨xA2, (own1I CO xA2).range HC, (A0.keep2 xA2).c1, (A0.keep2 xA2).c2, (A0.keep2 xA2).c3⟩
          have zA2_ : (u1_0.alloc (.cells #[.slice none 0 0, .slice none 0 0, .slice none 0 0, .slice none 0 0] 28)).heap.size = u1_0.heap.size + 1 := by simp
          replace T0 := T0.below al2 (by omega)
          replace T1 := T1.below al2 (by omega)
          refine hK.out _ _ sA2 (fun _ => ?_)
          clear hK K
          refine wpAnyH_ready (rs := [9]) (by kernel_rfl) (by simp) ?_
          refine AllReadyH.cons rfl (fun K hK => ?_) ?_
          · rw [if_pos (by rfl)]
            go_simp
            refine (inClasses_any _ _ l2 cl HC _ n2 t2 (r2.below sA2.1 (Nat.le_refl _))).mono ?_
            rintro e u2_30 ⟨p2, q2, rfl, T2, h2_30⟩
            rw [HU2.out] at T2
            rw [HU2.out]
            have xu2_30 := Below.link sA2.1 h2_30
            have su2_30 : Below w3.heap.size w3 u2_30 ∧ u2_30.rangeAt bC 0 (ic cl) ∧ u2_30.cell? ⟨w.heap.size, 1, none⟩ = some (.slice a1 l1.length c1) ∧ u2_30.cell? ⟨w.heap.size, 2, none⟩ = some (.slice a2 l2.length c2) ∧ u2_30.cell? ⟨w.heap.size, 3, none⟩ = some (.slice a3 l3.length c3) := ⟨xu2_30, (own1I CO xu2_30).range HC, (A0.keep2 xu2_30).c1, (A0.keep2 xu2_30).c2, (A0.keep2 xu2_30).c3⟩
            have zu2_30 := h2_30.size
            replace T0 := T0.below h2_30 (by (try simp only [World.size_alloc]); omega)
            replace T1 := T1.below h2_30 (by (try simp only [World.size_alloc]); omega)
            replace BX := BX.keep2 h2_30
            refine hK.out _ _ su2_30 (fun _ => ?_)
            clear hK K
            refine wpAnyH_ready (rs := [13]) (by kernel_rfl) (by simp) ?_
            refine AllReadyH.cons rfl (fun K hK => ?_) ?_
            · rw [if_pos (by rfl)]
              go_simp
              refine (inClasses_any _ _ l3 cl HC _ n3 t3 (r3.below su2_30.1 (Nat.le_refl _))).mono ?_
              rintro e u3_30 ⟨p3, q3, rfl, T3, h3_30⟩
              rw [HU3.out] at T3
              rw [HU3.out]
              have xu3_30 := Below.link su2_30.1 h3_30
              have su3_30 : Below w3.heap.size w3 u3_30 ∧ u3_30.rangeAt bC 0 (ic cl) ∧ u3_30.cell? ⟨w.heap.size, 1, none⟩ = some (.slice a1 l1.length c1) ∧ u3_30.cell? ⟨w.heap.size, 2, none⟩ = some (.slice a2 l2.length c2) ∧ u3_30.cell? ⟨w.heap.size, 3, none⟩ = some (.slice a3 l3.length c3) := ⟨xu3_30, (own1I CO xu3_30).range HC, (A0.keep2 xu3_30).c1, (A0.keep2 xu3_30).c2, (A0.keep2 xu3_30).c3⟩
              have zu3_30 := h3_30.size
              replace T0 := T0.below h3_30 (by (try simp only [World.size_alloc]); omega)
              replace T1 := T1.below h3_30 (by (try simp only [World.size_alloc]); omega)
              replace T2 := T2.below h3_30 (by (try simp only [World.size_alloc]); omega)
              replace BX := BX.keep2 h3_30
              refine hK.out _ _ su3_30 (fun _ => ?_)
              clear hK K
              refine wpAnyH_take (i := 14) (v := .agg #[(.slice p0 U0.length q0), (.slice p1 U1.length q1), (.slice p2 U2.length q2), (.slice p3 U3.length q3)]) rfl (by kernel_rfl) (by kernel_rfl) (by kernel_rfl) (fun _ _ _ h => h) (Or.inl ⟨by rfl, ?_⟩) su3_30 ?_
              · intro w2' hSw; go_simp
              simp only [Act.put, List.setIfInBounds_toArray]
              refine wpAnyH_ready (rs := [16]) (by kernel_rfl) (by simp) ?_
              refine AllReadyH.cons rfl (fun K hK => ?_) AllReadyH.nil
              rw [if_pos (by rfl)]
              have bx0 := BX.c0; have bf0 := BX.f0; have bx1 := BX.c1; have bf1 := BX.f1; have bx2 := BX.c2; have bf2 := BX.f2; have bx3 := BX.c3; have bf3 := BX.f3
              go_simp
              have RF := relF_fill (U0 := U0) (U1 := U1) (U2 := U2) (U3 := U3) (p0 := p0) (p1 := p1) (p2 := p2) (p3 := p3) (q0 := q0) (q1 := q1) (q2 := q2) (q3 := q3) BX su3_30.1 (by omega) T0 T1 T2 T3 (by (try simp only [World.size_alloc]); omega) (by (try simp only [World.size_alloc]); omega)
              obtain ⟨_, _, _, _, _, _, _, _, _, _, _, _, xF, _⟩ := id RF
              refine hK.out _ _ ⟨xF, (own1I CO xF).range HC, (A0.keep2 xF).c1, (A0.keep2 xF).c2, (A0.keep2 xF).c3⟩ (fun _ => ?_)
              clear hK K
              refine wpAnyH_done (by kernel_rfl) ?_ _
              go_wp2_with fail
              go_meet
              exact RF
            exact AllReadyH.nil
          exact AllReadyH.nil
      refine AllReadyH.cons rfl (fun K hK => ?_) AllReadyH.nil
      · rw [if_pos (by rfl)]
        go_simp
        have al1 : Below u0_0.heap.size u0_0 (u0_0.alloc (.cells #[.slice none 0 0, .slice none 0 0, .slice none 0 0, .slice none 0 0] 28)) := (Below.refl _ _).alloc (Nat.le_refl _) _
        have BX := Box.new u0_0 (.slice none 0 0) (.slice none 0 0) (.slice none 0 0) (.slice none 0 0) 28
        try rw [zW0] at BX
        have xA1 := Below.link su0_0.1 al1
        have sA1 : Below w3.heap.size w3 (u0_0.alloc (.cells #[.slice none 0 0, .slice none 0 0, .slice none 0 0, .slice none 0 0] 28)) ∧ (u0_0.alloc (.cells #[.slice none 0 0, .slice none 0 0, .slice none 0 0, .slice none 0 0] 28)).rangeAt bC 0 (ic cl) ∧ (u0_0.alloc (.cells #[.slice none 0 0, .slice none 0 0, .slice none 0 0, .slice none 0 0] 28)).cell? ⟨w.heap.size, 1, none⟩ = some (.slice a1 l1.length c1) ∧ (u0_0.alloc (.cells #[.slice none 0 0, .slice none 0 0, .slice none 0 0, .slice none 0 0] 28)).cell? ⟨w.heap.size, 2, none⟩ = some (.slice a2 l2.length c2) ∧ (u0_0.alloc (.cells #[.slice none 0 0, .slice none 0 0, .slice none 0 0, .slice none 0 0] 28)).cell? ⟨w.heap.size, 3, none⟩ = some (.slice a3 l3.length c3) := ⟨xA1, (own1I CO xA1).range HC, (A0.keep2 xA1).c1, (A0.keep2 xA1).c2, (A0.keep2 xA1).c3⟩
        have zA1_ : (u0_0.alloc (.cells #[.slice none 0 0, .slice none 0 0, .slice none 0 0, .slice none 0 0] 28)).heap.size = u0_0.heap.size + 1 := by simp
        replace T0 := T0.below al1 (by omega)
        refine hK.out _ _ sA1 (fun _ => ?_)
        clear hK K
        refine wpAnyH_ready (rs := [5]) (by kernel_rfl) (by simp) ?_
        refine AllReadyH.cons rfl (fun K hK => ?_) ?_
        · rw [if_pos (by rfl)]
          go_simp
          refine (inClasses_any _ _ l1 cl HC _ n1 t1 (r1.below sA1.1 (Nat.le_refl _))).mono ?_
          rintro e u1_20 ⟨p1, q1, rfl, T1, h1_20⟩
          rw [HU1.out] at T1
          rw [HU1.out]
          have xu1_20 := Below.link sA1.1 h1_20
          have su1_20 : Below w3.heap.size w3 u1_20 ∧ u1_20.rangeAt bC 0 (ic cl) ∧ u1_20.cell? ⟨w.heap.size, 1, none⟩ = some (.slice a1 l1.length c1) ∧ u1_20.cell? ⟨w.heap.size, 2, none⟩ = some (.slice a2 l2.length c2) ∧ u1_20.cell? ⟨w.heap.size, 3, none⟩ = some (.slice a3 l3.length c3) := ⟨xu1_20, (own1I CO xu1_20).range HC, (A0.keep2 xu1_20).c1, (A0.keep2 xu1_20).c2, (A0.keep2 xu1_20).c3⟩
          have zu1_20 := h1_20.size
          replace T0 := T0.below h1_20 (by (try simp only [World.size_alloc]); omega)
          replace BX := BX.keep2 h1_20
          refine hK.out _ _ su1_20 (fun _ => ?_)
          clear hK K
          refine wpAnyH_ready (rs := [9]) (by kernel_rfl) (by simp) ?_
          refine AllReadyH.cons rfl (fun K hK => ?_) ?_
          · rw [if_pos (by rfl)]
            go_simp
            refine (inClasses_any _ _ l2 cl HC _ n2 t2 (r2.below su1_20.1 (Nat.le_refl _))).mono ?_
            rintro e u2_20 ⟨p2, q2, rfl, T2, h2_20⟩
            rw [HU2.out] at T2
            rw [HU2.out]
            have xu2_20 := Below.link su1_20.1 h2_20
            have su2_20 : Below w3.heap.size w3 u2_20 ∧ u2_20.rangeAt bC 0 (ic cl) ∧ u2_20.cell? ⟨w.heap.size, 1, none⟩ = some (.slice a1 l1.length c1) ∧ u2_20.cell? ⟨w.heap.size, 2, none⟩ = some (.slice a2 l2.length c2) ∧ u2_20.cell? ⟨w.heap.size, 3, none⟩ = some (.slice a3 l3.length c3) := ⟨xu2_20, (own1I CO xu2_20).range HC, (A0.keep2 xu2_20).c1, (A0.keep2 xu2_20).c2, (A0.keep2 xu2_20).c3⟩
            have zu2_20 := h2_20.size
            replace T0 := T0.below h2_20 (by (try simp only [World.size_alloc]); omega)
            replace T1 := T1.below h2_20 (by (try simp only [World.size_alloc]); omega)
            replace BX := BX.keep2 h2_20
            refine hK.out _ _ su2_20 (fun _ => ?_)
            clear hK K
            refine wpAnyH_ready (rs := [13]) (by kernel_rfl) (by simp) ?_
            refine AllReadyH.cons rfl (fun K hK => ?_) ?_
            · rw [if_pos (by rfl)]
              go_simp
              refine (inClasses_any _ _ l3 cl HC _ n3 t3 (r3.below su2_20.1 (Nat.le_refl _))).mono ?_
              rintro e u3_20 ⟨p3, q3, rfl, T3, h3_20⟩
              rw [HU3.out] at T3
              rw [HU3.out]
              have xu3_20 := Below.link su2_20.1 h3_20
              have su3_20 : Below w3.heap.size w3 u3_20 ∧ u3_20.rangeAt bC 0 (ic cl) ∧ u3_20.cell? ⟨w.heap.size, 1, none⟩ = some (.slice a1 l1.length c1) ∧ u3_20.cell? ⟨w.heap.size, 2, none⟩ = some (.slice a2 l2.length c2) ∧ u3_20.cell? ⟨w.heap.size, 3, none⟩ = some (.slice a3 l3.length c3) := ⟨xu3_20, (own1I CO xu3_20).range HC, (A0.keep2 xu3_20).c1, (A0.keep2 xu3_20).c2, (A0.keep2 xu3_20).c3⟩
              have zu3_20 := h3_20.size
              replace T0 := T0.below h3_20 (by (try simp only [World.size_alloc]); omega)
              replace T1 := T1.below h3_20 (by (try simp only [World.size_alloc]); omega)
              replace T2 := T2.below h3_20 (by (try simp only [World.size_alloc]); omega)
              replace BX := BX.keep2 h3_20
              refine hK.out _ _ su3_20 (fun _ => ?_)
              clear hK K
              refine wpAnyH_take (i := 14) (v := .agg #[(.slice p0 U0.length q0), (.slice p1 U1.length q1), (.slice p2 U2.length q2), (.slice p3 U3.length q3)]) rfl (by kernel_rfl) (by kernel_rfl) (by kernel_rfl) (fun _ _ _ h => h) (Or.inl ⟨by rfl, ?_⟩) su3_20 ?_
              · intro w2' hSw; go_simp
              simp only [Act.put, List.setIfInBounds_toArray]
              refine wpAnyH_ready (rs := [16]) (by kernel_rfl) (by simp) ?_
              refine AllReadyH.cons rfl (fun K hK => ?_) AllReadyH.nil
              rw [if_pos (by rfl)]
              have bx0 := BX.c0; have bf0 := BX.f0; have bx1 := BX.c1; have bf1 := BX.f1; have bx2 := BX.c2; have bf2 := BX.f2; have bx3 := BX.c3; have bf3 := BX.f3
              go_simp
              have RF := relF_fill (U0 := U0) (U1 := U1) (U2 := U2) (U3 := U3) (p0 := p0) (p1 := p1) (p2 := p2) (p3 := p3) (q0 := q0) (q1 := q1) (q2 := q2) (q3 := q3) BX su3_20.1 (by omega) T0 T1 T2 T3 (by (try simp only [World.size_alloc]); omega) (by (try simp only [World.size_alloc]); omega)
              obtain ⟨_, _, _, _, _, _, _, _, _, _, _, _, xF, _⟩ := id RF
              refine hK.out _ _ ⟨xF, (own1I CO xF).range HC, (A0.keep2 xF).c1, (A0.keep2 xF).c2, (A0.keep2 xF).c3⟩ (fun _ => ?_)
              clear hK K
              refine wpAnyH_done (by kernel_rfl) ?_ _
              go_wp2_with fail
              go_meet
              exact RF
            exact AllReadyH.nil
          exact AllReadyH.nil
        exact AllReadyH.nil
    refine AllReadyH.cons rfl (fun K hK => ?_) AllReadyH.nil
    · rw [if_pos (by rfl)]
      go_simp
      have al0 : Below W0.heap.size W0 (W0.alloc (.cells #[.slice none 0 0, .slice none 0 0, .slice none 0 0, .slice none 0 0] 28)) := (Below.refl _ _).alloc (Nat.le_refl _) _
      have BX := Box.new W0 (.slice none 0 0) (.slice none 0 0) (.slice none 0 0) (.slice none 0 0) 28
      try rw [zW0] at BX
      have xA0 := Below.link hS0.1 al0
      have sA0 : Below w3.heap.size w3 (W0.alloc (.cells #[.slice none 0 0, .slice none 0 0, .slice none 0 0, .slice none 0 0] 28)) ∧ (W0.alloc (.cells #[.slice none 0 0, .slice none 0 0, .slice none 0 0, .slice none 0 0] 28)).rangeAt bC 0 (ic cl) ∧ (W0.alloc (.cells #[.slice none 0 0, .slice none 0 0, .slice none 0 0, .slice none 0 0] 28)).cell? ⟨w.heap.size, 1, none⟩ = some (.slice a1 l1.length c1) ∧ (W0.alloc (.cells #[.slice none 0 0, .slice none 0 0, .slice none 0 0, .slice none 0 0] 28)).cell? ⟨w.heap.size, 2, none⟩ = some (.slice a2 l2.length c2) ∧ (W0.alloc (.cells #[.slice none 0 0, .slice none 0 0, .slice none 0 0, .slice none 0 0] 28)).cell? ⟨w.heap.size, 3, none⟩ = some (.slice a3 l3.length c3) := ⟨xA0, (own1I CO xA0).range HC, (A0.keep2 xA0).c1, (A0.keep2 xA0).c2, (A0.keep2 xA0).c3⟩
      have zA0_ : (W0.alloc (.cells #[.slice none 0 0, .slice none 0 0, .slice none 0 0, .slice none 0 0] 28)).heap.size = W0.heap.size + 1 := by simp
      refine hK.out _ _ sA0 (fun _ => ?_)
      clear hK K
      refine wpAnyH_ready (rs := [1]) (by kernel_rfl) (by simp) ?_
      refine AllReadyH.cons rfl (fun K hK => ?_) ?_
      · rw [if_pos (by rfl)]
        go_simp
        refine (links_any cl HC _).mono ?_
        rintro e u0_10 ⟨p0, q0, rfl, T0, h0_10⟩
        rw [HU0.out] at T0
        rw [HU0.out]
        have xu0_10 := Below.link sA0.1 h0_10
        have su0_10 : Below w3.heap.size w3 u0_10 ∧ u0_10.rangeAt bC 0 (ic cl) ∧ u0_10.cell? ⟨w.heap.size, 1, none⟩ = some (.slice a1 l1.length c1) ∧ u0_10.cell? ⟨w.heap.size, 2, none⟩ = some (.slice a2 l2.length c2) ∧ u0_10.cell? ⟨w.heap.size, 3, none⟩ = some (.slice a3 l3.length c3) := ⟨xu0_10, (own1I CO xu0_10).range HC, (A0.keep2 xu0_10).c1, (A0.keep2 xu0_10).c2, (A0.keep2 xu0_10).c3⟩
        have zu0_10 := h0_10.size
        replace BX := BX.keep2 h0_10
        refine hK.out _ _ su0_10 (fun _ => ?_)
        clear hK K
        refine wpAnyH_ready (rs := [5]) (by kernel_rfl) (by simp) ?_
        refine AllReadyH.cons rfl (fun K hK => ?_) ?_
        · rw [if_pos (by rfl)]
          go_simp
          refine (inClasses_any _ _ l1 cl HC _ n1 t1 (r1.below su0_10.1 (Nat.le_refl _))).mono ?_
          rintro e u1_10 ⟨p1, q1, rfl, T1, h1_10⟩
          rw [HU1.out] at T1
          rw [HU1.out]
          have xu1_10 := Below.link su0_10.1 h1_10
          have su1_10 : Below w3.heap.size w3 u1_10 ∧ u1_10.rangeAt bC 0 (ic cl) ∧ u1_10.cell? ⟨w.heap.size, 1, none⟩ = some (.slice a1 l1.length c1) ∧ u1_10.cell? ⟨w.heap.size, 2, none⟩ = some (.slice a2 l2.length c2) ∧ u1_10.cell? ⟨w.heap.size, 3, none⟩ = some (.slice a3 l3.length c3) := ⟨xu1_10, (own1I CO xu1_10).range HC, (A0.keep2 xu1_10).c1, (A0.keep2 xu1_10).c2, (A0.keep2 xu1_10).c3⟩
          have zu1_10 := h1_10.size
          replace T0 := T0.below h1_10 (by (try simp only [World.size_alloc]); omega)
          replace BX := BX.keep2 h1_10
          refine hK.out _ _ su1_10 (fun _ => ?_)
          clear hK K
          refine wpAnyH_ready (rs := [9]) (by kernel_rfl) (by simp) ?_
          refine AllReadyH.cons rfl (fun K hK => ?_) ?_
          · rw [if_pos (by rfl)]
            go_simp
            refine (inClasses_any _ _ l2 cl HC _ n2 t2 (r2.below su1_10.1 (Nat.le_refl _))).mono ?_
            rintro e u2_10 ⟨p2, q2, rfl, T2, h2_10⟩
            rw [HU2.out] at T2
            rw [HU2.out]
            have xu2_10 := Below.link su1_10.1 h2_10
            have su2_10 : Below w3.heap.size w3 u2_10 ∧ u2_10.rangeAt bC 0 (ic cl) ∧ u2_10.cell? ⟨w.heap.size, 1, none⟩ = some (.slice a1 l1.length c1) ∧ u2_10.cell? ⟨w.heap.size, 2, none⟩ = some (.slice a2 l2.length c2) ∧ u2_10.cell? ⟨w.heap.size, 3, none⟩ = some (.slice a3 l3.length c3) := ⟨xu2_10, (own1I CO xu2_10).range HC, (A0.keep2 xu2_10).c1, (A0.keep2 xu2_10).c2, (A0.keep2 xu2_10).c3⟩
            have zu2_10 := h2_10.size
            replace T0 := T0.below h2_10 (by (try simp only [World.size_alloc]); omega)
            replace T1 := T1.below h2_10 (by (try simp only [World.size_alloc]); omega)
            replace BX := BX.keep2 h2_10
            refine hK.out _ _ su2_10 (fun _ => ?_)
            clear hK K
            refine wpAnyH_ready (rs := [13]) (by kernel_rfl) (by simp) ?_
            refine AllReadyH.cons rfl (fun K hK => ?_) ?_
            · rw [if_pos (by rfl)]
              go_simp
              refine (inClasses_any _ _ l3 cl HC _ n3 t3 (r3.below su2_10.1 (Nat.le_refl _))).mono ?_
              rintro e u3_10 ⟨p3, q3, rfl, T3, h3_10⟩
              rw [HU3.out] at T3
              rw [HU3.out]
              have xu3_10 := Below.link su2_10.1 h3_10
              have su3_10 : Below w3.heap.size w3 u3_10 ∧ u3_10.rangeAt bC 0 (ic cl) ∧ u3_10.cell? ⟨w.heap.size, 1, none⟩ = some (.slice a1 l1.length c1) ∧ u3_10.cell? ⟨w.heap.size, 2, none⟩ = some (.slice a2 l2.length c2) ∧ u3_10.cell? ⟨w.heap.size, 3, none⟩ = some (.slice a3 l3.length c3) := ⟨xu3_10, (own1I CO xu3_10).range HC, (A0.keep2 xu3_10).c1, (A0.keep2 xu3_10).c2, (A0.keep2 xu3_10).c3⟩
              have zu3_10 := h3_10.size
              replace T0 := T0.below h3_10 (by (try simp only [World.size_alloc]); omega)
              replace T1 := T1.below h3_10 (by (try simp only [World.size_alloc]); omega)
              replace T2 := T2.below h3_10 (by (try simp only [World.size_alloc]); omega)
              replace BX := BX.keep2 h3_10
              refine hK.out _ _ su3_10 (fun _ => ?_)
              clear hK K
              refine wpAnyH_take (i := 14) (v := .agg #[(.slice p0 U0.length q0), (.slice p1 U1.length q1), (.slice p2 U2.length q2), (.slice p3 U3.length q3)]) rfl (by kernel_rfl) (by kernel_rfl) (by kernel_rfl) (fun _ _ _ h => h) (Or.inl ⟨by rfl, ?_⟩) su3_10 ?_
              · intro w2' hSw; go_simp
              simp only [Act.put, List.setIfInBounds_toArray]
              refine wpAnyH_ready (rs := [16]) (by kernel_rfl) (by simp) ?_
              refine AllReadyH.cons rfl (fun K hK => ?_) AllReadyH.nil
              rw [if_pos (by rfl)]
              have bx0 := BX.c0; have bf0 := BX.f0; have bx1 := BX.c1; have bf1 := BX.f1; have bx2 := BX.c2; have bf2 := BX.f2; have bx3 := BX.c3; have bf3 := BX.f3
              go_simp
              have RF := relF_fill (U0 := U0) (U1 := U1) (U2 := U2) (U3 := U3) (p0 := p0) (p1 := p1) (p2 := p2) (p3 := p3) (q0 := q0) (q1 := q1) (q2 := q2) (q3 := q3) BX su3_10.1 (by omega) T0 T1 T2 T3 (by (try simp only [World.size_alloc]); omega) (by (try simp only [World.size_alloc]); omega)
              obtain ⟨_, _, _, _, _, _, _, _, _, _, _, _, xF, _⟩ := id RF
              refine hK.out _ _ ⟨xF, (own1I CO xF).range HC, (A0.keep2 xF).c1, (A0.keep2 xF).c2, (A0.keep2 xF).c3⟩ (fun _ => ?_)
              clear hK K
              refine wpAnyH_done (by kernel_rfl) ?_ _
              go_wp2_with fail
              go_meet
              exact RF
            exact AllReadyH.nil
          exact AllReadyH.nil
        exact AllReadyH.nil
      exact AllReadyH.nil
  case rest =>
    obtain ⟨Z, p0, p1, p2, p3, q0, q1, q2, q3, rfl, WB, T, hX, hZ⟩ := hcut
    rename World => w4
    clear A0 CO r0 r1 r2 r3
    replace R0 := R0.below hX R0.lt; replace L0 := L0.trans (hX.mono L0.size)
    have zX := hX.size
    clear hX
    have Z0 : U0.length ≤ 1048576 := by have := linksK_le cl 16; rw [← HU0.out]; unfold linksV; omega
    have Z1 : U1.length ≤ 1048576 := by rw [← HU1.out, inC_len]; exact n1
    have Z2 : U2.length ≤ 1048576 := by rw [← HU2.out, inC_len]; exact n2
    have Z3 : U3.length ≤ 1048576 := by rw [← HU3.out, inC_len]; exact n3
    have TS := T.seen
    have wc0 := WB.c0; have wc1 := WB.c1; have wc2 := WB.c2; have wc3 := WB.c3
    go_wp2_with fail
    clear wc0 wc1 wc2 wc3
    refine (iAsnOk_any _ _ _ _ _ _ _ _ _ _ _ _ _ Z0 Z1 Z2 Z3 (by exact TS.1.row) (by exact TS.2.1.row) (by exact TS.2.2.1.row) (by exact TS.2.2.2.row)).mono ?_
    rintro e w6 ⟨rfl, hb⟩
    clear TS
    replace T := T.below hb (Nat.le_refl _)
    replace R0 := R0.below hb R0.lt; replace L0 := L0.trans (hb.mono L0.size); replace WB := WB.below hb WB.lt
    have zb6 := hb.size
    clear hb
    have wc0 := WB.c0; have wc1 := WB.c1; have wc2 := WB.c2; have wc3 := WB.c3
    cases h3 : asnB U0 U1 U2 U3
    · have HE : Hid ((normB l0 l1 l2 l3) = false) := by show (normB l0 l1 l2 l3) = false; unfold normB; rw [H1.out, HCL.out, HU0.out, HU1.out, HU2.out, HU3.out, h3]; rfl
      obtain ⟨F, FO⟩ := R0.fill (.slice none 0 0) (.slice none 0 0) (.slice none 0 0) (.slice none 0 0)
      have j0' := R0.c0; have j1' := R0.c1; have j2' := R0.c2; have j3' := R0.c3
      have g0 := R0.f0; have g1 := R0.f1; have g2 := R0.f2; have g3 := R0.f3
      go_wp2
      have i0 := F.c0; have i1 := F.c1; have i2 := F.c2; have i3 := F.c3
      refine bodyPost_ret (v := .tuple #[.agg #[.slice none 0 0, .slice none 0 0, .slice none 0 0, .slice none 0 0], .bool false]) ?_ rfl ⟨none, none, none, none, 0, 0, 0, 0, by rw [HE.out]; rfl, ?_, ?_⟩
      · simp [results, Try.results60, go_sem, i0, i1, i2, i3]
      · rw [HE.out]; exact (Four.none _ w.heap.size).mono (Nat.le_refl _) (by have := FO.size; have := L0.size; omega)
      · exact L0.trans (FO.below (by omega) L0.size)
    have HE : Hid ((normB l0 l1 l2 l3) = true) := by show (normB l0 l1 l2 l3) = true; unfold normB; rw [H1.out, HCL.out, HU0.out, HU1.out, HU2.out, HU3.out, h3]; rfl
    clear h3
    obtain ⟨F, FO⟩ := R0.fill (.slice p0 U0.length q0) (.slice p1 U1.length q1) (.slice p2 U2.length q2) (.slice p3 U3.length q3)
    have j0' := R0.c0; have j1' := R0.c1; have j2' := R0.c2; have j3' := R0.c3
    have g0 := R0.f0; have g1 := R0.f1; have g2 := R0.f2; have g3 := R0.f3
    go_wp2
    have i0' := F.c0; have i1 := F.c1; have i2 := F.c2; have i3 := F.c3
    have fz := FO.size
    have zw := L0.size
    refine bodyPost_ret (v := .tuple #[.agg #[.slice p0 U0.length q0, .slice p1 U1.length q1, .slice p2 U2.length q2, .slice p3 U3.length q3], .bool true]) ?_ rfl ⟨p0, p1, p2, p3, q0, q1, q2, q3, by rw [HE.out, HCL.out, HU0.out, HU1.out, HU2.out, HU3.out]; rfl, ?_, ?_⟩
    · simp [results, Try.results60, go_sem, i0', i1, i2, i3]
    · rw [HE.out, HCL.out, HU0.out, HU1.out, HU2.out, HU3.out]; exact (T.out FO (.inr (by omega))).mono (by omega) (by omega)
    · exact L0.trans (FO.below (by omega) L0.size)

end Go.Proofs.Ytmiiebmnjijhoaa
