/-
  The contract of spec.Normal.
-/
import Derived.Test.YtmiiebmnjijhoaaNm0
import Derived.Test.YtmiiebmnjijhoaaAl
import Derived.Test.YtmiiebmnjijhoaaOkI
import Derived.Deep.RegionHeld3
import Derived.Deep.RegionLaw
import Derived.Deep.AppendLies
import Derived.Deep.DeepCutAuto
namespace Go.Proofs.Ytmiiebmnjijhoaa
open Go.RowKit
set_option linter.unusedVariables false

def normB (l0 l1 l2 l3 : List (Int × Int)) : Bool := asnB l0 l1 l2 l3 && asnB (linksV (clsV l0)) (inC (clsV l0) l1) (inC (clsV l0) l2) (inC (clsV l0) l3)

theorem Out.grew {lo hi : Nat} {a w w' : World} {row : Option Nat} (h : Out lo hi a w) (hg : w.grownBy w' row) (hr : ∀ k, row = some k → a.heap.size ≤ k) : Out lo hi a w' :=
  ⟨hg.os.trans h.os, hg.tape.trans h.tape, hg.output.trans h.output, Nat.le_trans h.size hg.size, fun k hk hk' => (hg.block k (Nat.lt_of_lt_of_le hk h.size) (fun e => by have := hr k e.symm; omega)).trans (h.block k hk hk')⟩
theorem RowNe.outZ {w w' : World} {lo Z n : Nat} {a : Option Addr} {l : List (Int × Int)} (h : RowNe w lo Z a n l) (ho : Out Z (Z + 1) w w') : RowNe w' lo Z a n l := by
  obtain ⟨hl, h0 | ⟨b, rfl, h3, h4, h5⟩⟩ := h
  · exact ⟨hl, .inl h0⟩
  · exact ⟨hl, .inr ⟨b, rfl, h3, h4, h5.out ho (by omega)⟩⟩
theorem own1I {w w' : World} {b n k : Nat} {l : List Int} (h : OwnI w b n l k) (hb : Below w.heap.size w w') : OwnI w' b n l k := h.below hb h.1

set_option maxRecDepth 20000 in
set_option maxHeartbeats 16000000 in
theorem sNormal_any (a0 a1 a2 a3 : Option Addr) (c0 c1 c2 c3 : Nat) (l0 l1 l2 l3 : List (Int × Int)) (w : World) (n0 : l0.length ≤ 1048576) (n1 : l1.length ≤ 1048576) (n2 : l2.length ≤ 1048576) (n3 : l3.length ≤ 1048576) (r0 : PRow w a0 l0) (r1 : PRow w a1 l1) (r2 : PRow w a2 l2) (r3 : PRow w a3 l3) :
    Calls Try.prog 59 #[.agg #[.slice a0 l0.length c0, .slice a1 l1.length c1, .slice a2 l2.length c2, .slice a3 l3.length c3]] w fun e w' => ∃ p0 p1 p2 p3 q0 q1 q2 q3, e = .returned (.tuple #[.agg #[.slice p0 (okL (normB l0 l1 l2 l3) (linksV (clsV l0))).length q0, .slice p1 (okL (normB l0 l1 l2 l3) (inC (clsV l0) l1)).length q1, .slice p2 (okL (normB l0 l1 l2 l3) (inC (clsV l0) l2)).length q2, .slice p3 (okL (normB l0 l1 l2 l3) (inC (clsV l0) l3)).length q3], .bool (normB l0 l1 l2 l3)]) ∧ Seen w' w.heap.size w'.heap.size p0 p1 p2 p3 (okL (normB l0 l1 l2 l3) (linksV (clsV l0))).length (okL (normB l0 l1 l2 l3) (inC (clsV l0) l1)).length (okL (normB l0 l1 l2 l3) (inC (clsV l0) l2)).length (okL (normB l0 l1 l2 l3) (inC (clsV l0) l3)).length (okL (normB l0 l1 l2 l3) (linksV (clsV l0))) (okL (normB l0 l1 l2 l3) (inC (clsV l0) l1)) (okL (normB l0 l1 l2 l3) (inC (clsV l0) l2)) (okL (normB l0 l1 l2 l3) (inC (clsV l0) l3)) ∧ Below w.heap.size w w' := by
  have A0 := (Box.new w (.slice a0 l0.length c0) (.slice a1 l1.length c1) (.slice a2 l2.length c2) (.slice a3 l3.length c3) 28).alloc (.cells #[.slice none 0 0, .slice none 0 0, .slice none 0 0, .slice none 0 0] 28)
  have R0 := Box.new (w.alloc (.cells #[.slice a0 l0.length c0, .slice a1 l1.length c1, .slice a2 l2.length c2, .slice a3 l3.length c3] 28)) (.slice none 0 0) (.slice none 0 0) (.slice none 0 0) (.slice none 0 0) 28
  rw [World.size_alloc] at R0
  have L0 : Below w.heap.size w ((w.alloc (.cells #[.slice a0 l0.length c0, .slice a1 l1.length c1, .slice a2 l2.length c2, .slice a3 l3.length c3] 28)).alloc (.cells #[.slice none 0 0, .slice none 0 0, .slice none 0 0, .slice none 0 0] 28)) := ((Below.refl _ _).alloc (Nat.le_refl _) _).alloc (by simp) _
  go_enter Try.func59, Try.ntmps59
  go_wp2_with fail
  refine (sAsnOk_any _ _ _ _ _ _ _ _ _ _ _ _ _ n0 n1 n2 n3 (by exact r0.below L0 (Nat.le_refl _)) (by exact r1.below L0 (Nat.le_refl _)) (by exact r2.below L0 (Nat.le_refl _)) (by exact r3.below L0 (Nat.le_refl _))).mono ?_
  rintro e w1 ⟨rfl, hb⟩
  replace A0 := A0.below hb A0.lt; replace R0 := R0.below hb R0.lt; replace L0 := L0.trans (hb.mono L0.size)
  clear hb
  have A0c0 := A0.c0; have A0c1 := A0.c1; have A0c2 := A0.c2; have A0c3 := A0.c3
  cases h1 : asnB l0 l1 l2 l3
  · have HE : Hid ((normB l0 l1 l2 l3) = false) := by show (normB l0 l1 l2 l3) = false; unfold normB; rw [h1]; rfl
    obtain ⟨F, FO⟩ := R0.fill (.slice none 0 0) (.slice none 0 0) (.slice none 0 0) (.slice none 0 0)
    have j0' := R0.c0; have j1' := R0.c1; have j2' := R0.c2; have j3' := R0.c3
    have g0 := R0.f0; have g1 := R0.f1; have g2 := R0.f2; have g3 := R0.f3
    go_wp2
    have i0 := F.c0; have i1 := F.c1; have i2 := F.c2; have i3 := F.c3
    refine bodyPost_ret (v := .tuple #[.agg #[.slice none 0 0, .slice none 0 0, .slice none 0 0, .slice none 0 0], .bool false]) ?_ rfl ⟨none, none, none, none, 0, 0, 0, 0, by rw [HE.out]; rfl, ?_, ?_⟩
    · simp [results, Try.results59, go_sem, i0, i1, i2, i3]
    · rw [HE.out]; exact Seen.none _ _ _
    · exact L0.trans (FO.below (by omega) L0.size)
  have H1 : Hid (asnB l0 l1 l2 l3 = true) := h1
  obtain ⟨t0, t1, t2, t3⟩ := asnB_toks h1
  clear h1
  have zR := R0.lt
  go_wp2_with fail
  clear A0c0 A0c1 A0c2 A0c3
  refine (l3classes_any _ _ _ _ _ _ _ _ _ _ _ _ _ n0 t0 (by exact r0.below L0 (Nat.le_refl _))).mono ?_
  rintro e w3 ⟨bR, cR, rfl, zb, CO, hb⟩
  replace A0 := A0.below hb A0.lt; replace R0 := R0.below hb R0.lt; replace L0 := L0.trans (hb.mono L0.size)
  clear hb
  replace r0 := r0.below L0 (Nat.le_refl _); replace r1 := r1.below L0 (Nat.le_refl _); replace r2 := r2.below L0 (Nat.le_refl _); replace r3 := r3.below L0 (Nat.le_refl _)
  have HC := (Cls.all t0).1
  have zR3 := R0.lt
  have zbr := CO.1
  obtain ⟨U1, hU1⟩ : ∃ U, inC (clsV l0) l1 = U := ⟨_, rfl⟩
  have HU1 : Hid (inC (clsV l0) l1 = U1) := hU1
  clear hU1
  obtain ⟨U2, hU2⟩ : ∃ U, inC (clsV l0) l2 = U := ⟨_, rfl⟩
  have HU2 : Hid (inC (clsV l0) l2 = U2) := hU2
  clear hU2
  obtain ⟨U3, hU3⟩ : ∃ U, inC (clsV l0) l3 = U := ⟨_, rfl⟩
  have HU3 : Hid (inC (clsV l0) l3 = U3) := hU3
  clear hU3
  have hS1 : Below w3.heap.size w3 w3 ∧ w3.heap.size ≤ w3.heap.size ∧ w3.cell? ⟨w.heap.size, 0, none⟩ = some (.slice a0 l0.length c0) ∧ w3.cell? ⟨w.heap.size, 1, none⟩ = some (.slice a1 l1.length c1) ∧ w3.cell? ⟨w.heap.size, 2, none⟩ = some (.slice a2 l2.length c2) ∧ w3.cell? ⟨w.heap.size, 3, none⟩ = some (.slice a3 l3.length c3) := ⟨Below.refl _ _, Nat.le_refl _, A0.c0, A0.c1, A0.c2, A0.c3⟩
  have hS0 : Below w3.heap.size w3 w3.drew ∧ w3.heap.size ≤ w3.drew.heap.size ∧ w3.drew.cell? ⟨w.heap.size, 0, none⟩ = some (.slice a0 l0.length c0) ∧ w3.drew.cell? ⟨w.heap.size, 1, none⟩ = some (.slice a1 l1.length c1) ∧ w3.drew.cell? ⟨w.heap.size, 2, none⟩ = some (.slice a2 l2.length c2) ∧ w3.drew.cell? ⟨w.heap.size, 3, none⟩ = some (.slice a3 l3.length c3) := tK hS1 (Below.refl _ _).drew
  have zA := A0.lt
  go_upto_region 4 with fail
  go_cut [5] (fun v6 wz => RelN w3 U1 U2 U3 v6 wz)
  case first =>
    go_region_held3 (fun W => Below w3.heap.size w3 W ∧ w3.heap.size ≤ W.heap.size ∧ W.cell? ⟨w.heap.size, 0, none⟩ = some (.slice a0 l0.length c0) ∧ W.cell? ⟨w.heap.size, 1, none⟩ = some (.slice a1 l1.length c1) ∧ W.cell? ⟨w.heap.size, 2, none⟩ = some (.slice a2 l2.length c2) ∧ W.cell? ⟨w.heap.size, 3, none⟩ = some (.slice a3 l3.length c3))
      (first | exact hS0 | exact hS1 | assumption | (refine tAd _ ?_; (first | assumption | (refine ⟨?_, ?_, ?_, ?_, ?_, ?_⟩ <;> assumption))) | (refine tAl _ ?_; (first | assumption | (refine ⟨?_, ?_, ?_, ?_, ?_, ?_⟩ <;> assumption))) | (refine tSt _ _ _ _ _ BZ zA ?_; (first | assumption | (refine ⟨?_, ?_, ?_, ?_, ?_, ?_⟩ <;> assumption))) | (refine ⟨?_, ?_, ?_, ?_, ?_, ?_⟩ <;> assumption))
      (first
        | (go_at_call_of 131 (Value.slice a1 l1.length c1); refine (l3swap_any _ _ bR cR l1 (clsV l0) _ n1 t1 (r1.below (sB (by assumption)) (Nat.le_refl _)) (own1I CO (sB (by assumption)))).mono ?_; rintro e u1 ⟨p1, q1, rfl, T1, h1⟩; rw [HU1.out] at T1; rw [HU1.out]; have k1 := tK (by assumption) h1; have s1 : _ ≤ _ := h1.size)
        | (go_at_call_of 131 (Value.slice a2 l2.length c2); refine (l3swap_any _ _ bR cR l2 (clsV l0) _ n2 t2 (r2.below (sB (by assumption)) (Nat.le_refl _)) (own1I CO (sB (by assumption)))).mono ?_; rintro e u2 ⟨p2, q2, rfl, T2, h2⟩; rw [HU2.out] at T2; rw [HU2.out]; have k2 := tK (by assumption) h2; have s2 : _ ≤ _ := h2.size)
        | (go_at_call_of 131 (Value.slice a3 l3.length c3); refine (l3swap_any _ _ bR cR l3 (clsV l0) _ n3 t3 (r3.below (sB (by assumption)) (Nat.le_refl _)) (own1I CO (sB (by assumption)))).mono ?_; rintro e u3 ⟨p3, q3, rfl, T3, h3⟩; rw [HU3.out] at T3; rw [HU3.out]; have k3 := tK (by assumption) h3; have s3 : _ ≤ _ := h3.size; (first | (have BX := (Box.new u2 (.slice none 0 0) (.slice none 0 0) (.slice none 0 0) (.slice none 0 0) 28).keep2 h3; have BZ : w3.heap.size ≤ _ := Below.size (Below.link (Below.link (Below.link (show Below w3.heap.size w3 _ from (by (first | exact (Below.refl _ _).drew | exact ((Below.refl _ _).alloc (Nat.le_refl _) _).drew))) h1) (by (first | exact Below.refl _ _ | exact (Below.refl _ _).alloc (Nat.le_refl _) _))) h2); have bx0 := BX.c0; have bf0 := BX.f0; have bx1 := BX.c1; have bf1 := BX.f1; have bx2 := BX.c2; have bf2 := BX.f2; have bx3 := BX.c3; have bf3 := BX.f3) | (have BX := ((Box.new u1 (.slice none 0 0) (.slice none 0 0) (.slice none 0 0) (.slice none 0 0) 28).keep2 h2).keep2 h3; have BZ : w3.heap.size ≤ _ := Below.size (Below.link (show Below w3.heap.size w3 _ from (by (first | exact (Below.refl _ _).drew | exact ((Below.refl _ _).alloc (Nat.le_refl _) _).drew))) h1); have bx0 := BX.c0; have bf0 := BX.f0; have bx1 := BX.c1; have bf1 := BX.f1; have bx2 := BX.c2; have bf2 := BX.f2; have bx3 := BX.c3; have bf3 := BX.f3) | (have BX := (((Box.new w3 (.slice none 0 0) (.slice none 0 0) (.slice none 0 0) (.slice none 0 0) 28).drew.keep2 h1).keep2 h2).keep2 h3; have BZ : w3.heap.size ≤ _ := Nat.le_refl _; have bx0 := BX.c0; have bf0 := BX.f0; have bx1 := BX.c1; have bf1 := BX.f1; have bx2 := BX.c2; have bf2 := BX.f2; have bx3 := BX.c3; have bf3 := BX.f3) | skip)))
    all_goals
      have L12 : Below u1.heap.size u1 u2 := Below.link (by (first | exact Below.refl _ _ | exact (Below.refl _ _).alloc (Nat.le_refl _) _)) h2
      have L23 : Below u2.heap.size u2 u3 := Below.link (by (first | exact Below.refl _ _ | exact (Below.refl _ _).alloc (Nat.le_refl _) _)) h3
      have X1 := (T1.below L12 (Nat.le_refl _)).below L23 L12.size
      have X2 := T2.below L23 (Nat.le_refl _)
      have e1 := h1.size; have e2 := h2.size; have e3 := h3.size
      try simp only [World.size_drew] at e1
      try simp only [World.size_alloc] at e1
      try simp only [World.size_drew] at e2
      try simp only [World.size_alloc] at e2
      try simp only [World.size_drew] at e3
      try simp only [World.size_alloc] at e3
      go_wp2_with fail
      go_meet
      first
        | (exact relN_fill BX (Below.link (Below.link (Below.link (Below.link (Below.link (show Below w3.heap.size w3 _ from (by (first | exact (Below.refl _ _).drew | exact ((Below.refl _ _).alloc (Nat.le_refl _) _).drew))) h1) (by (first | exact Below.refl _ _ | exact (Below.refl _ _).alloc (Nat.le_refl _) _))) h2) (by (first | exact Below.refl _ _ | exact (Below.refl _ _).alloc (Nat.le_refl _) _))) h3) BZ (RowNe.of X1 (by first | omega | (simp only [World.size_alloc]; omega) | (simp only [World.size_drew]; omega) | (simp only [World.size_alloc, World.size_drew]; omega)) (by first | omega | (simp only [World.size_alloc]; omega) | (simp only [World.size_drew]; omega) | (simp only [World.size_alloc, World.size_drew]; omega))) (RowNe.of X2 (by first | omega | (simp only [World.size_alloc]; omega) | (simp only [World.size_drew]; omega) | (simp only [World.size_alloc, World.size_drew]; omega)) (by first | omega | (simp only [World.size_alloc]; omega) | (simp only [World.size_drew]; omega) | (simp only [World.size_alloc, World.size_drew]; omega))) (RowNe.of T3 (by first | omega | (simp only [World.size_alloc]; omega) | (simp only [World.size_drew]; omega) | (simp only [World.size_alloc, World.size_drew]; omega)) (by first | omega | (simp only [World.size_alloc]; omega) | (simp only [World.size_drew]; omega) | (simp only [World.size_alloc, World.size_drew]; omega))))
        | (exact relN_alloc (Below.link (Below.link (Below.link (Below.link (Below.link (show Below w3.heap.size w3 _ from (by (first | exact (Below.refl _ _).drew | exact ((Below.refl _ _).alloc (Nat.le_refl _) _).drew))) h1) (by (first | exact Below.refl _ _ | exact (Below.refl _ _).alloc (Nat.le_refl _) _))) h2) (by (first | exact Below.refl _ _ | exact (Below.refl _ _).alloc (Nat.le_refl _) _))) h3) (X1.mono (by first | omega | (simp only [World.size_alloc]; omega) | (simp only [World.size_drew]; omega) | (simp only [World.size_alloc, World.size_drew]; omega)) (by first | omega | (simp only [World.size_alloc]; omega) | (simp only [World.size_drew]; omega) | (simp only [World.size_alloc, World.size_drew]; omega))) (X2.mono (by first | omega | (simp only [World.size_alloc]; omega) | (simp only [World.size_drew]; omega) | (simp only [World.size_alloc, World.size_drew]; omega)) (by first | omega | (simp only [World.size_alloc]; omega) | (simp only [World.size_drew]; omega) | (simp only [World.size_alloc, World.size_drew]; omega))) (T3.mono (by first | omega | (simp only [World.size_alloc]; omega) | (simp only [World.size_drew]; omega) | (simp only [World.size_alloc, World.size_drew]; omega)) (by first | omega | (simp only [World.size_alloc]; omega) | (simp only [World.size_drew]; omega) | (simp only [World.size_alloc, World.size_drew]; omega))))
  case rest =>
    clear hS0 hS1
    obtain ⟨Z, p1, p2, p3, q1, q2, q3, rfl, WB, N1, N2, N3, hX, hZ⟩ := hcut
    rename World => w4
    clear A0
    replace R0 := R0.below hX R0.lt; replace L0 := L0.trans (hX.mono L0.size)
    replace CO := own1I CO hX
    have zX := hX.size
    have zZ := WB.lt
    have zbR : bR < w3.heap.size := zbr
    clear hX r0 r1 r2 r3
    obtain ⟨i0, hi, hz0, hz1, hz2⟩ := Try.i57
    obtain ⟨cl, hcl⟩ : ∃ cl, clsV l0 = cl := ⟨_, rfl⟩
    rw [hcl] at CO HC
    have HCL : Hid (clsV l0 = cl) := hcl
    clear hcl
    go_wp2
    go_loopw [6] (fun x wr => ∃ k : Nat, k ≤ 16 ∧ x = .int .i64 k ∧ ∃ v, Box wr Z v (.slice p1 U1.length q1) (.slice p2 U2.length q2) (.slice p3 U3.length q3) ∧ wr.ownsRow w4.heap.size 67 2 v (linksK cl k).length (pc (linksK cl k)) ∧ Out Z (Z + 1) w4 wr) (fun x _ => 16 - (intOf x).toNat)
    case atStart => exact ⟨0, Nat.zero_le _, rfl, _, WB, World.ownsRow_nil _ _ _ _, Out.refl _ _ _⟩
    case round =>
      obtain ⟨k, hk, rfl, v, WR, hown, hO⟩ := hrel
      by_cases hlt : k < 16
      · have CR := CO.out hO (.inl (by omega))
        have er := CR.2.2 k hlt
        have hk16 : (k : Int) < 16 := by omega
        have hk0 : (0 : Int) ≤ (k : Int) := by omega
        have hsu := linksK_succ cl k
        have hle := linksK_le cl k
        have hzz := hO.size
        generalize cl.getD k 0 = p at *
        generalize linksK cl k = ls at *
        cases hpk : (p == (k : Int))
        · have HS : Hid (linksK cl (k + 1) = ls ++ [((k : Int), p)]) := by show linksK cl (k + 1) = _; rw [hsu, if_neg (by simpa using hpk)]
          have hne : (p != (k : Int)) = true := by simp [bne, hpk]
          have hv := WR.c0
          have hZw : Z < wr.heap.size := WR.lt
          have hRw : bR < wr.heap.size := CR.1
          have HKO : Hid (∀ q, v.ownBlock = some q → w4.heap.size ≤ q) := fun q hq => (hown.lt q hq).1
          have hbA : Below w4.heap.size wr ((wr.alloc (.cells #[.int .i64 (k : Int), .int .i64 p] 67)).drew) := ((Below.refl _ _).alloc hzz _).drew
          have HBA := (show Hid (Below w4.heap.size wr ((wr.alloc (.cells #[.int .i64 (k : Int), .int .i64 p] 67)).drew)) from hbA)
          have hnw := news1 wr (k : Int) p 67
          have HNW := (show Hid (∀ j u, (pc [((k : Int), p)])[j]? = some u → ((wr.alloc (.cells #[.int .i64 (k : Int), .int .i64 p] 67)).drew).cell? ((⟨wr.heap.size, 0, none⟩ : Addr).add j) = some u) from hnw)
          have HOW := (show Hid (((wr.alloc (.cells #[.int .i64 (k : Int), .int .i64 p] 67)).drew).ownsRow w4.heap.size 67 2 v ls.length (pc ls)) from (hown.alloc _))
          have HOO := (show Hid (Out Z (Z + 1) w4 ((wr.alloc (.cells #[.int .i64 (k : Int), .int .i64 p] 67)).drew)) from hO.trans (Out.ofBelow ((Below.refl _ _).alloc (Nat.le_refl _) _).drew))
          have HWR := (show Hid (Box wr Z v (.slice p1 U1.length q1) (.slice p2 U2.length q2) (.slice p3 U3.length q3)) from WR)
          clear hbA hnw hsu hown hO CR WR
          go_wp2
          go_region_law (first
            | (refine step_append_lies _ (by rfl) _ _ 26 (by rfl) w4.heap.size 67 i0 (.agg #[.int .i64 0, .int .i64 0]) 2 16 Try.underlying26 hi hz0 hz1 hz2 rfl (by decide) v ls.length (pc ls) (by rfl) HOW.out ⟨wr.heap.size, 0, none⟩ 1 1 (pc [((k : Int), p)]) (by rfl) rfl HNW.out pc_one (by omega) (by unfold maxLen; omega) (by omega) (by simp; omega) (wr.heap.size + 1) (by simp) ?_; intro g cap w5 hown' hg hat hlt'; have W5 := HWR.out.below (HBA.out.grown hg (by simp; omega) HKO.out) zZ; have cO := W5.c0; have fO := W5.f0))
          all_goals
            have hown5 := ownsRow_setCell_below hown' (a := ⟨Z, 0, none⟩) zZ (.slice (some ⟨g, 0, none⟩) (ls.length + 1) cap)
            rw [← pc_append] at hown5
            have hW6 := W5.set0 (.slice (some ⟨g, 0, none⟩) (ls.length + 1) cap)
            have hO6 := (HOO.out.grew hg HKO.out).trans (Out.set Z 0 w5 (.slice (some ⟨g, 0, none⟩) (ls.length + 1) cap))
            clear W5 hg hat hlt' hown'
            go_wp2
            first
              | (go_roundw
                 case rel => exact ⟨k + 1, by omega, by go_num, _, hW6, by rw [HS.out]; simpa using hown5, hO6⟩
                 case measure => simp [intOf]; omega)
              | ((repeat apply Exists.intro); exact ⟨⟨k + 1, by omega, by go_num, _, hW6, by rw [HS.out]; simpa using hown5, hO6⟩, rfl⟩)
        · have HS : Hid (linksK cl (k + 1) = ls) := by show linksK cl (k + 1) = _; rw [hsu, if_pos (by simpa using hpk), List.append_nil]
          have hne : (p != (k : Int)) = false := by simp [bne, hpk]
          clear hsu
          go_wp2
          first
            | (go_roundw
               case rel => exact ⟨k + 1, by omega, by go_num, v, WR, by rw [HS.out]; exact hown, hO⟩
               case measure => simp [intOf]; omega)
            | ((repeat apply Exists.intro); exact ⟨⟨k + 1, by omega, by go_num, v, WR, by rw [HS.out]; exact hown, hO⟩, rfl⟩)
      · have HK16 : Hid (k = 16) := by show k = 16; omega
        have hge : ¬ ((k : Int) < 16) := by omega
        have hown2 := hown
        rw [HK16.out] at hown2
        obtain ⟨p0, q0, rfl, hr⟩ := RowIn.ofOwns hown2
        have R4 := R0.out hO (.inl (by omega)); have L4 := L0.trans (hO.below (by have := L0.size; omega) L0.size)
        have N1' := N1.outZ hO; have N2' := N2.outZ hO; have N3' := N3.outZ hO
        have hzz := hO.size
        clear hown hown2 N1 N2 N3 hO R0 L0 CO
        obtain ⟨U0, hU0⟩ : ∃ U, linksV cl = U := ⟨_, rfl⟩
        have HU0 : Hid (linksV cl = U0) := hU0
        rw [show linksK cl 16 = U0 from hU0] at hr WR
        clear hU0
        have T : Seen wr w3.heap.size wr.heap.size p0 p1 p2 p3 U0.length U1.length U2.length U3.length U0 U1 U2 U3 := ⟨hr.mono (by omega) (Nat.le_refl _), N1'.row, N2'.row, N3'.row⟩
        have Z0 : U0.length ≤ 1048576 := by have := linksK_le cl 16; rw [← HU0.out]; unfold linksV; omega
        have Z1 : U1.length ≤ 1048576 := by rw [← HU1.out, inC_len]; exact n1
        have Z2 : U2.length ≤ 1048576 := by rw [← HU2.out, inC_len]; exact n2
        have Z3 : U3.length ≤ 1048576 := by rw [← HU3.out, inC_len]; exact n3
        clear N1' N2' N3' hr
        have wc0 := WR.c0; have wc1 := WR.c1; have wc2 := WR.c2; have wc3 := WR.c3
        go_wp2_with fail
        clear wc0 wc1 wc2 wc3
        refine (sAsnOk_any _ _ _ _ _ _ _ _ _ _ _ _ _ Z0 Z1 Z2 Z3 (by exact T.1.row) (by exact T.2.1.row) (by exact T.2.2.1.row) (by exact T.2.2.2.row)).mono ?_
        rintro e w6 ⟨rfl, hb⟩
        replace T := T.below hb (Nat.le_refl _)
        replace R4 := R4.below hb R4.lt; replace L4 := L4.trans (hb.mono L4.size); replace WR := WR.below hb WR.lt
        have zb6 := hb.size
        clear hb
        have wc0 := WR.c0; have wc1 := WR.c1; have wc2 := WR.c2; have wc3 := WR.c3
        rw [HCL.out] at HU1 HU2 HU3
        cases h3 : asnB U0 U1 U2 U3
        · have HE : Hid ((normB l0 l1 l2 l3) = false) := by show (normB l0 l1 l2 l3) = false; unfold normB; rw [H1.out, HCL.out, HU0.out, HU1.out, HU2.out, HU3.out, h3]; rfl
          obtain ⟨F, FO⟩ := R4.fill (.slice none 0 0) (.slice none 0 0) (.slice none 0 0) (.slice none 0 0)
          have j0' := R4.c0; have j1' := R4.c1; have j2' := R4.c2; have j3' := R4.c3
          have g0 := R4.f0; have g1 := R4.f1; have g2 := R4.f2; have g3 := R4.f3
          go_wp2
          have i0 := F.c0; have i1 := F.c1; have i2 := F.c2; have i3 := F.c3
          refine bodyPost_ret (v := .tuple #[.agg #[.slice none 0 0, .slice none 0 0, .slice none 0 0, .slice none 0 0], .bool false]) ?_ rfl ⟨none, none, none, none, 0, 0, 0, 0, by rw [HE.out]; rfl, ?_, ?_⟩
          · simp [results, Try.results59, go_sem, i0, i1, i2, i3]
          · rw [HE.out]; exact Seen.none _ _ _
          · exact L4.trans (FO.below (by omega) L4.size)
        have HE : Hid ((normB l0 l1 l2 l3) = true) := by show (normB l0 l1 l2 l3) = true; unfold normB; rw [H1.out, HCL.out, HU0.out, HU1.out, HU2.out, HU3.out, h3]; rfl
        clear h3
        obtain ⟨F, FO⟩ := R4.fill (.slice p0 U0.length q0) (.slice p1 U1.length q1) (.slice p2 U2.length q2) (.slice p3 U3.length q3)
        have j0' := R4.c0; have j1' := R4.c1; have j2' := R4.c2; have j3' := R4.c3
        have g0 := R4.f0; have g1 := R4.f1; have g2 := R4.f2; have g3 := R4.f3
        go_wp2
        have i0' := F.c0; have i1 := F.c1; have i2 := F.c2; have i3 := F.c3
        have fz := FO.size
        have zw := L4.size
        refine bodyPost_ret (v := .tuple #[.agg #[.slice p0 U0.length q0, .slice p1 U1.length q1, .slice p2 U2.length q2, .slice p3 U3.length q3], .bool true]) ?_ rfl ⟨p0, p1, p2, p3, q0, q1, q2, q3, by rw [HE.out, HCL.out, HU0.out, HU1.out, HU2.out, HU3.out]; rfl, ?_, ?_⟩
        · simp [results, Try.results59, go_sem, i0', i1, i2, i3]
        · rw [HE.out, HCL.out, HU0.out, HU1.out, HU2.out, HU3.out]; exact (T.out FO (.inr (by omega))).mono (by omega) (by omega)
        · exact L4.trans (FO.below (by omega) L4.size)

end Go.Proofs.Ytmiiebmnjijhoaa
