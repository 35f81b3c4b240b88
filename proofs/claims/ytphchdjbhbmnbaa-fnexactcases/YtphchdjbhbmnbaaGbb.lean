/-
  Plain lemmas and contracts of functions for the other texts of this seat: C6, C7, C8, C9, Ls, Lt.
-/
import Derived.Test.YtphchdjbhbmnbaaGaj
import Derived.Test.YtphchdjbhbmnbaaGba
import Derived.OneCell
import Derived.Deep.RegionHeld3
import Derived.Laws.EntriesVeiled
import Derived.Test.YtphchdjbhbmnbaaGab
import Derived.Test.YtphchdjbhbmnbaaGaa
import Derived.Deep.RegionWith
import Derived.Deep.DeepCutAuto
namespace Go.Proofs.Ytphchdjbhbmnbaa
open Go.RowKit
set_option linter.unusedVariables false

/-- Old memory stands, but for the block bo and the row that is appended to. -/
structure Chg (bo : Nat) (br : Option Nat) (w w' : World) : Prop where
  os : w'.os = w.os
  tape : w'.tape = w.tape
  output : w'.output = w.output
  size : w.heap.size ≤ w'.heap.size
  block : ∀ k, k < w.heap.size → k ≠ bo → some k ≠ br → w'.heap[k]? = w.heap[k]?

theorem Chg.refl (bo : Nat) (br : Option Nat) (w : World) : Chg bo br w w := ⟨rfl, rfl, rfl, Nat.le_refl _, fun _ _ _ _ => rfl⟩
theorem Chg.ofBelow {bo : Nat} {br : Option Nat} {w w' : World} (h : Below w.heap.size w w') : Chg bo br w w' := ⟨h.os, h.tape, h.output, h.size, fun k hk _ _ => h.block k hk⟩
theorem Chg.ofGrown {bo : Nat} {br : Option Nat} {w w' : World} (h : w.grownBy w' br) : Chg bo br w w' := ⟨h.os, h.tape, h.output, h.size, fun k hk _ hr => h.block k hk hr⟩
theorem Chg.ofOut {bo : Nat} {br : Option Nat} {w w' : World} (h : Out bo (bo + 1) w w') : Chg bo br w w' := ⟨h.os, h.tape, h.output, h.size, fun k hk hn _ => h.block k hk (by omega)⟩
theorem Chg.trans {bo : Nat} {br br1 : Option Nat} {w w1 w2 : World} (h : Chg bo br w w1) (k : Chg bo br1 w1 w2) (hr : br1 = br ∨ ∀ g, br1 = some g → w.heap.size ≤ g) : Chg bo br w w2 :=
  ⟨k.os.trans h.os, k.tape.trans h.tape, k.output.trans h.output, Nat.le_trans h.size k.size, fun j hj hn hb => by
    rw [k.block j (Nat.lt_of_lt_of_le hj h.size) hn ?_, h.block j hj hn hb]
    rcases hr with rfl | hr
    · exact hb
    · intro e; exact absurd (hr j e.symm) (by omega)⟩
theorem Chg.below {bo B : Nat} {br : Option Nat} {w w' : World} (h : Chg bo br w w') (hB : B ≤ w.heap.size) (h1 : B ≤ bo) (h2 : ∀ g, br = some g → B ≤ g) : Below B w w' :=
  ⟨h.os, h.tape, h.output, h.size, fun k hk => h.block k (by omega) (by omega) (by intro e; exact absurd (h2 k e.symm) (by omega))⟩
theorem Chg.cell {bo : Nat} {br : Option Nat} {w w' : World} (h : Chg bo br w w') {b o : Nat} {v : Value} (hc : w.cell? ⟨b, o, none⟩ = some v) (h1 : b ≠ bo) (h2 : some b ≠ br) : w'.cell? ⟨b, o, none⟩ = some v := by
  rw [World.cell?_of_block (a := ⟨b, o, none⟩) (h.block b (World.block_lt_of_cell? _ _ hc) h1 h2)]; exact hc

/-- The first cell of what turns is a slice. -/
def SlAt (w : World) (br : Option Nat) : Prop := ∀ g, br = some g → ∃ p k c, w.cell? ⟨g, 0, none⟩ = some (.slice p k c)

/-- A row of pairs that is the caller's own, or begins with its block. -/
def LR (w : World) (B : Nat) (a : Option Addr) (l : List (Int × Int)) : Prop := PRow w a l ∧ (l = [] ∨ ∃ b off, a = some ⟨b, off, none⟩ ∧ (b < B ∨ off = 0))
theorem LR.below {w w' : World} {B : Nat} {a : Option Addr} {l : List (Int × Int)} (h : LR w B a l) (hb : Below w.heap.size w w') : LR w' B a l := ⟨h.1.below hb (Nat.le_refl _), h.2⟩
theorem LR.ofRow {w : World} {lo hi n B : Nat} {a : Option Addr} {l : List (Int × Int)} (h : RowIn w lo hi a n l) : LR w B a l := by
  refine ⟨h.row, ?_⟩
  obtain ⟨hl, h0 | ⟨b, ha, _⟩⟩ := h
  · exact .inl (List.eq_nil_of_length_eq_zero (by omega))
  · exact .inr ⟨b, 0, ha, .inr rfl⟩
theorem LR.chg {w w' : World} {B bo : Nat} {br : Option Nat} {a : Option Addr} {l : List (Int × Int)} (h : LR w B a l) (hc : Chg bo br w w') (hB : B ≤ bo) (hbr : ∀ g, br = some g → B ≤ g) (ho : SlAt w (some bo)) (hg : SlAt w br) : LR w' B a l := by
  refine ⟨?_, h.2⟩
  obtain ⟨h1, h2⟩ := h
  rcases h1 with h1 | ⟨b, off, ha, hlt, hcl⟩
  · exact .inl h1
  by_cases e : l = []
  · exact .inl e
  have hp : 0 < l.length := by cases l with | nil => exact absurd rfl e | cons _ _ => simp
  have h0 := (hcl 0 hp).1
  rw [Nat.zero_mul, Nat.add_zero] at h0
  have hne : b ≠ bo ∧ some b ≠ br := by
    rcases h2 with h2 | ⟨b', off', ha', h3⟩
    · exact absurd h2 e
    · rw [ha] at ha'; injection ha' with ha'; injection ha' with e1 e2; subst e1; subst e2
      rcases h3 with h3 | h3
      · exact ⟨by omega, fun e' => absurd (hbr b e'.symm) (by omega)⟩
      · subst h3
        refine ⟨fun e' => ?_, fun e' => ?_⟩
        · obtain ⟨p, k, c, hs⟩ := ho bo rfl; subst e'; rw [h0] at hs; cases hs
        · obtain ⟨p, k, c, hs⟩ := hg b e'.symm; rw [h0] at hs; cases hs
  have e := hc.block b hlt hne.1 hne.2
  refine .inr ⟨b, off, ha, Nat.lt_of_lt_of_le hlt hc.size, fun i hi => ?_⟩
  rw [World.cell?_of_block (a := ⟨b, _, none⟩) e, World.cell?_of_block (a := ⟨b, _, none⟩) e]; exact hcl i hi

theorem RowIn.chg {w w' : World} {lo hi n bo : Nat} {br : Option Nat} {a : Option Addr} {l : List (Int × Int)} (h : RowIn w lo hi a n l) (hc : Chg bo br w w') (ho : SlAt w (some bo)) (hg : SlAt w br) : RowIn w' lo hi a n l := by
  obtain ⟨hl, h0 | ⟨b, ha, h1, h2, h3⟩⟩ := h
  · exact ⟨hl, .inl h0⟩
  · by_cases e : n = 0
    · exact ⟨hl, .inl e⟩
    · refine ⟨hl, .inr ⟨b, ha, h1, h2, ?_⟩⟩
      have h0 := (h3.2.2 0 (by omega)).1
      rw [Nat.zero_mul] at h0
      have n1 : b ≠ bo := fun e' => by obtain ⟨p, k, c, hs⟩ := ho bo rfl; subst e'; rw [h0] at hs; cases hs
      have n2 : some b ≠ br := fun e' => by obtain ⟨p, k, c, hs⟩ := hg b e'.symm; rw [h0] at hs; cases hs
      have e := hc.block b h3.1 n1 n2
      refine ⟨Nat.lt_of_lt_of_le h3.1 hc.size, fun j hj => ?_, fun i hi => ?_⟩
      · rw [World.cell?_of_block (a := ⟨b, j, none⟩) e, World.frozen?_of_block (a := ⟨b, j, none⟩) e]; exact h3.2.1 j hj
      · rw [World.cell?_of_block (a := ⟨b, _, none⟩) e, World.cell?_of_block (a := ⟨b, _, none⟩) e]; exact h3.2.2 i hi
theorem Four.chg {w w' : World} {lo hi n0 n1 n2 n3 bo : Nat} {br : Option Nat} {a0 a1 a2 a3 : Option Addr} {l0 l1 l2 l3 : List (Int × Int)} (h : Four w lo hi a0 a1 a2 a3 n0 n1 n2 n3 l0 l1 l2 l3) (hc : Chg bo br w w') (ho : SlAt w (some bo)) (hg : SlAt w br) : Four w' lo hi a0 a1 a2 a3 n0 n1 n2 n3 l0 l1 l2 l3 := by
  obtain ⟨s0, u0, s1, u1, s2, u2, s3, u3, ⟨f0a, f0b, F0⟩, ⟨f1a, f1b, F1⟩, ⟨f2a, f2b, F2⟩, ⟨f3a, f3b, F3⟩, d⟩ := h
  exact ⟨s0, u0, s1, u1, s2, u2, s3, u3, ⟨f0a, f0b, F0.chg hc ho hg⟩, ⟨f1a, f1b, F1.chg hc ho hg⟩, ⟨f2a, f2b, F2.chg hc ho hg⟩, ⟨f3a, f3b, F3.chg hc ho hg⟩, d⟩

/-- Cells that read as assertions, the rows of each in blocks behind those of the one ahead of it. -/
def VO (w : World) : List A4 → Nat → Nat → List Value → Prop
  | [], lo, hi, xs => xs = [] ∧ lo ≤ hi
  | x :: L, lo, hi, xs => ∃ mid p0 p1 p2 p3 q0 q1 q2 q3 ys, xs = .slice p0 x.1.length q0 :: .slice p1 x.2.1.length q1 :: .slice p2 x.2.2.1.length q2 :: .slice p3 x.2.2.2.length q3 :: ys ∧ lo ≤ mid ∧ Four w lo mid p0 p1 p2 p3 x.1.length x.2.1.length x.2.2.1.length x.2.2.2.length x.1 x.2.1 x.2.2.1 x.2.2.2 ∧ VO w L mid hi ys
theorem VO.len {w : World} : ∀ {L : List A4} {lo hi : Nat} {xs : List Value}, VO w L lo hi xs → xs.length = L.length * 4
  | [], lo, hi, xs, h => by rw [h.1]; rfl
  | x :: L, lo, hi, xs, h => by
    obtain ⟨mid, p0, p1, p2, p3, q0, q1, q2, q3, ys, rfl, _, _, h⟩ := h
    have := VO.len h
    simp only [List.length_cons]
    omega
theorem VO.one {w : World} : ∀ {L : List A4} {lo hi : Nat} {xs : List Value}, VO w L lo hi xs → ∀ u ∈ xs, u.oneCell' = true
  | [], lo, hi, xs, h => by rw [h.1]; intro u hu; cases hu
  | x :: L, lo, hi, xs, h => by
    obtain ⟨mid, p0, p1, p2, p3, q0, q1, q2, q3, ys, rfl, _, _, h⟩ := h
    intro u hu
    simp only [List.mem_cons] at hu
    rcases hu with rfl | rfl | rfl | rfl | hu
    · rfl
    · rfl
    · rfl
    · rfl
    · exact VO.one h u hu
theorem VO.le {w : World} : ∀ {L : List A4} {lo hi : Nat} {xs : List Value}, VO w L lo hi xs → lo ≤ hi
  | [], lo, hi, xs, h => h.2
  | x :: L, lo, hi, xs, h => by
    obtain ⟨mid, p0, p1, p2, p3, q0, q1, q2, q3, ys, rfl, h1, _, h⟩ := h
    exact Nat.le_trans h1 (VO.le h)
theorem VO.chg {w w' : World} {bo : Nat} {br : Option Nat} (hc : Chg bo br w w') (ho : SlAt w (some bo)) (hg : SlAt w br) : ∀ {L : List A4} {lo hi : Nat} {xs : List Value}, VO w L lo hi xs → VO w' L lo hi xs
  | [], lo, hi, xs, h => h
  | x :: L, lo, hi, xs, h => by
    obtain ⟨mid, p0, p1, p2, p3, q0, q1, q2, q3, ys, rfl, h1, T, h⟩ := h
    exact ⟨mid, p0, p1, p2, p3, q0, q1, q2, q3, ys, rfl, h1, T.chg hc ho hg, VO.chg hc ho hg h⟩
theorem VO.append {w : World} : ∀ {L M : List A4} {lo mid hi : Nat} {xs ys : List Value}, VO w L lo mid xs → VO w M mid hi ys → VO w (L ++ M) lo hi (xs ++ ys)
  | [], M, lo, mid, hi, xs, ys, h, k => by
    obtain ⟨rfl, h⟩ := h
    cases M with
    | nil => exact ⟨k.1, Nat.le_trans h k.2⟩
    | cons x M =>
      obtain ⟨md, p0, p1, p2, p3, q0, q1, q2, q3, zs, rfl, h1, T, k⟩ := k
      exact ⟨md, p0, p1, p2, p3, q0, q1, q2, q3, zs, rfl, Nat.le_trans h h1, T.mono h (Nat.le_refl _), k⟩
  | x :: L, M, lo, mid, hi, xs, ys, h, k => by
    obtain ⟨md, p0, p1, p2, p3, q0, q1, q2, q3, zs, rfl, h1, T, h⟩ := h
    exact ⟨md, p0, p1, p2, p3, q0, q1, q2, q3, zs ++ ys, rfl, h1, T, VO.append h k⟩
theorem VO.hi {w : World} : ∀ {L : List A4} {lo hi hi' : Nat} {xs : List Value}, VO w L lo hi xs → hi ≤ hi' → VO w L lo hi' xs
  | [], lo, hi, hi', xs, h, k => ⟨h.1, Nat.le_trans h.2 k⟩
  | x :: L, lo, hi, hi', xs, h, k => by
    obtain ⟨mid, p0, p1, p2, p3, q0, q1, q2, q3, ys, rfl, h1, T, h⟩ := h
    exact ⟨mid, p0, p1, p2, p3, q0, q1, q2, q3, ys, rfl, h1, T, VO.hi h k⟩
theorem VO.lo {w : World} {L : List A4} {lo lo' hi : Nat} {xs : List Value} (h : VO w L lo hi xs) (k : lo' ≤ lo) : VO w L lo' hi xs := by
  have h1 : VO w [] lo' lo [] := ⟨rfl, k⟩
  have := h1.append h
  simpa using this

/-- The first cell, if there is one, is a slice. -/
def Hd (xs : List Value) : Prop := ∀ u, xs[0]? = some u → ∃ p k c, u = .slice p k c
theorem VO.hd {w : World} {L : List A4} {lo hi : Nat} {xs : List Value} (h : VO w L lo hi xs) : Hd xs := by
  intro u hu
  cases L with
  | nil => rw [h.1] at hu; cases hu
  | cons x L =>
    obtain ⟨mid, p0, p1, p2, p3, q0, q1, q2, q3, ys, rfl, _⟩ := h
    simp at hu
    exact ⟨_, _, _, hu.symm⟩
theorem Hd.append {xs ys : List Value} (h : Hd xs) (k : Hd ys) : Hd (xs ++ ys) := by
  intro u hu
  cases xs with
  | nil => exact k u (by simpa using hu)
  | cons x xs => exact h u (by simpa using hu)
theorem own_sl {w : World} {base n : Nat} {v : Value} {xs : List Value} (h : w.ownsRow base 28 4 v n xs) (hx : Hd xs) (hn : n = 0 → v = .slice none 0 0) : SlAt w v.ownBlock := by
  intro g hg
  by_cases e : n = 0
  · rw [hn e] at hg; cases hg
  · have hl := h.1
    obtain ⟨u, hu⟩ : ∃ u, xs[0]? = some u := ⟨xs[0]'(by omega), List.getElem?_eq_getElem (by omega)⟩
    obtain ⟨p, k, c, rfl⟩ := hx u hu
    exact ⟨p, k, c, h.cells hg 0 _ hu⟩

theorem among_mem {c : List Int} {l : List (Int × Int)} {p : Int × Int} (h : p ∈ l) : amongV c l (c.getD p.1.toNat 0) (c.getD p.2.toNat 0) = true := by
  unfold amongV
  rw [List.any_eq_true]
  exact ⟨p, h, by simp [pairIs]⟩
theorem open_sub {c : List Int} {l1 l3 : List (Int × Int)} (h : ∀ p ∈ l3, p ∈ l1) : openV c l1 l3 = true := by
  unfold openV
  rw [List.all_eq_true]
  exact fun p hp => among_mem (h p hp)

end Go.Proofs.Ytphchdjbhbmnbaa
namespace Go.Proofs.Ytphchdjbhbmnbaa
open Go.RowKit
set_option linter.unusedVariables false

def BPost (bo B : Nat) (w : World) (v : Value) (n : Nat) (xs : List Value) (L : List A4) (e : Ending) (w' : World) : Prop :=
  e = .returned (.tuple #[]) ∧ ∃ v' ys, w'.cell? ⟨bo, 0, none⟩ = some v' ∧ w'.frozen? ⟨bo, 0, none⟩ = false ∧ w'.ownsRow B 28 4 v' (n + L.length) (xs ++ ys) ∧ VO w' L w.heap.size w'.heap.size ys ∧ (n + L.length = 0 → v' = .slice none 0 0) ∧ (v'.ownBlock = v.ownBlock ∨ ∀ g, v'.ownBlock = some g → w.heap.size ≤ g) ∧ Chg bo v.ownBlock w w'

abbrev LB (b0 o0 o1 o2 o3 : Nat) (v0 v1 v2 v3 : Value) (W : World) : Prop := W.cell? ⟨b0, o0, none⟩ = some v0 ∧ W.cell? ⟨b0, o1, none⟩ = some v1 ∧ W.cell? ⟨b0, o2, none⟩ = some v2 ∧ W.cell? ⟨b0, o3, none⟩ = some v3
theorem LB_be {b0 o0 o1 o2 o3 : Nat} {v0 v1 v2 v3 : Value} {W : World} {u : World} (hb : Below W.heap.size W u) (h : LB b0 o0 o1 o2 o3 v0 v1 v2 v3 W) : LB b0 o0 o1 o2 o3 v0 v1 v2 v3 u := by
  skip
  exact ⟨by rw [hb.cell (World.block_lt_of_cell? _ _ (h.1))]; exact h.1, by rw [hb.cell (World.block_lt_of_cell? _ _ (h.2.1))]; exact h.2.1, by rw [hb.cell (World.block_lt_of_cell? _ _ (h.2.2.1))]; exact h.2.2.1, by rw [hb.cell (World.block_lt_of_cell? _ _ (h.2.2.2))]; exact h.2.2.2⟩
theorem LB_al {b0 o0 o1 o2 o3 : Nat} {v0 v1 v2 v3 : Value} {W : World} (o : Obj) (h : LB b0 o0 o1 o2 o3 v0 v1 v2 v3 W) : LB b0 o0 o1 o2 o3 v0 v1 v2 v3 (W.alloc o) := by
  skip
  exact ⟨by rw [World.cell?_alloc_lt _ _ _ (World.block_lt_of_cell? _ _ (h.1))]; exact h.1, by rw [World.cell?_alloc_lt _ _ _ (World.block_lt_of_cell? _ _ (h.2.1))]; exact h.2.1, by rw [World.cell?_alloc_lt _ _ _ (World.block_lt_of_cell? _ _ (h.2.2.1))]; exact h.2.2.1, by rw [World.cell?_alloc_lt _ _ _ (World.block_lt_of_cell? _ _ (h.2.2.2))]; exact h.2.2.2⟩
theorem LB_ad {b0 o0 o1 o2 o3 : Nat} {v0 v1 v2 v3 : Value} {W : World}  (h : LB b0 o0 o1 o2 o3 v0 v1 v2 v3 W) : LB b0 o0 o1 o2 o3 v0 v1 v2 v3 W.drew := by
  skip
  exact ⟨h.1, h.2.1, h.2.2.1, h.2.2.2⟩
theorem LB_out {b0 o0 o1 o2 o3 : Nat} {v0 v1 v2 v3 : Value} {W : World} {u : World} {lo hi : Nat} (ho : Out lo hi W u) (hd : (b0 < lo ∨ hi ≤ b0)) (h : LB b0 o0 o1 o2 o3 v0 v1 v2 v3 W) : LB b0 o0 o1 o2 o3 v0 v1 v2 v3 u := by
  skip
  exact ⟨by rw [World.cell?_of_block (ho.block _ (World.block_lt_of_cell? _ _ (h.1)) (hd))]; exact h.1, by rw [World.cell?_of_block (ho.block _ (World.block_lt_of_cell? _ _ (h.2.1)) (hd))]; exact h.2.1, by rw [World.cell?_of_block (ho.block _ (World.block_lt_of_cell? _ _ (h.2.2.1)) (hd))]; exact h.2.2.1, by rw [World.cell?_of_block (ho.block _ (World.block_lt_of_cell? _ _ (h.2.2.2)) (hd))]; exact h.2.2.2⟩

set_option linter.unusedSimpArgs false in
set_option maxRecDepth 20000 in
set_option maxHeartbeats 8000000 in
theorem build_zero (a0 a1 a2 a3 aL : Option Addr) (c0 c1 c2 c3 cL : Nat) (l0 l1 l2 l3 : List (Int × Int)) (bb bo B n : Nat) (v : Value) (xs : List Value) (w : World) (n0 : l0.length ≤ 1048576) (n1 : l1.length ≤ 1048576) (n2 : l2.length ≤ 1048576) (n3 : l3.length ≤ 1048576) (r0 : PRow w a0 l0) (r1 : PRow w a1 l1) (r2 : PRow w a2 l2) (r3 : PRow w a3 l3) (z0 : CapZ a0 l0.length c0) (z1' : CapZ a1 l1.length c1) (z2 : CapZ a2 l2.length c2) (z3 : CapZ a3 l3.length c3)
    (hok : asnB l0 l1 l2 l3 = true) (hsub : ∀ p ∈ l3, p ∈ l1) (hbo : w.cell? ⟨bo, 0, none⟩ = some v) (fbo : w.frozen? ⟨bo, 0, none⟩ = false) (hown : w.ownsRow B 28 4 v n xs) (hx : Hd xs) (hnil : n = 0 → v = .slice none 0 0) (hB : B ≤ w.heap.size) (hBo : B ≤ bo) (hvb : v.ownBlock ≠ some bo) (hn : n ≤ 128) :
    Calls Try.prog 173 #[.agg #[.slice a0 l0.length c0, .slice a1 l1.length c1, .slice a2 l2.length c2, .slice a3 l3.length c3], .slice aL 0 cL, .pointer (some ⟨bb, 0, none⟩), .pointer (some ⟨bo, 0, none⟩)] w (BPost bo B w v n xs (casesV l2 [] l0 l1 l3)) := by
  have A0 := Box.new w (.slice a0 l0.length c0) (.slice a1 l1.length c1) (.slice a2 l2.length c2) (.slice a3 l3.length c3) 28
  have L0 : Below w.heap.size w (w.alloc (.cells #[.slice a0 l0.length c0, .slice a1 l1.length c1, .slice a2 l2.length c2, .slice a3 l3.length c3] 28)) := (Below.refl _ _).alloc (Nat.le_refl _) _
  obtain ⟨v1, v2, rfl⟩ := owns_form hown
  have zo := World.block_lt_of_cell? _ _ hbo
  have hsl : SlAt w (.some bo) := fun g hg => by injection hg with hg; subst hg; exact ⟨_, _, _, hbo⟩
  have hsv := own_sl hown hx hnil
  have HCA : Hid (contraA l0 l1 l2 l3 = contraV (clsV l0) l1 l2 l3) := by show contraA _ _ _ _ = _; unfold contraA; rw [hok, open_sub hsub]; rfl
  have A0c0 := A0.c0; have A0c1 := A0.c1; have A0c2 := A0.c2; have A0c3 := A0.c3
  go_enter Try.func173, Try.ntmps173
  go_wp2_with fail
  clear A0c0 A0c1 A0c2 A0c3
  refine (iContra_any _ _ _ _ _ _ _ _ l0 l1 l2 l3 _ n0 n1 n2 n3 (r0.below L0 (Nat.le_refl _)) (r1.below L0 (Nat.le_refl _)) (r2.below L0 (Nat.le_refl _)) (r3.below L0 (Nat.le_refl _))).mono ?_
  rintro e w1 ⟨rfl, hb⟩
  rw [HCA.out]
  replace A0 := A0.below hb A0.lt; replace L0 := L0.trans (hb.mono L0.size)
  clear hb
  by_cases hc : contraV (clsV l0) l1 l2 l3 = true
  · rw [hc]
    have HE : Hid (casesV l2 [] l0 l1 l3 = []) := by show casesV _ _ _ _ _ = _; unfold casesV; rw [if_pos hc]
    clear hc A0
    have hC : Chg bo (Value.slice v1 n v2).ownBlock w w1 := Chg.ofBelow L0
    have hcell := L0.cell (p := ⟨bo, 0, none⟩) zo
    have hfro := L0.frozen (p := ⟨bo, 0, none⟩) zo
    go_wp2
    go_end0
    refine ⟨rfl, .slice v1 n v2, [], hcell.trans hbo, hfro.trans fbo, ?_, ?_, ?_, .inl rfl, hC⟩
    · rw [HE.out, List.append_nil]; exact owns_belowA hown L0
    · rw [HE.out]; exact ⟨rfl, L0.size⟩
    · rw [HE.out]; exact hnil
  have HE : Hid (casesV l2 [] l0 l1 l3 = [(l0, l1, l2, l3)]) := by show casesV _ _ _ _ _ = _; unfold casesV; rw [if_neg hc]
  replace hc : contraV (clsV l0) l1 l2 l3 = false := by simpa using hc
  rw [hc]
  clear hc
  have hc1 := (L0.cell (p := ⟨bo, 0, none⟩) zo).trans hbo
  have z1 := L0.size
  have zo1 : bo < w1.heap.size := by omega
  go_upto_region 5 with fail
  have hS1 : LB w.heap.size 0 1 2 3 (.slice a0 l0.length c0) (.slice a1 l1.length c1) (.slice a2 l2.length c2) (.slice a3 l3.length c3) w1 := ⟨A0.c0, A0.c1, A0.c2, A0.c3⟩
  have hS0 := LB_ad hS1
  have hc0 : w1.drew.cell? ⟨bo, 0, none⟩ = some (.slice v1 n v2) := hc1
  refine wp_region_held_drew (S := fun W => W.cell? ⟨w.heap.size, 0, none⟩ = some (.slice a0 l0.length c0) ∧ W.cell? ⟨w.heap.size, 1, none⟩ = some (.slice a1 l1.length c1) ∧ W.cell? ⟨w.heap.size, 2, none⟩ = some (.slice a2 l2.length c2) ∧ W.cell? ⟨w.heap.size, 3, none⟩ = some (.slice a3 l3.length c3)) (by kernel_rfl) hS0 (fun _ => ?_)
  generalize hW0 : w1.drew = w2 at *
  have hd : Below w1.heap.size w1 w2 := by rw [← hW0]; exact (Below.refl _ _).drew
  have L2 := L0.trans (hd.mono z1)
  have zo2 : bo < w2.heap.size := Nat.lt_of_lt_of_le zo1 hd.size
  clear hc1 hS1 hW0 A0 hd zo1
  have hvw : (Value.slice v1 n v2).ownBlock ≠ some w.heap.size := fun e => absurd (hown.lt _ e).2 (by omega)
  have hzo : w.heap.size < bo ∨ bo + 1 ≤ w.heap.size := by omega
  have hfin : ∀ (uC uA : World) (p0 p1 p2 p3 : Option Addr) (q0 q1 q2 q3 : Nat) (v' : Value), Below w2.heap.size w2 uC → Four uC w2.heap.size uC.heap.size p0 p1 p2 p3 l0.length l1.length l2.length l3.length l0 l1 l2 l3 → uA.ownsRow B 28 4 v' (n + 1) (xs ++ [.slice p0 l0.length q0, .slice p1 l1.length q1, .slice p2 l2.length q2, .slice p3 l3.length q3]) → (uC.alloc (.cells #[.slice p0 l0.length q0, .slice p1 l1.length q1, .slice p2 l2.length q2, .slice p3 l3.length q3] 28)).grownBy uA (Value.slice v1 n v2).ownBlock → (v' = .slice none 0 0 ↔ Value.slice v1 n v2 = .slice none 0 0 ∧ 1 = 0) → (v'.ownBlock = (Value.slice v1 n v2).ownBlock ∨ v'.ownBlock = some (uC.alloc (.cells #[.slice p0 l0.length q0, .slice p1 l1.length q1, .slice p2 l2.length q2, .slice p3 l3.length q3] 28)).heap.size) → BPost bo B w (.slice v1 n v2) n xs (casesV l2 [] l0 l1 l3) (.returned (.tuple #[])) (uA.setCell ⟨bo, 0, none⟩ v') := by
    intro uC uA p0 p1 p2 p3 q0 q1 q2 q3 v' hbC T r1 r2 r3 r4
    have LC := L2.trans (hbC.mono L2.size)
    have LB' := LC.alloc LC.size (.cells #[.slice p0 l0.length q0, .slice p1 l1.length q1, .slice p2 l2.length q2, .slice p3 l3.length q3] 28)
    have hcB := (LB'.cell (p := ⟨bo, 0, none⟩) zo).trans hbo
    have zC := LC.size
    have zC2 := hbC.size
    have zoB : bo < (uC.alloc (.cells #[.slice p0 l0.length q0, .slice p1 l1.length q1, .slice p2 l2.length q2, .slice p3 l3.length q3] 28)).heap.size := by simp; omega
    have hcA := r2.cell hcB (fun e => hvb e.symm)
    have hbA := r2.block bo zoB (fun e => hvb e.symm)
    have hfA : uA.frozen? ⟨bo, 0, none⟩ = false := by rw [World.frozen?_of_block (a := ⟨bo, 0, none⟩) hbA]; exact (LB'.frozen (p := ⟨bo, 0, none⟩) zo).trans fbo
    have zA := r2.size
    have hv' : v'.ownBlock ≠ some bo := by
      rcases r4 with h | h
      · rw [h]; exact hvb
      · rw [h]; intro e; injection e with e; omega
    have sB : SlAt (uC.alloc (.cells #[.slice p0 l0.length q0, .slice p1 l1.length q1, .slice p2 l2.length q2, .slice p3 l3.length q3] 28)) (some bo) := fun g hg => by injection hg with hg; subst hg; exact ⟨_, _, _, hcB⟩
    have sV : SlAt (uC.alloc (.cells #[.slice p0 l0.length q0, .slice p1 l1.length q1, .slice p2 l2.length q2, .slice p3 l3.length q3] 28)) (Value.slice v1 n v2).ownBlock := own_sl (owns_belowA hown LB') hx hnil
    have sA : SlAt uA (some bo) := fun g hg => by injection hg with hg; subst hg; exact ⟨_, _, _, hcA⟩
    have sN : SlAt uA Option.none := fun g hg => by cases hg
    have TB := T.below (w' := uC.alloc (.cells #[.slice p0 l0.length q0, .slice p1 l1.length q1, .slice p2 l2.length q2, .slice p3 l3.length q3] 28)) ((Below.refl _ _).alloc (Nat.le_refl _) _) (Nat.le_refl _)
    have hset : Chg bo Option.none uA (uA.setCell ⟨bo, 0, none⟩ v') := Chg.ofOut (Out.set bo 0 uA v')
    have TA := (TB.chg (Chg.ofGrown (bo := bo) r2) sB sV).chg hset sA sN
    rw [HE.out]
    refine ⟨rfl, v', [.slice p0 l0.length q0, .slice p1 l1.length q1, .slice p2 l2.length q2, .slice p3 l3.length q3], World.cell?_setCell_same _ _ _ hcA, by simpa using hfA, ownsRow_setCell_other r1 hv' v', ⟨uC.heap.size, p0, p1, p2, p3, q0, q1, q2, q3, [], rfl, zC, TA.mono L2.size (Nat.le_refl _), rfl, ?_⟩, (fun e => by simp at e), ?_, ?_⟩
    · simp only [World.size_setCell]; simp at zA; omega
    · rcases r4 with h | h
      · exact .inl h
      · exact .inr fun g hg => by rw [h] at hg; injection hg with hg; simp at hg; omega
    · exact ((Chg.ofBelow LB').trans (Chg.ofGrown r2) (.inl rfl)).trans (Chg.ofOut (br := (Value.slice v1 n v2).ownBlock) (Out.set bo 0 uA v')) (.inl rfl)
  refine wpAnyH_take (i := 1) (v := .agg #[.slice a0 l0.length c0, .slice a1 l1.length c1, .slice a2 l2.length c2, .slice a3 l3.length c3]) rfl (by kernel_rfl) (by kernel_rfl) (by kernel_rfl) (fun _ _ _ h => h) (Or.inl ⟨by rfl, ?_⟩) hS0 ?_
  · intro w2 hSw; go_simp
  try simp only [Act.put, List.setIfInBounds_toArray, List.set_cons_zero, List.set_cons_succ]
  refine wpAnyH_ready (rs := [0, 2]) (by kernel_rfl) (by simp) ?_
  refine AllReadyH.cons (o := { dst := some 30, op := Op.load 51 (Operand.tmp 3), type := 51, pos := "l04_cases.go:43", after := #[], guard := none }) rfl (fun K hK' => ?_) (AllReadyH.cons (o := { dst := some 32, op := Op.call { callee := Callee.value (Operand.func 176), args := #[Operand.tmp 31], argTypes := #[28] }, type := 28, pos := "l04_cases.go:43", after := #[{ on := 1, ground := Ground.data }], guard := none }) rfl (fun K hK' => ?_) AllReadyH.nil)
  · rw [if_pos (by rfl)]
    go_simp
    refine hK'.out _ _ hS0 (fun _ => ?_)
    clear hK' K
    refine wpAnyH_ready (rs := [2]) (by kernel_rfl) (by simp) ?_
    refine AllReadyH.cons (o := { dst := some 32, op := Op.call { callee := Callee.value (Operand.func 176), args := #[Operand.tmp 31], argTypes := #[28] }, type := 28, pos := "l04_cases.go:43", after := #[{ on := 1, ground := Ground.data }], guard := none }) rfl (fun K hK' => ?_) AllReadyH.nil
    rw [if_pos (by rfl)]
    go_simp
    refine (ownCopy_any _ _ _ _ _ _ _ _ l0 l1 l2 l3 _ n0 n1 n2 n3 (r0.below L2 (Nat.le_refl _)) (r1.below L2 (Nat.le_refl _)) (r2.below L2 (Nat.le_refl _)) (r3.below L2 (Nat.le_refl _)) z0 z1' z2 z3).mono ?_
    rintro e uC ⟨p0, p1, p2, p3, q0, q1, q2, q3, rfl, T, _, hbC⟩
    have kC := LB_be hbC hS0
    have hcC := (hbC.cell (p := ⟨bo, 0, none⟩) zo2).trans hc0
    have zoC : bo < uC.heap.size := Nat.lt_of_lt_of_le zo2 hbC.size
    refine hK'.out _ _ kC (fun _ => ?_)
    clear hK' K
    refine wpAnyH_ready (rs := [3]) (by kernel_rfl) (by simp) ?_
    refine AllReadyH.cons (o := { dst := some 33, op := Op.buildSlice 51 1 #[(0, Operand.tmp 32)], type := 51, pos := "l04_cases.go:43", after := #[{ on := 2, ground := Ground.data }], guard := none }) rfl (fun K hK' => ?_) AllReadyH.nil
    rw [if_pos (by rfl)]
    go_simp
    have kB := LB_al (.cells #[.slice p0 l0.length q0, .slice p1 l1.length q1, .slice p2 l2.length q2, .slice p3 l3.length q3] 28) kC
    refine hK'.out _ _ kB (fun _ => ?_)
    clear hK' K
    refine wpAnyH_ready (rs := [4]) (by kernel_rfl) (by simp) ?_
    refine AllReadyH.cons (o := { dst := some 34, op := Op.call { callee := Callee.builtin Builtin.append, args := #[Operand.tmp 30, Operand.tmp 33], argTypes := #[51, 51] }, type := 51, pos := "l04_cases.go:43", after := #[{ on := 0, ground := Ground.data }, { on := 3, ground := Ground.data }, { on := 2, ground := Ground.chain }], guard := none }) rfl (fun K hK' => ?_) AllReadyH.nil
    refine step_ownA (by rfl) _ _ (by rfl) B 0 (.slice v1 n v2) (.slice (some ⟨uC.heap.size, 0, none⟩) 1 1) n 1 xs [.slice p0 l0.length q0, .slice p1 l1.length q1, .slice p2 l2.length q2, .slice p3 l3.length q3] (by rfl) (owns_belowA (owns_belowA (owns_belowA hown L2) hbC) ((Below.refl _ _).alloc (Nat.le_refl _) _)) (by rfl) (World.ownsRow_lit (base := 0) (e := 28) (size := 4) uC #[.slice p0 l0.length q0, .slice p1 l1.length q1, .slice p2 l2.length q2, .slice p3 l3.length q3] 1 (Nat.zero_le _) (by decide) rfl) (by intro y hy; simp only [List.mem_cons, List.not_mem_nil, or_false] at hy; rcases hy with rfl | rfl | rfl | rfl <;> rfl) (by omega) (by simp; have := hbC.size; have := L2.size; omega) ?_
    intro v' uA r1 r2 r3 r4
    obtain ⟨x1, x2, rfl⟩ := owns_form r1
    have hcB : (uC.alloc (.cells #[.slice p0 l0.length q0, .slice p1 l1.length q1, .slice p2 l2.length q2, .slice p3 l3.length q3] 28)).cell? ⟨bo, 0, none⟩ = some (.slice v1 n v2) := by rw [World.cell?_alloc_lt _ _ _ zoC]; exact hcC
    have hcA := r2.cell hcB (fun e => hvb e.symm)
    have zoB : bo < (uC.alloc (.cells #[.slice p0 l0.length q0, .slice p1 l1.length q1, .slice p2 l2.length q2, .slice p3 l3.length q3] 28)).heap.size := by simp; omega
    have hbA := r2.block bo zoB (fun e => hvb e.symm)
    have hfA : uA.frozen? ⟨bo, 0, none⟩ = false := by rw [World.frozen?_of_block (a := ⟨bo, 0, none⟩) hbA]; exact ((((L2.trans (hbC.mono L2.size)).alloc (Nat.le_trans L2.size hbC.size) _).frozen (p := ⟨bo, 0, none⟩) zo)).trans fbo
    have kA : LB w.heap.size 0 1 2 3 (.slice a0 l0.length c0) (.slice a1 l1.length c1) (.slice a2 l2.length c2) (.slice a3 l3.length c3) uA := ⟨r2.cell kB.1 (by intro e; exact hvw e.symm), r2.cell kB.2.1 (by intro e; exact hvw e.symm), r2.cell kB.2.2.1 (by intro e; exact hvw e.symm), r2.cell kB.2.2.2 (by intro e; exact hvw e.symm)⟩
    refine hK'.out _ _ kA (fun _ => ?_)
    clear hK' K
    refine wpAnyH_ready (rs := [5]) (by kernel_rfl) (by simp) ?_
    refine AllReadyH.cons (o := { dst := none, op := Op.store 51 (Operand.tmp 3) (Operand.tmp 34), type := 0, pos := "l04_cases.go:43", after := #[{ on := 4, ground := Ground.data }, { on := 4, ground := Ground.chain }, { on := 0, ground := Ground.phase }, { on := 1, ground := Ground.phase }, { on := 2, ground := Ground.phase }, { on := 3, ground := Ground.phase }, { on := 4, ground := Ground.phase }], guard := none }) rfl (fun K hK' => ?_) AllReadyH.nil
    rw [if_pos (by rfl)]
    go_simp
    refine hK'.out _ _ (LB_out (Out.set bo 0 uA _) hzo kA) (fun _ => ?_)
    clear hK' K
    refine wpAnyH_done (by kernel_rfl) ?_ _
    try simp only [List.getElem_toArray, List.getElem_cons_succ, List.getElem_cons_zero, Act.put, List.setIfInBounds_toArray, List.set_cons_zero, List.set_cons_succ]
    have FIN := hfin uC uA p0 p1 p2 p3 q0 q1 q2 q3 _ hbC T r1 r2 r3 r4
    go_wp2
    go_end0
    exact FIN
  · rw [if_pos (by rfl)]
    go_simp
    refine (ownCopy_any _ _ _ _ _ _ _ _ l0 l1 l2 l3 _ n0 n1 n2 n3 (r0.below L2 (Nat.le_refl _)) (r1.below L2 (Nat.le_refl _)) (r2.below L2 (Nat.le_refl _)) (r3.below L2 (Nat.le_refl _)) z0 z1' z2 z3).mono ?_
    rintro e uC ⟨p0, p1, p2, p3, q0, q1, q2, q3, rfl, T, _, hbC⟩
    have kC := LB_be hbC hS0
    have hcC := (hbC.cell (p := ⟨bo, 0, none⟩) zo2).trans hc0
    have zoC : bo < uC.heap.size := Nat.lt_of_lt_of_le zo2 hbC.size
    refine hK'.out _ _ kC (fun _ => ?_)
    clear hK' K
    refine wpAnyH_ready (rs := [0, 3]) (by kernel_rfl) (by simp) ?_
    refine AllReadyH.cons (o := { dst := some 30, op := Op.load 51 (Operand.tmp 3), type := 51, pos := "l04_cases.go:43", after := #[], guard := none }) rfl (fun K hK' => ?_) (AllReadyH.cons (o := { dst := some 33, op := Op.buildSlice 51 1 #[(0, Operand.tmp 32)], type := 51, pos := "l04_cases.go:43", after := #[{ on := 2, ground := Ground.data }], guard := none }) rfl (fun K hK' => ?_) AllReadyH.nil)
    · rw [if_pos (by rfl)]
      go_simp
      refine hK'.out _ _ kC (fun _ => ?_)
      clear hK' K
      refine wpAnyH_ready (rs := [3]) (by kernel_rfl) (by simp) ?_
      refine AllReadyH.cons (o := { dst := some 33, op := Op.buildSlice 51 1 #[(0, Operand.tmp 32)], type := 51, pos := "l04_cases.go:43", after := #[{ on := 2, ground := Ground.data }], guard := none }) rfl (fun K hK' => ?_) AllReadyH.nil
      rw [if_pos (by rfl)]
      go_simp
      have kB := LB_al (.cells #[.slice p0 l0.length q0, .slice p1 l1.length q1, .slice p2 l2.length q2, .slice p3 l3.length q3] 28) kC
      refine hK'.out _ _ kB (fun _ => ?_)
      clear hK' K
      refine wpAnyH_ready (rs := [4]) (by kernel_rfl) (by simp) ?_
      refine AllReadyH.cons (o := { dst := some 34, op := Op.call { callee := Callee.builtin Builtin.append, args := #[Operand.tmp 30, Operand.tmp 33], argTypes := #[51, 51] }, type := 51, pos := "l04_cases.go:43", after := #[{ on := 0, ground := Ground.data }, { on := 3, ground := Ground.data }, { on := 2, ground := Ground.chain }], guard := none }) rfl (fun K hK' => ?_) AllReadyH.nil
      refine step_ownA (by rfl) _ _ (by rfl) B 0 (.slice v1 n v2) (.slice (some ⟨uC.heap.size, 0, none⟩) 1 1) n 1 xs [.slice p0 l0.length q0, .slice p1 l1.length q1, .slice p2 l2.length q2, .slice p3 l3.length q3] (by rfl) (owns_belowA (owns_belowA (owns_belowA hown L2) hbC) ((Below.refl _ _).alloc (Nat.le_refl _) _)) (by rfl) (World.ownsRow_lit (base := 0) (e := 28) (size := 4) uC #[.slice p0 l0.length q0, .slice p1 l1.length q1, .slice p2 l2.length q2, .slice p3 l3.length q3] 1 (Nat.zero_le _) (by decide) rfl) (by intro y hy; simp only [List.mem_cons, List.not_mem_nil, or_false] at hy; rcases hy with rfl | rfl | rfl | rfl <;> rfl) (by omega) (by simp; have := hbC.size; have := L2.size; omega) ?_
      intro v' uA r1 r2 r3 r4
      obtain ⟨x1, x2, rfl⟩ := owns_form r1
      have hcB : (uC.alloc (.cells #[.slice p0 l0.length q0, .slice p1 l1.length q1, .slice p2 l2.length q2, .slice p3 l3.length q3] 28)).cell? ⟨bo, 0, none⟩ = some (.slice v1 n v2) := by rw [World.cell?_alloc_lt _ _ _ zoC]; exact hcC
      have hcA := r2.cell hcB (fun e => hvb e.symm)
      have zoB : bo < (uC.alloc (.cells #[.slice p0 l0.length q0, .slice p1 l1.length q1, .slice p2 l2.length q2, .slice p3 l3.length q3] 28)).heap.size := by simp; omega
      have hbA := r2.block bo zoB (fun e => hvb e.symm)
      have hfA : uA.frozen? ⟨bo, 0, none⟩ = false := by rw [World.frozen?_of_block (a := ⟨bo, 0, none⟩) hbA]; exact ((((L2.trans (hbC.mono L2.size)).alloc (Nat.le_trans L2.size hbC.size) _).frozen (p := ⟨bo, 0, none⟩) zo)).trans fbo
      have kA : LB w.heap.size 0 1 2 3 (.slice a0 l0.length c0) (.slice a1 l1.length c1) (.slice a2 l2.length c2) (.slice a3 l3.length c3) uA := ⟨r2.cell kB.1 (by intro e; exact hvw e.symm), r2.cell kB.2.1 (by intro e; exact hvw e.symm), r2.cell kB.2.2.1 (by intro e; exact hvw e.symm), r2.cell kB.2.2.2 (by intro e; exact hvw e.symm)⟩
      refine hK'.out _ _ kA (fun _ => ?_)
      clear hK' K
      refine wpAnyH_ready (rs := [5]) (by kernel_rfl) (by simp) ?_
      refine AllReadyH.cons (o := { dst := none, op := Op.store 51 (Operand.tmp 3) (Operand.tmp 34), type := 0, pos := "l04_cases.go:43", after := #[{ on := 4, ground := Ground.data }, { on := 4, ground := Ground.chain }, { on := 0, ground := Ground.phase }, { on := 1, ground := Ground.phase }, { on := 2, ground := Ground.phase }, { on := 3, ground := Ground.phase }, { on := 4, ground := Ground.phase }], guard := none }) rfl (fun K hK' => ?_) AllReadyH.nil
      rw [if_pos (by rfl)]
      go_simp
      refine hK'.out _ _ (LB_out (Out.set bo 0 uA _) hzo kA) (fun _ => ?_)
      clear hK' K
      refine wpAnyH_done (by kernel_rfl) ?_ _
      try simp only [List.getElem_toArray, List.getElem_cons_succ, List.getElem_cons_zero, Act.put, List.setIfInBounds_toArray, List.set_cons_zero, List.set_cons_succ]
      have FIN := hfin uC uA p0 p1 p2 p3 q0 q1 q2 q3 _ hbC T r1 r2 r3 r4
      go_wp2
      go_end0
      exact FIN
    · rw [if_pos (by rfl)]
      go_simp
      have kB := LB_al (.cells #[.slice p0 l0.length q0, .slice p1 l1.length q1, .slice p2 l2.length q2, .slice p3 l3.length q3] 28) kC
      refine hK'.out _ _ kB (fun _ => ?_)
      clear hK' K
      refine wpAnyH_ready (rs := [0]) (by kernel_rfl) (by simp) ?_
      refine AllReadyH.cons (o := { dst := some 30, op := Op.load 51 (Operand.tmp 3), type := 51, pos := "l04_cases.go:43", after := #[], guard := none }) rfl (fun K hK' => ?_) AllReadyH.nil
      rw [if_pos (by rfl)]
      go_simp
      refine hK'.out _ _ kB (fun _ => ?_)
      clear hK' K
      refine wpAnyH_ready (rs := [4]) (by kernel_rfl) (by simp) ?_
      refine AllReadyH.cons (o := { dst := some 34, op := Op.call { callee := Callee.builtin Builtin.append, args := #[Operand.tmp 30, Operand.tmp 33], argTypes := #[51, 51] }, type := 51, pos := "l04_cases.go:43", after := #[{ on := 0, ground := Ground.data }, { on := 3, ground := Ground.data }, { on := 2, ground := Ground.chain }], guard := none }) rfl (fun K hK' => ?_) AllReadyH.nil
      refine step_ownA (by rfl) _ _ (by rfl) B 0 (.slice v1 n v2) (.slice (some ⟨uC.heap.size, 0, none⟩) 1 1) n 1 xs [.slice p0 l0.length q0, .slice p1 l1.length q1, .slice p2 l2.length q2, .slice p3 l3.length q3] (by rfl) (owns_belowA (owns_belowA (owns_belowA hown L2) hbC) ((Below.refl _ _).alloc (Nat.le_refl _) _)) (by rfl) (World.ownsRow_lit (base := 0) (e := 28) (size := 4) uC #[.slice p0 l0.length q0, .slice p1 l1.length q1, .slice p2 l2.length q2, .slice p3 l3.length q3] 1 (Nat.zero_le _) (by decide) rfl) (by intro y hy; simp only [List.mem_cons, List.not_mem_nil, or_false] at hy; rcases hy with rfl | rfl | rfl | rfl <;> rfl) (by omega) (by simp; have := hbC.size; have := L2.size; omega) ?_
      intro v' uA r1 r2 r3 r4
      obtain ⟨x1, x2, rfl⟩ := owns_form r1
      have hcB : (uC.alloc (.cells #[.slice p0 l0.length q0, .slice p1 l1.length q1, .slice p2 l2.length q2, .slice p3 l3.length q3] 28)).cell? ⟨bo, 0, none⟩ = some (.slice v1 n v2) := by rw [World.cell?_alloc_lt _ _ _ zoC]; exact hcC
      have hcA := r2.cell hcB (fun e => hvb e.symm)
      have zoB : bo < (uC.alloc (.cells #[.slice p0 l0.length q0, .slice p1 l1.length q1, .slice p2 l2.length q2, .slice p3 l3.length q3] 28)).heap.size := by simp; omega
      have hbA := r2.block bo zoB (fun e => hvb e.symm)
      have hfA : uA.frozen? ⟨bo, 0, none⟩ = false := by rw [World.frozen?_of_block (a := ⟨bo, 0, none⟩) hbA]; exact ((((L2.trans (hbC.mono L2.size)).alloc (Nat.le_trans L2.size hbC.size) _).frozen (p := ⟨bo, 0, none⟩) zo)).trans fbo
      have kA : LB w.heap.size 0 1 2 3 (.slice a0 l0.length c0) (.slice a1 l1.length c1) (.slice a2 l2.length c2) (.slice a3 l3.length c3) uA := ⟨r2.cell kB.1 (by intro e; exact hvw e.symm), r2.cell kB.2.1 (by intro e; exact hvw e.symm), r2.cell kB.2.2.1 (by intro e; exact hvw e.symm), r2.cell kB.2.2.2 (by intro e; exact hvw e.symm)⟩
      refine hK'.out _ _ kA (fun _ => ?_)
      clear hK' K
      refine wpAnyH_ready (rs := [5]) (by kernel_rfl) (by simp) ?_
      refine AllReadyH.cons (o := { dst := none, op := Op.store 51 (Operand.tmp 3) (Operand.tmp 34), type := 0, pos := "l04_cases.go:43", after := #[{ on := 4, ground := Ground.data }, { on := 4, ground := Ground.chain }, { on := 0, ground := Ground.phase }, { on := 1, ground := Ground.phase }, { on := 2, ground := Ground.phase }, { on := 3, ground := Ground.phase }, { on := 4, ground := Ground.phase }], guard := none }) rfl (fun K hK' => ?_) AllReadyH.nil
      rw [if_pos (by rfl)]
      go_simp
      refine hK'.out _ _ (LB_out (Out.set bo 0 uA _) hzo kA) (fun _ => ?_)
      clear hK' K
      refine wpAnyH_done (by kernel_rfl) ?_ _
      try simp only [List.getElem_toArray, List.getElem_cons_succ, List.getElem_cons_zero, Act.put, List.setIfInBounds_toArray, List.set_cons_zero, List.set_cons_succ]
      have FIN := hfin uC uA p0 p1 p2 p3 q0 q1 q2 q3 _ hbC T r1 r2 r3 r4
      go_wp2
      go_end0
      exact FIN

end Go.Proofs.Ytphchdjbhbmnbaa
namespace Go.Proofs.Ytphchdjbhbmnbaa
open Go.RowKit
set_option linter.unusedVariables false

def BuildOk (l2 : List (Int × Int)) (bb bo B : Nat) (left : List (Int × Int)) : Prop := ∀ (a0 a1 a2 a3 aL : Option Addr) (c0 c1 c2 c3 cL : Nat) (l0 l1 l3 : List (Int × Int)) (n : Nat) (v : Value) (xs : List Value) (w : World), toks l0 = true → toks l1 = true → toks l3 = true → l0.length + left.length ≤ 12 → l1.length + left.length ≤ 12 → l2.length + l3.length + left.length ≤ 6 → (∀ p ∈ l3, p ∈ l1) → LR w B a0 l0 → LR w B a1 l1 → LR w B a2 l2 → LR w B a3 l3 → LR w B aL left → (left = [] ∨ ∀ x, aL = some x → x.block < B) → CapZ a0 l0.length c0 → CapZ a1 l1.length c1 → CapZ a2 l2.length c2 → CapZ a3 l3.length c3 → left.length ≤ cL → w.cell? ⟨bb, 0, none⟩ = some (.func (.func 173) #[] #[.pointer (some ⟨bb, 0, none⟩), .pointer (some ⟨bo, 0, none⟩)]) → w.cell? ⟨bo, 0, none⟩ = some v → w.frozen? ⟨bo, 0, none⟩ = false → w.ownsRow B 28 4 v n xs → Hd xs → (n = 0 → v = .slice none 0 0) → B ≤ w.heap.size → v.ownBlock ≠ some bo → n + 2 ^ left.length ≤ 128 →
    Calls Try.prog 173 #[.agg #[.slice a0 l0.length c0, .slice a1 l1.length c1, .slice a2 l2.length c2, .slice a3 l3.length c3], .slice aL left.length cL, .pointer (some ⟨bb, 0, none⟩), .pointer (some ⟨bo, 0, none⟩)] w (BPost bo B w v n xs (casesV l2 left l0 l1 l3))

abbrev SB (b0 b1 b2 o0 o1 o2 o3 o4 o5 o6 : Nat) (v0 v1 v2 v3 v4 v5 v6 : Value) (W : World) : Prop := W.cell? ⟨b0, o0, none⟩ = some v0 ∧ W.cell? ⟨b1, o1, none⟩ = some v1 ∧ W.cell? ⟨b1, o2, none⟩ = some v2 ∧ W.cell? ⟨b1, o3, none⟩ = some v3 ∧ W.cell? ⟨b1, o4, none⟩ = some v4 ∧ W.cell? ⟨b2, o5, none⟩ = some v5 ∧ W.cell? ⟨b2, o6, none⟩ = some v6
theorem SB_be {b0 b1 b2 o0 o1 o2 o3 o4 o5 o6 : Nat} {v0 v1 v2 v3 v4 v5 v6 : Value} {W : World} {u : World} (hb : Below W.heap.size W u) (h : SB b0 b1 b2 o0 o1 o2 o3 o4 o5 o6 v0 v1 v2 v3 v4 v5 v6 W) : SB b0 b1 b2 o0 o1 o2 o3 o4 o5 o6 v0 v1 v2 v3 v4 v5 v6 u := by
  skip
  exact ⟨by rw [hb.cell (World.block_lt_of_cell? _ _ (h.1))]; exact h.1, by rw [hb.cell (World.block_lt_of_cell? _ _ (h.2.1))]; exact h.2.1, by rw [hb.cell (World.block_lt_of_cell? _ _ (h.2.2.1))]; exact h.2.2.1, by rw [hb.cell (World.block_lt_of_cell? _ _ (h.2.2.2.1))]; exact h.2.2.2.1, by rw [hb.cell (World.block_lt_of_cell? _ _ (h.2.2.2.2.1))]; exact h.2.2.2.2.1, by rw [hb.cell (World.block_lt_of_cell? _ _ (h.2.2.2.2.2.1))]; exact h.2.2.2.2.2.1, by rw [hb.cell (World.block_lt_of_cell? _ _ (h.2.2.2.2.2.2))]; exact h.2.2.2.2.2.2⟩
theorem SB_al {b0 b1 b2 o0 o1 o2 o3 o4 o5 o6 : Nat} {v0 v1 v2 v3 v4 v5 v6 : Value} {W : World} (o : Obj) (h : SB b0 b1 b2 o0 o1 o2 o3 o4 o5 o6 v0 v1 v2 v3 v4 v5 v6 W) : SB b0 b1 b2 o0 o1 o2 o3 o4 o5 o6 v0 v1 v2 v3 v4 v5 v6 (W.alloc o) := by
  skip
  exact ⟨by rw [World.cell?_alloc_lt _ _ _ (World.block_lt_of_cell? _ _ (h.1))]; exact h.1, by rw [World.cell?_alloc_lt _ _ _ (World.block_lt_of_cell? _ _ (h.2.1))]; exact h.2.1, by rw [World.cell?_alloc_lt _ _ _ (World.block_lt_of_cell? _ _ (h.2.2.1))]; exact h.2.2.1, by rw [World.cell?_alloc_lt _ _ _ (World.block_lt_of_cell? _ _ (h.2.2.2.1))]; exact h.2.2.2.1, by rw [World.cell?_alloc_lt _ _ _ (World.block_lt_of_cell? _ _ (h.2.2.2.2.1))]; exact h.2.2.2.2.1, by rw [World.cell?_alloc_lt _ _ _ (World.block_lt_of_cell? _ _ (h.2.2.2.2.2.1))]; exact h.2.2.2.2.2.1, by rw [World.cell?_alloc_lt _ _ _ (World.block_lt_of_cell? _ _ (h.2.2.2.2.2.2))]; exact h.2.2.2.2.2.2⟩
theorem SB_ad {b0 b1 b2 o0 o1 o2 o3 o4 o5 o6 : Nat} {v0 v1 v2 v3 v4 v5 v6 : Value} {W : World}  (h : SB b0 b1 b2 o0 o1 o2 o3 o4 o5 o6 v0 v1 v2 v3 v4 v5 v6 W) : SB b0 b1 b2 o0 o1 o2 o3 o4 o5 o6 v0 v1 v2 v3 v4 v5 v6 W.drew := by
  skip
  exact ⟨h.1, h.2.1, h.2.2.1, h.2.2.2.1, h.2.2.2.2.1, h.2.2.2.2.2.1, h.2.2.2.2.2.2⟩
theorem SB_out {b0 b1 b2 o0 o1 o2 o3 o4 o5 o6 : Nat} {v0 v1 v2 v3 v4 v5 v6 : Value} {W : World} {u : World} {lo hi : Nat} (ho : Out lo hi W u) (hd : (b0 < lo ∨ hi ≤ b0) ∧ (b1 < lo ∨ hi ≤ b1) ∧ (b2 < lo ∨ hi ≤ b2)) (h : SB b0 b1 b2 o0 o1 o2 o3 o4 o5 o6 v0 v1 v2 v3 v4 v5 v6 W) : SB b0 b1 b2 o0 o1 o2 o3 o4 o5 o6 v0 v1 v2 v3 v4 v5 v6 u := by
  skip
  exact ⟨by rw [World.cell?_of_block (ho.block _ (World.block_lt_of_cell? _ _ (h.1)) (hd.1))]; exact h.1, by rw [World.cell?_of_block (ho.block _ (World.block_lt_of_cell? _ _ (h.2.1)) (hd.2.1))]; exact h.2.1, by rw [World.cell?_of_block (ho.block _ (World.block_lt_of_cell? _ _ (h.2.2.1)) (hd.2.1))]; exact h.2.2.1, by rw [World.cell?_of_block (ho.block _ (World.block_lt_of_cell? _ _ (h.2.2.2.1)) (hd.2.1))]; exact h.2.2.2.1, by rw [World.cell?_of_block (ho.block _ (World.block_lt_of_cell? _ _ (h.2.2.2.2.1)) (hd.2.1))]; exact h.2.2.2.2.1, by rw [World.cell?_of_block (ho.block _ (World.block_lt_of_cell? _ _ (h.2.2.2.2.2.1)) (hd.2.2))]; exact h.2.2.2.2.2.1, by rw [World.cell?_of_block (ho.block _ (World.block_lt_of_cell? _ _ (h.2.2.2.2.2.2)) (hd.2.2))]; exact h.2.2.2.2.2.2⟩

set_option linter.unusedSimpArgs false in
set_option maxRecDepth 20000 in
set_option maxHeartbeats 8000000 in
theorem build_succ (l2 : List (Int × Int)) (t2 : toks l2 = true) (bb bo B : Nat) (hne : bb ≠ bo) (hBo : B ≤ bo) (px py : Int) (tsg : toks [(px, py)] = true) (t : List (Int × Int)) (ih : BuildOk l2 bb bo B t) : BuildOk l2 bb bo B ((px, py) :: t) := by
  intro a0 a1 a2 a3 aL c0 c1 c2 c3 cL l0 l1 l3 n v xs w t0 t1 t3 h0 h1 h2 hsub R0 R1 R2 R3 RL hBL z0 z1 z2 z3 zL hbb hbo fbo hown hx hnil hB hvb hn
  replace hBL : ∀ x, aL = some x → x.block < B := by
    rcases hBL with h | h
    · cases h
    · exact h
  have A0 := Box.new w (.slice a0 l0.length c0) (.slice a1 l1.length c1) (.slice a2 l2.length c2) (.slice a3 l3.length c3) 28
  have L0 : Below w.heap.size w (w.alloc (.cells #[.slice a0 l0.length c0, .slice a1 l1.length c1, .slice a2 l2.length c2, .slice a3 l3.length c3] 28)) := (Below.refl _ _).alloc (Nat.le_refl _) _
  have e0 : (l0 ++ [(px, py)]).length = l0.length + 1 := by simp
  have e1 : (l1 ++ [(px, py)]).length = l1.length + 1 := by simp
  have e3 : (l3 ++ [(px, py)]).length = l3.length + 1 := by simp
  have hpow : 2 ^ (t.length + 1) = 2 ^ t.length + 2 ^ t.length := by rw [Nat.pow_succ]; omega
  rw [List.length_cons] at h0 h1 h2 zL hn
  rw [hpow] at hn
  obtain ⟨pw, hpw⟩ : ∃ p, p = 2 ^ t.length := ⟨_, rfl⟩
  rw [← hpw] at hn
  have hsub2 : ∀ p ∈ l3 ++ [(px, py)], p ∈ l1 ++ [(px, py)] := by
    intro p hp
    rcases List.mem_append.1 hp with hp | hp
    · exact List.mem_append_left _ (hsub p hp)
    · exact List.mem_append_right _ hp
  obtain ⟨bL, oL, rfl, hbL, hcL⟩ : ∃ b off, aL = some ⟨b, off, none⟩ ∧ b < w.heap.size ∧ (w.cell? ⟨b, off, none⟩ = some (.int .i64 px) ∧ w.cell? ⟨b, off + 1, none⟩ = some (.int .i64 py)) := by
    rcases RL.1 with h | ⟨b, off, h, h1, h2⟩
    · cases h
    · exact ⟨b, off, h, h1, by simpa using h2 0 (by simp)⟩
  have RT : LR w B (some (dropA bL oL cL 1)) t := by
    refine ⟨by simpa using drop_row RL.1 1 (by simpa using zL), ?_⟩
    by_cases e : t = []
    · exact .inl e
    · refine .inr ⟨bL, oL + 1 * 2, ?_, ?_⟩
      · have : 0 < t.length := by cases t with | nil => exact absurd rfl e | cons _ _ => simp
        unfold dropA; rw [if_neg (by omega)]
      · exact .inl (hBL _ rfl)
  have hBT : ∀ x, some (dropA bL oL cL 1) = some x → x.block < B := by
    intro x hx
    injection hx with hx
    subst hx
    have := hBL _ rfl
    unfold dropA
    split <;> exact this
  have hx1 : ∀ w : World, (Instr.slice 26 (.slice (some ⟨bL, oL, none⟩) (t.length + 1) cL) (some (.int .i64 1)) none none).run Try.prog w = .ok (.slice (some (dropA bL oL cL 1)) t.length (cL - 1)) w := fun w => by simpa using cut_lo bL oL (t.length + 1) cL 1 (by omega) w
  have zw := L0.size
  have zA := A0.lt
  have zo : bo < w.heap.size := World.block_lt_of_cell? _ _ hbo
  have hw0 : w.heap.size ≤ (w.alloc (.cells #[.slice a0 l0.length c0, .slice a1 l1.length c1, .slice a2 l2.length c2, .slice a3 l3.length c3] 28)).heap.size := by simp
  have hvw : v.ownBlock ≠ some w.heap.size := fun e => absurd (hown.lt _ e).2 (by omega)
  have hvg : ∀ g, v.ownBlock = some g → B ≤ g := fun g hg => (hown.lt g hg).1
  have hgt : (0 : Int) < (t.length : Int) + 1 := by omega
  rw [List.length_cons]
  go_enter Try.func173, Try.ntmps173
  go_upto_region 2 with fail
  replace R0 := R0.below L0; replace R1 := R1.below L0; replace R2 := R2.below L0; replace R3 := R3.below L0; replace RT := RT.below L0
  replace hbb := (L0.cell (p := ⟨bb, 0, none⟩) (World.block_lt_of_cell? _ _ hbb)).trans hbb
  replace hbo := (L0.cell (p := ⟨bo, 0, none⟩) zo).trans hbo
  replace fbo := (L0.frozen (p := ⟨bo, 0, none⟩) zo).trans fbo
  replace hown := owns_belowA hown L0
  replace hcL := And.intro ((L0.cell (p := ⟨bL, oL, none⟩) hbL).trans hcL.1) ((L0.cell (p := ⟨bL, oL + 1, none⟩) hbL).trans hcL.2)
  replace hB := Nat.le_trans hB zw
  generalize w.alloc (.cells #[.slice a0 l0.length c0, .slice a1 l1.length c1, .slice a2 l2.length c2, .slice a3 l3.length c3] 28) = w1 at *
  have IH1 : Hid (∀ (u : World) (p0 : Option Addr) (q0 lo0 hi0 : Nat), Below w1.heap.size w1 u → RowIn u lo0 hi0 p0 (l0.length + 1) (l0 ++ [(px, py)]) → CapZ p0 (l0.length + 1) q0 → Calls Try.prog 173 #[.agg #[.slice p0 (l0.length + 1) q0, .slice a1 l1.length c1, .slice a2 l2.length c2, .slice a3 l3.length c3], .slice (some (dropA bL oL cL 1)) t.length (cL - 1), .pointer (some ⟨bb, 0, none⟩), .pointer (some ⟨bo, 0, none⟩)] u (BPost bo B u v n xs (casesV l2 t (l0 ++ [(px, py)]) l1 l3))) := fun u p0 q0 lo0 hi0 hb r0' y0 => by
    have h := ih p0 a1 a2 a3 (some (dropA bL oL cL 1)) q0 c1 c2 c3 (cL - 1) (l0 ++ [(px, py)]) l1 l3 n v xs u (toks_app t0 tsg) t1 t3 (by (try simp only [e0, e1, e3]); omega) (by (try simp only [e0, e1, e3]); omega) (by (try simp only [e0, e1, e3]); omega) hsub (LR.ofRow r0') (R1.below hb) (R2.below hb) (R3.below hb) (RT.below hb) (.inr hBT) (by rw [e0]; exact y0) z1 z2 z3 (by omega) ((hb.cell (p := ⟨bb, 0, none⟩) (World.block_lt_of_cell? _ _ hbb)).trans hbb) ((hb.cell (p := ⟨bo, 0, none⟩) (World.block_lt_of_cell? _ _ hbo)).trans hbo) ((hb.frozen (p := ⟨bo, 0, none⟩) (World.block_lt_of_cell? _ _ hbo)).trans fbo) (owns_belowA hown hb) hx hnil (Nat.le_trans hB hb.size) hvb (by rw [← hpw]; omega)
    rwa [e0] at h
  have hsb : Hid (∀ u : World, Below w1.heap.size w1 u → SlAt u v.ownBlock) := fun u hu => own_sl (owns_belowA hown hu) hx hnil
  have hso : Hid (∀ u : World, Below w1.heap.size w1 u → SlAt u (some bo)) := by
    obtain ⟨v1, v2, rfl⟩ := owns_form hown
    exact fun u hu g hg => by injection hg with hg; subst hg; exact ⟨_, _, _, (hu.cell (p := ⟨bo, 0, none⟩) (World.block_lt_of_cell? _ _ hbo)).trans hbo⟩
  have zo1 : bo < w1.heap.size := World.block_lt_of_cell? _ _ hbo
  have zb1 : bb < w1.heap.size := World.block_lt_of_cell? _ _ hbb
  have hnebb : some bb ≠ v.ownBlock := fun e => by obtain ⟨p, k, cc, hs⟩ := hsb.out w1 (Below.refl _ _) bb e.symm; rw [hbb] at hs; cases hs
  have hbLB : bL < B := hBL _ rfl
  have hneL : some bL ≠ v.ownBlock := fun e => absurd (hvg bL e.symm) (by omega)
  have hbLo : bL ≠ bo := by omega
  have hwo : w.heap.size ≠ bo := by omega
  have hS1 : SB bb w.heap.size bL 0 0 1 2 3 oL (oL + 1) (.func (.func 173) #[] #[.pointer (some ⟨bb, 0, none⟩), .pointer (some ⟨bo, 0, none⟩)]) (.slice a0 l0.length c0) (.slice a1 l1.length c1) (.slice a2 l2.length c2) (.slice a3 l3.length c3) (.int .i64 px) (.int .i64 py) w1 := ⟨hbb, A0.c0, A0.c1, A0.c2, A0.c3, hcL.1, hcL.2⟩
  have hS0 := SB_ad hS1
  go_region_held3 (fun W => W.cell? ⟨bb, 0, none⟩ = some (.func (.func 173) #[] #[.pointer (some ⟨bb, 0, none⟩), .pointer (some ⟨bo, 0, none⟩)]) ∧ W.cell? ⟨w.heap.size, 0, none⟩ = some (.slice a0 l0.length c0) ∧ W.cell? ⟨w.heap.size, 1, none⟩ = some (.slice a1 l1.length c1) ∧ W.cell? ⟨w.heap.size, 2, none⟩ = some (.slice a2 l2.length c2) ∧ W.cell? ⟨w.heap.size, 3, none⟩ = some (.slice a3 l3.length c3) ∧ W.cell? ⟨bL, oL, none⟩ = some (.int .i64 px) ∧ W.cell? ⟨bL, oL + 1, none⟩ = some (.int .i64 py))
    (first | exact hS0 | exact hS1 | exact kN2 | exact kU2 | assumption)
    (first
      | (go_at_call 174; refine (withNothing_cap _ _ _ _ _ _ _ _ l0 l1 l2 l3 px py _ (by omega) (R0.1.below (Below.refl _ _).drew (Nat.le_refl _)) z0.1).mono ?_; rintro e uN ⟨p0, q0, rfl, r0', y0, hbN⟩; have kN2 := SB_be hbN hS0; have hN : Below w1.heap.size w1 uN := (Below.refl _ _).drew.trans (hbN.mono (Nat.le_refl _)))
      | (go_at_call 173; refine (IH1.out uN p0 q0 _ _ hN r0' y0).mono ?_; rintro e u2 ⟨rfl, v', ys, hcv, hfv, hov, hvo, hnv, hblk, hchg⟩; have kU2 : SB bb w.heap.size bL 0 0 1 2 3 oL (oL + 1) (.func (.func 173) #[] #[.pointer (some ⟨bb, 0, none⟩), .pointer (some ⟨bo, 0, none⟩)]) (.slice a0 l0.length c0) (.slice a1 l1.length c1) (.slice a2 l2.length c2) (.slice a3 l3.length c3) (.int .i64 px) (.int .i64 py) u2 := ⟨hchg.cell kN2.1 hne hnebb, hchg.cell kN2.2.1 hwo (Ne.symm hvw), hchg.cell kN2.2.2.1 hwo (Ne.symm hvw), hchg.cell kN2.2.2.2.1 hwo (Ne.symm hvw), hchg.cell kN2.2.2.2.2.1 hwo (Ne.symm hvw), hchg.cell kN2.2.2.2.2.2.1 hbLo hneL, hchg.cell kN2.2.2.2.2.2.2 hbLo hneL⟩)
      | fail)
  go_upto_region 3 with fail
  have zN := hN.size
  have zU := hchg.size
  have hl1 : (casesV l2 t (l0 ++ [(px, py)]) l1 l3).length ≤ pw := by rw [hpw]; exact casesV_len _ _ _ _ _
  have hvb2 : v'.ownBlock ≠ some bo := by
    rcases hblk with h | h
    · rw [h]; exact hvb
    · intro e; exact absurd (h bo e) (by omega)
  have hvw2 : v'.ownBlock ≠ some w.heap.size := by
    rcases hblk with h | h
    · rw [h]; exact hvw
    · intro e; exact absurd (h _ e) (by omega)
  have hvw2' : ∀ g, v'.ownBlock = some g → g = g := fun _ _ => rfl
  clear hvw2'
  replace R0 := (R0.below hN).chg hchg hBo hvg (hso.out uN hN) (hsb.out uN hN)
  replace R1 := (R1.below hN).chg hchg hBo hvg (hso.out uN hN) (hsb.out uN hN)
  replace R2 := (R2.below hN).chg hchg hBo hvg (hso.out uN hN) (hsb.out uN hN)
  replace R3 := (R3.below hN).chg hchg hBo hvg (hso.out uN hN) (hsb.out uN hN)
  replace RT := (RT.below hN).chg hchg hBo hvg (hso.out uN hN) (hsb.out uN hN)
  have hCh := ((Chg.ofBelow (bo := bo) (br := v.ownBlock) (L0.trans (hN.mono zw))).trans hchg (.inl rfl))
  replace hbb := kU2.1
  replace hbo := hcv
  replace fbo := hfv
  replace hown := hov
  replace hx := hx.append hvo.hd
  replace hnil := hnv
  replace hB := Nat.le_trans hB (Nat.le_trans zN zU)
  replace hvb := hvb2
  have kS := kU2
  clear hsb hso hcv hfv hov hnv hvb2 IH1 hneL hnebb hvg hvw kU2 kN2 hS0 hS1 A0 hcL
  have hvg2 : ∀ g, v'.ownBlock = some g → B ≤ g := fun g hg => (hown.lt g hg).1
  have hsb : SlAt u2 v'.ownBlock := own_sl hown hx hnil
  have hnebb : some bb ≠ v'.ownBlock := fun e => by obtain ⟨p, k, cc, hs⟩ := hsb bb e.symm; rw [hbb] at hs; cases hs
  have hneL : some bL ≠ v'.ownBlock := fun e => absurd (hvg2 bL e.symm) (by omega)
  have hLL : (casesV l2 t (l0 ++ [(px, py)]) l1 l3).length = (casesV l2 t (l0 ++ [(px, py)]) l1 l3).length := rfl
  clear hLL
  have IH2 : Hid (∀ (u : World) (p1 : Option Addr) (q1 lo1 hi1 : Nat) (p3 : Option Addr) (q3 lo3 hi3 : Nat), Below u2.heap.size u2 u → RowIn u lo1 hi1 p1 (l1.length + 1) (l1 ++ [(px, py)]) → CapZ p1 (l1.length + 1) q1 → RowIn u lo3 hi3 p3 (l3.length + 1) (l3 ++ [(px, py)]) → CapZ p3 (l3.length + 1) q3 → Calls Try.prog 173 #[.agg #[.slice a0 l0.length c0, .slice p1 (l1.length + 1) q1, .slice a2 l2.length c2, .slice p3 (l3.length + 1) q3], .slice (some (dropA bL oL cL 1)) t.length (cL - 1), .pointer (some ⟨bb, 0, none⟩), .pointer (some ⟨bo, 0, none⟩)] u (BPost bo B u v' (n + (casesV l2 t (l0 ++ [(px, py)]) l1 l3).length) (xs ++ ys) (casesV l2 t l0 (l1 ++ [(px, py)]) (l3 ++ [(px, py)])))) := fun u p1 q1 lo1 hi1 p3 q3 lo3 hi3 hb r1' y1 r3' y3 => by
    have h := ih a0 p1 a2 p3 (some (dropA bL oL cL 1)) c0 q1 c2 q3 (cL - 1) l0 (l1 ++ [(px, py)]) (l3 ++ [(px, py)]) (n + (casesV l2 t (l0 ++ [(px, py)]) l1 l3).length) v' (xs ++ ys) u t0 (toks_app t1 tsg) (toks_app t3 tsg) (by (try simp only [e0, e1, e3]); omega) (by (try simp only [e0, e1, e3]); omega) (by (try simp only [e0, e1, e3]); omega) hsub2 (R0.below hb) (LR.ofRow r1') (R2.below hb) (LR.ofRow r3') (RT.below hb) (.inr hBT) z0 (by rw [e1]; exact y1) z2 (by rw [e3]; exact y3) (by omega) ((hb.cell (p := ⟨bb, 0, none⟩) (World.block_lt_of_cell? _ _ hbb)).trans hbb) ((hb.cell (p := ⟨bo, 0, none⟩) (World.block_lt_of_cell? _ _ hbo)).trans hbo) ((hb.frozen (p := ⟨bo, 0, none⟩) (World.block_lt_of_cell? _ _ hbo)).trans fbo) (owns_belowA hown hb) hx hnil (Nat.le_trans hB hb.size) hvb (by rw [← hpw]; omega)
    rwa [e1, e3] at h
  have hS0 := SB_ad kS
  go_region_held3 (fun W => W.cell? ⟨bb, 0, none⟩ = some (.func (.func 173) #[] #[.pointer (some ⟨bb, 0, none⟩), .pointer (some ⟨bo, 0, none⟩)]) ∧ W.cell? ⟨w.heap.size, 0, none⟩ = some (.slice a0 l0.length c0) ∧ W.cell? ⟨w.heap.size, 1, none⟩ = some (.slice a1 l1.length c1) ∧ W.cell? ⟨w.heap.size, 2, none⟩ = some (.slice a2 l2.length c2) ∧ W.cell? ⟨w.heap.size, 3, none⟩ = some (.slice a3 l3.length c3) ∧ W.cell? ⟨bL, oL, none⟩ = some (.int .i64 px) ∧ W.cell? ⟨bL, oL + 1, none⟩ = some (.int .i64 py))
    (first | exact hS0 | exact kS | exact kN3 | exact kU3 | assumption)
    (first
      | (go_at_call 175; refine (withSomething_cap _ _ _ _ _ _ _ _ l0 l1 l2 l3 px py _ (by omega) (R1.1.below (Below.refl _ _).drew (Nat.le_refl _)) z1.1 (by omega) (R3.1.below (Below.refl _ _).drew (Nat.le_refl _)) z3.1).mono ?_; rintro e uS ⟨p1, q1, p3, q3, rfl, r1', r3', y1, y3, hbS⟩; have kN3 := SB_be hbS hS0; have hS : Below u2.heap.size u2 uS := (Below.refl _ _).drew.trans (hbS.mono (Nat.le_refl _)))
      | (go_at_call 173; refine (IH2.out uS p1 q1 _ _ p3 q3 _ _ hS r1' y1 r3' y3).mono ?_; rintro e u4 ⟨rfl, v2, zs, hcv2, hfv2, hov2, hvo2, hnv2, hblk2, hchg2⟩; have kU3 : SB bb w.heap.size bL 0 0 1 2 3 oL (oL + 1) (.func (.func 173) #[] #[.pointer (some ⟨bb, 0, none⟩), .pointer (some ⟨bo, 0, none⟩)]) (.slice a0 l0.length c0) (.slice a1 l1.length c1) (.slice a2 l2.length c2) (.slice a3 l3.length c3) (.int .i64 px) (.int .i64 py) u4 := ⟨hchg2.cell kN3.1 hne hnebb, hchg2.cell kN3.2.1 hwo (Ne.symm hvw2), hchg2.cell kN3.2.2.1 hwo (Ne.symm hvw2), hchg2.cell kN3.2.2.2.1 hwo (Ne.symm hvw2), hchg2.cell kN3.2.2.2.2.1 hwo (Ne.symm hvw2), hchg2.cell kN3.2.2.2.2.2.1 hbLo hneL, hchg2.cell kN3.2.2.2.2.2.2 hbLo hneL⟩)
      | fail)
  have zS := hS.size
  have zU4 := hchg2.size
  have soS : SlAt uS (some bo) := by
    obtain ⟨v3, v4, rfl⟩ := owns_form hown
    exact fun g hg => by injection hg with hg; subst hg; exact ⟨_, _, _, (hS.cell (p := ⟨bo, 0, none⟩) (World.block_lt_of_cell? _ _ hbo)).trans hbo⟩
  have soU : SlAt u2 (some bo) := by
    obtain ⟨v3, v4, rfl⟩ := owns_form hown
    exact fun g hg => by injection hg with hg; subst hg; exact ⟨_, _, _, hbo⟩
  have ssS : SlAt uS v'.ownBlock := own_sl (owns_belowA hown hS) hx hnil
  have hCh2 := hCh.trans (Chg.ofBelow (bo := bo) (br := v.ownBlock) hS) (.inl rfl)
  have hCh3 := hCh2.trans hchg2 (by
    rcases hblk with h | h
    · exact .inl h
    · exact .inr fun g hg => Nat.le_trans (Nat.le_trans zw zN) (h g hg))
  clear kU3 kN3 hS0 kS
  go_wp2
  go_end0
  refine ⟨rfl, v2, ys ++ zs, hcv2, hfv2, ?_, ?_, ?_, ?_, hCh3⟩
  · have e : (casesV l2 ((px, py) :: t) l0 l1 l3).length = (casesV l2 t (l0 ++ [(px, py)]) l1 l3).length + (casesV l2 t l0 (l1 ++ [(px, py)]) (l3 ++ [(px, py)])).length := by rw [← List.length_append]; rfl
    rw [e, ← Nat.add_assoc, ← List.append_assoc]; exact hov2
  · have hv1 := ((hvo.chg (Chg.ofBelow (bo := bo) (br := none) hS) soU (fun g hg => by cases hg)).chg hchg2 soS ssS)
    exact ((hv1.lo (by omega : w.heap.size ≤ uN.heap.size)).hi zS).append hvo2
  · intro e
    have e' : (casesV l2 ((px, py) :: t) l0 l1 l3).length = (casesV l2 t (l0 ++ [(px, py)]) l1 l3).length + (casesV l2 t l0 (l1 ++ [(px, py)]) (l3 ++ [(px, py)])).length := by rw [← List.length_append]; rfl
    exact hnv2 (by omega)
  · rcases hblk2 with h | h
    · rcases hblk with k | k
      · exact .inl (h.trans k)
      · exact .inr fun g hg => by rw [h] at hg; exact Nat.le_trans (by omega) (k g hg)
    · exact .inr fun g hg => Nat.le_trans (by omega) (h g hg)

theorem build_any (l2 : List (Int × Int)) (t2 : toks l2 = true) (bb bo B : Nat) (hne : bb ≠ bo) (hBo : B ≤ bo) : ∀ (left : List (Int × Int)), toks left = true → BuildOk l2 bb bo B left
  | [], _ => by
    intro a0 a1 a2 a3 aL c0 c1 c2 c3 cL l0 l1 l3 n v xs w t0 t1 t3 h0 h1 h2 hsub R0 R1 R2 R3 RL hBL z0 z1 z2 z3 zL hbb hbo fbo hown hx hnil hB hvb hn
    have hok : asnB l0 l1 l2 l3 = true := by
      unfold asnB
      simp only [List.length_nil, Nat.add_zero] at h0 h1 h2
      rw [t0, t1, t2, t3, decide_eq_true h0, decide_eq_true h1, decide_eq_true h2]; rfl
    simp only [List.length_nil, Nat.add_zero] at h0 h1 h2 hn
    exact build_zero a0 a1 a2 a3 aL c0 c1 c2 c3 cL l0 l1 l2 l3 bb bo B n v xs w (by omega) (by omega) (by omega) (by omega) R0.1 R1.1 R2.1 R3.1 z0 z1 z2 z3 hok hsub hbo fbo hown hx hnil hB hBo hvb (by omega)
  | (px, py) :: t, h => build_succ l2 t2 bb bo B hne hBo px py (by unfold toks at h ⊢; simp only [List.all_cons, Bool.and_eq_true, List.all_nil, and_true] at h ⊢; exact h.1) t (build_any l2 t2 bb bo B hne hBo t (by unfold toks at h ⊢; simp only [List.all_cons, Bool.and_eq_true] at h; exact h.2))

end Go.Proofs.Ytphchdjbhbmnbaa
namespace Go.Proofs.Ytphchdjbhbmnbaa
open Go.RowKit
set_option linter.unusedVariables false

set_option maxRecDepth 20000 in
set_option maxHeartbeats 4000000 in
theorem iCases_any (a0 a1 a2 a3 : Option Addr) (c0 c1 c2 c3 : Nat) (l0 l1 l2 l3 : List (Int × Int)) (w : World) (n0 : l0.length ≤ 1048576) (n1 : l1.length ≤ 1048576) (n2 : l2.length ≤ 1048576) (n3 : l3.length ≤ 1048576) (r0 : PRow w a0 l0) (r1 : PRow w a1 l1) (r2 : PRow w a2 l2) (r3 : PRow w a3 l3) (z0 : CapZ a0 l0.length c0) (z1 : CapZ a1 l1.length c1) (z2 : CapZ a2 l2.length c2) (z3 : CapZ a3 l3.length c3) :
    Calls Try.prog 83 #[.agg #[.slice a0 l0.length c0, .slice a1 l1.length c1, .slice a2 l2.length c2, .slice a3 l3.length c3]] w fun e w' => ∃ v ys, e = .returned (.tuple #[v, .bool (roomB l0 l1 l2 l3)]) ∧ w'.ownsRow w.heap.size 28 4 v (okA (roomB l0 l1 l2 l3) (casesV l2 l3 l0 l1 [])).length ys ∧ VO w' (okA (roomB l0 l1 l2 l3) (casesV l2 l3 l0 l1 [])) w.heap.size w'.heap.size ys ∧ ((okA (roomB l0 l1 l2 l3) (casesV l2 l3 l0 l1 [])).length = 0 → v = .slice none 0 0) ∧ Below w.heap.size w w' := by
  have A0 := Box.new w (.slice a0 l0.length c0) (.slice a1 l1.length c1) (.slice a2 l2.length c2) (.slice a3 l3.length c3) 28
  have L0 : Below w.heap.size w (w.alloc (.cells #[.slice a0 l0.length c0, .slice a1 l1.length c1, .slice a2 l2.length c2, .slice a3 l3.length c3] 28)) := (Below.refl _ _).alloc (Nat.le_refl _) _
  have A0c0 := A0.c0; have A0c1 := A0.c1; have A0c2 := A0.c2; have A0c3 := A0.c3
  have hmf : ∀ (fn : Fn) (first cap : Array Value) (w : World), (Instr.makeFunc fn first cap).run Try.prog w = .ok (.func fn first cap) w := fun _ _ _ _ => rfl
  go_enter Try.func83, Try.ntmps83
  go_wp2_with fail
  clear A0c0 A0c1 A0c2 A0c3
  refine (hasRoom_any _ _ _ _ _ _ _ _ l0 l1 l2 l3 _ n0 n1 n2 n3 (r0.below L0 (Nat.le_refl _)) (r1.below L0 (Nat.le_refl _)) (r2.below L0 (Nat.le_refl _)) (r3.below L0 (Nat.le_refl _))).mono ?_
  rintro e w2 ⟨rfl, hb⟩
  replace A0 := A0.below hb A0.lt; replace L0 := L0.trans (hb.mono L0.size)
  clear hb
  by_cases hB : roomB l0 l1 l2 l3 = true
  rotate_left
  · replace hB : roomB l0 l1 l2 l3 = false := by simpa using hB
    rw [hB]
    go_wp2
    go_ret2
    rw [hB]
    exact ⟨_, [], rfl, World.ownsRow_nil _ _ _ _, ⟨rfl, L0.size⟩, fun _ => rfl, L0⟩
  have HB : Hid (roomB l0 l1 l2 l3 = true) := hB
  obtain ⟨hok, hr0, hr1⟩ : asnB l0 l1 l2 l3 = true ∧ l0.length + l3.length ≤ 12 ∧ l1.length + l3.length ≤ 12 := by unfold roomB at hB; simpa [and_assoc] using hB
  have hl6 : l2.length + l3.length ≤ 6 := by unfold asnB at hok; simp only [Bool.and_eq_true, decide_eq_true_eq] at hok; omega
  obtain ⟨t0, t1, t2, t3⟩ := asnB_toks hok
  rw [hB]
  clear hB hok
  have A0c0 := A0.c0; have A0c1 := A0.c1; have A0c2 := A0.c2; have A0c3 := A0.c3
  have zL := L0.size
  have zA := A0.lt
  go_upto_region 6 with fail
  have hbo : ((w2.alloc (.cells #[.slice none 0 0] 51)).alloc (.cells #[(.func (.func 173) #[] #[.pointer (some ⟨w2.heap.size + 1, 0, none⟩), .pointer (some ⟨w2.heap.size, 0, none⟩)])] 120)).cell? ⟨w2.heap.size, 0, none⟩ = some (.slice none 0 0) := by simp
  have fbo : ((w2.alloc (.cells #[.slice none 0 0] 51)).alloc (.cells #[(.func (.func 173) #[] #[.pointer (some ⟨w2.heap.size + 1, 0, none⟩), .pointer (some ⟨w2.heap.size, 0, none⟩)])] 120)).frozen? ⟨w2.heap.size, 0, none⟩ = false := by simp
  have hbb : ((w2.alloc (.cells #[.slice none 0 0] 51)).alloc (.cells #[(.func (.func 173) #[] #[.pointer (some ⟨w2.heap.size + 1, 0, none⟩), .pointer (some ⟨w2.heap.size, 0, none⟩)])] 120)).cell? ⟨w2.heap.size + 1, 0, none⟩ = some (.func (.func 173) #[] #[.pointer (some ⟨w2.heap.size + 1, 0, none⟩), .pointer (some ⟨w2.heap.size, 0, none⟩)]) := by simp
  have L3 : Below w.heap.size w ((w2.alloc (.cells #[.slice none 0 0] 51)).alloc (.cells #[(.func (.func 173) #[] #[.pointer (some ⟨w2.heap.size + 1, 0, none⟩), .pointer (some ⟨w2.heap.size, 0, none⟩)])] 120)) := (L0.alloc L0.size _).alloc (by simp; omega) _
  have z3s : w2.heap.size + 2 ≤ ((w2.alloc (.cells #[.slice none 0 0] 51)).alloc (.cells #[(.func (.func 173) #[] #[.pointer (some ⟨w2.heap.size + 1, 0, none⟩), .pointer (some ⟨w2.heap.size, 0, none⟩)])] 120)).heap.size := by simp
  replace A0 := (A0.alloc (.cells #[.slice none 0 0] 51)).alloc (.cells #[(.func (.func 173) #[] #[.pointer (some ⟨w2.heap.size + 1, 0, none⟩), .pointer (some ⟨w2.heap.size, 0, none⟩)])] 120)
  clear A0c0 A0c1 A0c2 A0c3
  generalize ((w2.alloc (.cells #[.slice none 0 0] 51)).alloc (.cells #[(.func (.func 173) #[] #[.pointer (some ⟨w2.heap.size + 1, 0, none⟩), .pointer (some ⟨w2.heap.size, 0, none⟩)])] 120)) = w3 at *
  generalize hbO : w2.heap.size = bo at *
  clear hbO
  have A0c0 := A0.c0; have A0c1 := A0.c1; have A0c2 := A0.c2; have A0c3 := A0.c3
  go_wp2_with fail
  clear A0c0 A0c1 A0c2 A0c3
  have lr : ∀ (a : Option Addr) (l : List (Int × Int)), PRow w a l → LR w3 w.heap.size a l := fun a l h => ⟨h.below L3 (Nat.le_refl _), by
    rcases h with h | ⟨b, off, h1, h2, _⟩
    · exact .inl h
    · exact .inr ⟨b, off, h1, .inl h2⟩⟩
  have hbl : l3 = [] ∨ ∀ x, a3 = some x → x.block < w.heap.size := by
    rcases r3 with h | ⟨b, off, h1, h2, _⟩
    · exact .inl h
    · exact .inr fun x hx => by rw [h1] at hx; injection hx with hx; subst hx; exact h2
  have hpw : 0 + 2 ^ l3.length ≤ 128 := by rw [Nat.zero_add]; exact Nat.le_trans (Nat.pow_le_pow_right (by omega) (by omega : l3.length ≤ 6)) (by decide)
  have h := build_any l2 t2 (bo + 1) bo w.heap.size (by omega) zL l3 t3 a0 a1 a2 none a3 c0 c1 c2 0 c3 l0 l1 [] 0 (.slice none 0 0) [] w3 t0 t1 rfl hr0 hr1 (by simp; omega) (fun p hp => by cases hp) (lr _ _ r0) (lr _ _ r1) (lr _ _ r2) ⟨.inl rfl, .inl rfl⟩ (lr _ _ r3) hbl z0 z1 z2 ⟨fun _ => rfl, Nat.le_refl _⟩ z3.2 hbb hbo fbo (World.ownsRow_nil _ _ _ _) (fun u hu => by cases hu) (fun _ => rfl) (by omega) (by intro e; cases e) hpw
  refine h.mono ?_
  rintro e w4 ⟨rfl, v, ys, hcv, hfv, hov, hvo, hnv, -, hch⟩
  rw [Nat.zero_add, List.nil_append] at hov
  rw [Nat.zero_add] at hnv
  have hB3 : Below w.heap.size w3 w4 := hch.below (by omega) zL (fun g hg => by cases hg)
  clear hch lr A0
  obtain ⟨v1, v2, rfl⟩ := owns_form hov
  have zs4 := hB3.size
  go_wp2
  go_ret2
  rw [HB.out]
  exact ⟨_, ys, rfl, hov, hvo.lo (by omega), hnv, L3.trans hB3⟩

set_option maxRecDepth 20000 in
set_option maxHeartbeats 2000000 in
theorem iCountCases_any (a0 a1 a2 a3 : Option Addr) (c0 c1 c2 c3 : Nat) (l0 l1 l2 l3 : List (Int × Int)) (w : World) (n0 : l0.length ≤ 1048576) (n1 : l1.length ≤ 1048576) (n2 : l2.length ≤ 1048576) (n3 : l3.length ≤ 1048576) (r0 : PRow w a0 l0) (r1 : PRow w a1 l1) (r2 : PRow w a2 l2) (r3 : PRow w a3 l3) (z0 : CapZ a0 l0.length c0) (z1 : CapZ a1 l1.length c1) (z2 : CapZ a2 l2.length c2) (z3 : CapZ a3 l3.length c3) :
    Calls Try.prog 94 #[.agg #[.slice a0 l0.length c0, .slice a1 l1.length c1, .slice a2 l2.length c2, .slice a3 l3.length c3]] w fun e w' => e = .returned (.tuple #[.int .i64 ((okA (roomB l0 l1 l2 l3) (casesV l2 l3 l0 l1 [])).length : Int), .bool (roomB l0 l1 l2 l3)]) ∧ Below w.heap.size w w' := by
  have A0 := Box.new w (.slice a0 l0.length c0) (.slice a1 l1.length c1) (.slice a2 l2.length c2) (.slice a3 l3.length c3) 28
  have L0 : Below w.heap.size w (w.alloc (.cells #[.slice a0 l0.length c0, .slice a1 l1.length c1, .slice a2 l2.length c2, .slice a3 l3.length c3] 28)) := (Below.refl _ _).alloc (Nat.le_refl _) _
  have A0c0 := A0.c0; have A0c1 := A0.c1; have A0c2 := A0.c2; have A0c3 := A0.c3
  go_enter Try.func94, Try.ntmps94
  go_wp2_with fail
  clear A0c0 A0c1 A0c2 A0c3
  refine (iCases_any _ _ _ _ _ _ _ _ l0 l1 l2 l3 _ n0 n1 n2 n3 (r0.below L0 (Nat.le_refl _)) (r1.below L0 (Nat.le_refl _)) (r2.below L0 (Nat.le_refl _)) (r3.below L0 (Nat.le_refl _)) z0 z1 z2 z3).mono ?_
  rintro e w1 ⟨v, ys, rfl, o, -, -, hb⟩
  replace L0 := L0.trans (hb.mono L0.size)
  obtain ⟨a, cp, rfl⟩ := owns_form o
  clear hb A0 o
  go_wp2
  go_ret2
  exact ⟨rfl, L0⟩

set_option maxRecDepth 20000 in
set_option maxHeartbeats 2000000 in
theorem iPossible_any (a0 a1 a2 a3 : Option Addr) (c0 c1 c2 c3 : Nat) (l0 l1 l2 l3 : List (Int × Int)) (w : World) (n0 : l0.length ≤ 1048576) (n1 : l1.length ≤ 1048576) (n2 : l2.length ≤ 1048576) (n3 : l3.length ≤ 1048576) (r0 : PRow w a0 l0) (r1 : PRow w a1 l1) (r2 : PRow w a2 l2) (r3 : PRow w a3 l3) (z0 : CapZ a0 l0.length c0) (z1 : CapZ a1 l1.length c1) (z2 : CapZ a2 l2.length c2) (z3 : CapZ a3 l3.length c3) :
    Calls Try.prog 88 #[.agg #[.slice a0 l0.length c0, .slice a1 l1.length c1, .slice a2 l2.length c2, .slice a3 l3.length c3]] w fun e w' => e = .returned (.tuple #[.bool (decide (0 < (okA (roomB l0 l1 l2 l3) (casesV l2 l3 l0 l1 [])).length)), .bool (roomB l0 l1 l2 l3)]) ∧ Below w.heap.size w w' := by
  have A0 := Box.new w (.slice a0 l0.length c0) (.slice a1 l1.length c1) (.slice a2 l2.length c2) (.slice a3 l3.length c3) 28
  have L0 : Below w.heap.size w (w.alloc (.cells #[.slice a0 l0.length c0, .slice a1 l1.length c1, .slice a2 l2.length c2, .slice a3 l3.length c3] 28)) := (Below.refl _ _).alloc (Nat.le_refl _) _
  have A0c0 := A0.c0; have A0c1 := A0.c1; have A0c2 := A0.c2; have A0c3 := A0.c3
  go_enter Try.func88, Try.ntmps88
  go_wp2_with fail
  clear A0c0 A0c1 A0c2 A0c3
  refine (iCountCases_any _ _ _ _ _ _ _ _ l0 l1 l2 l3 _ n0 n1 n2 n3 (r0.below L0 (Nat.le_refl _)) (r1.below L0 (Nat.le_refl _)) (r2.below L0 (Nat.le_refl _)) (r3.below L0 (Nat.le_refl _)) z0 z1 z2 z3).mono ?_
  rintro e w1 ⟨rfl, hb⟩
  replace L0 := L0.trans (hb.mono L0.size)
  clear hb A0
  go_wp2
  go_ret2
  exact ⟨ret_two (by simp) rfl, L0⟩

end Go.Proofs.Ytphchdjbhbmnbaa
namespace Go.Proofs.Ytphchdjbhbmnbaa
open Go.RowKit
set_option linter.unusedVariables false

structure MOut (lo hi : Nat) (w w' : World) : Prop where
  out : Out lo hi w w'
  keep : ∀ k, k < w.heap.size → (∀ x, w.cell? ⟨k, 0, none⟩ ≠ some (.int .i64 x)) → w'.heap[k]? = w.heap[k]?
theorem MOut.refl (lo hi : Nat) (w : World) : MOut lo hi w w := ⟨Out.refl _ _ _, fun _ _ _ => rfl⟩
theorem MOut.mono {lo hi lo' hi' : Nat} {w w' : World} (h : MOut lo hi w w') (h1 : lo' ≤ lo) (h2 : hi ≤ hi') : MOut lo' hi' w w' := ⟨h.out.mono h1 h2, h.keep⟩
theorem MOut.cells {lo hi g : Nat} {w w' : World} (h : MOut lo hi w w') (hlt : g < w.heap.size) (hn : ∀ x, w.cell? ⟨g, 0, none⟩ ≠ some (.int .i64 x)) : ∀ o, w'.cell? ⟨g, o, none⟩ = w.cell? ⟨g, o, none⟩ :=
  fun o => World.cell?_of_block (a := ⟨g, o, none⟩) (h.keep g hlt hn)
theorem MOut.trans {lo hi : Nat} {w w1 w2 : World} (h : MOut lo hi w w1) (k : MOut lo hi w1 w2) : MOut lo hi w w2 :=
  ⟨h.out.trans k.out, fun j hj hn => by
    rw [k.keep j (Nat.lt_of_lt_of_le hj h.out.size) (fun x => by rw [h.cells hj hn]; exact hn x), h.keep j hj hn]⟩
theorem _root_.Go.World.ownsRow.kept2 {lo hi base n g cap : Nat} {w w' : World} {xs : List Value} (h : w.ownsRow base 28 4 (.slice (some ⟨g, 0, none⟩) n cap) n xs) (hm : MOut lo hi w w') (hlt : g < w.heap.size) (hn : ∀ x, w.cell? ⟨g, 0, none⟩ ≠ some (.int .i64 x)) : w'.ownsRow base 28 4 (.slice (some ⟨g, 0, none⟩) n cap) n xs := by
  obtain ⟨h1, h2 | ⟨g', cap', cur, e1, e2, e3, e4⟩⟩ := h
  · cases h2.1
  · injection e1 with e5 e6 e7; injection e5 with e5; injection e5 with e5; subst e5
    exact ⟨h1, .inr ⟨g, cap', cur, by rw [e7], e2, by rw [hm.keep g hlt hn]; exact e3, e4⟩⟩

theorem markRow (lo hi : Nat) (a : Option Addr) (n cap : Nat) (k : Int) (l : List (Int × Int)) (w : World) (hn : n ≤ 8388608) (h0 : 0 ≤ k) (h1 : k ≤ 67108864) (hr : RowIn w lo hi a n l) :
    Calls Try.prog 53 #[.slice a n cap, .int .i64 k] w fun e w' => e = .returned (.int .i64 (k + 2 * n)) ∧ RowIn w' lo hi a n (marks k n) ∧ MOut lo hi w w' := by
  obtain ⟨hl, hr⟩ := hr
  by_cases e0 : n = 0
  · subst e0
    exact (markPairS_none a cap k w).mono fun e w' ⟨he, hw⟩ => ⟨by rw [he]; simp, hw ▸ ⟨by simp [marks], .inl rfl⟩, hw ▸ MOut.refl _ _ _⟩
  · rcases hr with hr | ⟨b, rfl, h2, h3, ho⟩
    · exact absurd hr e0
    · have hc := (ho.2.2 0 (by omega)).1
      rw [Nat.zero_mul] at hc
      exact (markPairS_some b n cap k l w hn h0 h1 ho.zero).mono fun e w' ⟨he, h4, h5⟩ => ⟨he, RowIn.ofOwn h4 (marks_length k n) h2 h3, h5.out h2 h3, fun j hj hne => by
        by_cases e : j = b
        · subst e; exact absurd hc (hne _)
        · exact (h5.out (lo := b) (hi := b + 1) (Nat.le_refl _) (Nat.lt_succ_self _)).block j hj (by omega)⟩

def mk4 (kk : Int) (x : A4) : A4 := (marks kk x.1.length, marks (kk + 2 * x.1.length) x.2.1.length, marks (kk + 2 * x.1.length + 2 * x.2.1.length) x.2.2.1.length, marks (kk + 2 * x.1.length + 2 * x.2.1.length + 2 * x.2.2.1.length) x.2.2.2.length)
def sz4 (x : A4) : Int := 2 * (x.1.length : Int) + 2 * (x.2.1.length : Int) + 2 * (x.2.2.1.length : Int) + 2 * (x.2.2.2.length : Int)
def mkL : Int → List A4 → List A4
  | _, [] => []
  | k, x :: L => mk4 k x :: mkL (k + sz4 x) L
def szL : List A4 → Int
  | [] => 0
  | x :: L => sz4 x + szL L
theorem szL_nonneg : ∀ (L : List A4), 0 ≤ szL L
  | [] => Int.le_refl _
  | x :: L => by have := szL_nonneg L; unfold szL sz4; omega
theorem szL_app : ∀ (A B : List A4), szL (A ++ B) = szL A + szL B
  | [], B => by simp [szL]
  | x :: A, B => by
    show sz4 x + szL (A ++ B) = sz4 x + szL A + szL B
    rw [szL_app A B]; omega
theorem mkL_app : ∀ (k : Int) (A B : List A4), mkL k (A ++ B) = mkL k A ++ mkL (k + szL A) B
  | k, [], B => by simp [mkL, szL]
  | k, x :: A, B => by
    show mk4 k x :: mkL (k + sz4 x) (A ++ B) = mk4 k x :: (mkL (k + sz4 x) A ++ mkL (k + (sz4 x + szL A)) B)
    rw [mkL_app, Int.add_assoc]
theorem mkL_len : ∀ (k : Int) (L : List A4), (mkL k L).length = L.length
  | _, [] => rfl
  | k, x :: L => by unfold mkL; rw [List.length_cons, List.length_cons, mkL_len]
theorem szL_take {L : List A4} {m : Nat} (h : m < L.length) : szL (L.take (m + 1)) = szL (L.take m) + sz4 (L[m]) := by
  rw [List.take_succ_eq_append_getElem h, szL_app]; simp [szL]
theorem szL_take_le (L : List A4) (m : Nat) : szL (L.take m) ≤ szL L := by
  have h := szL_app (L.take m) (L.drop m)
  rw [List.take_append_drop] at h
  have := szL_nonneg (L.drop m)
  omega
theorem mkL_take {L : List A4} {m : Nat} (k : Int) (h : m < L.length) : mkL k (L.take (m + 1)) = mkL k (L.take m) ++ [mk4 (k + szL (L.take m)) (L[m])] := by
  rw [List.take_succ_eq_append_getElem h, mkL_app]; rfl

theorem VO.out {w w' : World} {lo' hi' : Nat} (ho : Out lo' hi' w w') : ∀ {L : List A4} {lo hi : Nat} {xs : List Value}, VO w L lo hi xs → (hi ≤ lo' ∨ hi' ≤ lo) → VO w' L lo hi xs
  | [], lo, hi, xs, h, _ => h
  | x :: L, lo, hi, xs, h, hr => by
    obtain ⟨mid, p0, p1, p2, p3, q0, q1, q2, q3, ys, rfl, h1, T, h⟩ := h
    have h2 := h.le
    exact ⟨mid, p0, p1, p2, p3, q0, q1, q2, q3, ys, rfl, h1, T.out ho (by omega), VO.out ho h (by omega)⟩
theorem VO.split {w : World} : ∀ {A B : List A4} {lo hi : Nat} {xs : List Value}, VO w (A ++ B) lo hi xs → ∃ mid ya yb, xs = ya ++ yb ∧ VO w A lo mid ya ∧ VO w B mid hi yb
  | [], B, lo, hi, xs, h => ⟨lo, [], xs, rfl, ⟨rfl, Nat.le_refl _⟩, h⟩
  | x :: A, B, lo, hi, xs, h => by
    obtain ⟨mid, p0, p1, p2, p3, q0, q1, q2, q3, ys, rfl, h1, T, h⟩ := h
    obtain ⟨md, ya, yb, rfl, h2, h3⟩ := VO.split h
    exact ⟨md, _ :: _ :: _ :: _ :: ya, yb, rfl, ⟨mid, p0, p1, p2, p3, q0, q1, q2, q3, ya, rfl, h1, T, h2⟩, h3⟩
theorem VO.vs {w : World} : ∀ {L : List A4} {lo hi : Nat} {xs : List Value}, VO w L lo hi xs → VS w lo hi L xs
  | [], lo, hi, xs, h => h.1
  | x :: L, lo, hi, xs, h => by
    obtain ⟨mid, p0, p1, p2, p3, q0, q1, q2, q3, ys, rfl, h1, T, h⟩ := h
    exact ⟨p0, p1, p2, p3, q0, q1, q2, q3, ys, rfl, T.seen.mono (Nat.le_refl _) h.le, (VO.vs h).mono h1 (Nat.le_refl _)⟩

theorem own_at {w : World} {base g n cap : Nat} {ya yb : List Value} (h : w.ownsRow base 28 4 (.slice (some ⟨g, 0, none⟩) n cap) n (ya ++ yb)) {m : Nat} (hm : ya.length = m * 4) (i : Nat) (u : Value) (hu : yb[i]? = some u) : w.cell? ⟨g, m * 4 + i, none⟩ = some u := by
  have hl := h.1
  have hlt : i < yb.length := by
    obtain ⟨h, _⟩ := List.getElem?_eq_some_iff.1 hu
    exact h
  rw [List.length_append] at hl
  rw [h.cellAt _ (by omega), List.getElem?_append_right (by omega), hm, Nat.add_sub_cancel_left]
  exact hu
theorem own_nonint {w : World} {base g n cap : Nat} {xs : List Value} (h : w.ownsRow base 28 4 (.slice (some ⟨g, 0, none⟩) n cap) n xs) (hx : Hd xs) (hn : 0 < n) : g < w.heap.size ∧ ∀ x, w.cell? ⟨g, 0, none⟩ ≠ some (.int .i64 x) := by
  refine ⟨(h.lt g rfl).2, fun x hc => ?_⟩
  rw [h.cellAt 0 (by omega)] at hc
  obtain ⟨p, k, c, e⟩ := hx _ hc
  cases e

set_option maxRecDepth 20000 in
set_option maxHeartbeats 4000000 in
theorem markAsnS_some (base lo hi g cap : Nat) (L : List A4) (k : Int) (ys : List Value) (w : World) (hL : 0 < L.length) (hL2 : L.length ≤ 1048576) (h0 : 0 ≤ k) (h1 : k + szL L ≤ 16777216) (hown : w.ownsRow base 28 4 (.slice (some ⟨g, 0, none⟩) L.length cap) L.length ys) (hv : VO w L lo hi ys) :
    Calls Try.prog 85 #[.slice (some ⟨g, 0, none⟩) L.length cap, .int .i64 k] w fun e w' => e = .returned (.int .i64 (k + szL L)) ∧ VO w' (mkL k L) lo hi ys ∧ w'.ownsRow base 28 4 (.slice (some ⟨g, 0, none⟩) L.length cap) L.length ys ∧ MOut lo hi w w' := by
  have hd := hv.hd
  go_enter Try.func85, Try.ntmps85
  go_wp2
  go_loopw [1, 5] (fun q i wr => ∃ m : Nat, m ≤ L.length ∧ i = .int .i64 m ∧ q = .int .i64 (k + szL (L.take m)) ∧ VO wr (mkL k (L.take m) ++ L.drop m) lo hi ys ∧ wr.ownsRow base 28 4 (.slice (some ⟨g, 0, none⟩) L.length cap) L.length ys ∧ MOut lo hi w wr) (fun _ i _ => L.length - (intOf i).toNat)
  case atStart => exact ⟨0, Nat.zero_le _, rfl, by simp [szL], by simpa [mkL] using hv, hown, MOut.refl _ _ _⟩
  case round =>
    clear hown hv
    obtain ⟨m, hm, rfl, rfl, hv, hown, hM⟩ := hrel
    by_cases hlt : m < L.length
    · obtain ⟨mid, ya, yb, rfl, VA, VB⟩ := hv.split
      rw [List.drop_eq_getElem_cons hlt] at VB
      have HT := szL_take hlt
      have HMK := mkL_take k hlt
      have hle := szL_take_le L (m + 1)
      have hnn := szL_nonneg (L.take m)
      rw [HT] at hle
      replace HT : Hid (szL (L.take (m + 1)) = szL (L.take m) + sz4 (L[m])) := HT
      replace HMK : Hid (mkL k (L.take (m + 1)) = mkL k (L.take m) ++ [mk4 (k + szL (L.take m)) (L[m])]) := HMK
      generalize L[m] = x at *
      obtain ⟨kk, HKK⟩ : ∃ kk, Hid (k + szL (L.take m) = kk) := ⟨_, rfl⟩
      have hkk0 : 0 ≤ kk := by rw [← HKK.out]; omega
      have hkk1 : kk + sz4 x ≤ 16777216 := by rw [← HKK.out]; omega
      rw [HKK.out]
      obtain ⟨mid2, p0, p1, p2, p3, q0, q1, q2, q3, yc, rfl, hmid, FT, VC⟩ := VB
      have hya : ya.length = m * 4 := by rw [VA.len, mkL_len, List.length_take]; omega
      obtain ⟨hlt0, hni0⟩ := own_nonint hown hd hL
      have c0 := own_at hown hya 0 _ rfl
      have c1 := own_at hown hya 1 _ rfl
      have c2 := own_at hown hya 2 _ rfl
      have c3 := own_at hown hya 3 _ rfl
      rw [Nat.add_zero] at c0
      obtain ⟨s0, t0, s1, t1, s2, t2, s3, t3, ⟨f0a, f0b, F0⟩, ⟨f1a, f1b, F1⟩, ⟨f2a, f2b, F2⟩, ⟨f3a, f3b, F3⟩, d01, d02, d03, d12, d13, d23⟩ := FT
      have hsz : sz4 x = 2 * (x.1.length : Int) + 2 * (x.2.1.length : Int) + 2 * (x.2.2.1.length : Int) + 2 * (x.2.2.2.length : Int) := rfl
      have hmi : (m : Int) < (L.length : Int) := by omega
      have hm0' : (0 : Int) ≤ (m : Int) := by omega
      have hle1 := VA.le
      have hle2 := VC.le
      replace hsz : Hid (sz4 x = 2 * (x.1.length : Int) + 2 * (x.2.1.length : Int) + 2 * (x.2.2.1.length : Int) + 2 * (x.2.2.2.length : Int)) := hsz
      rw [hsz.out] at hkk1
      go_wp2_with fail
      refine (markRow s0 t0 p0 x.1.length q0 kk x.1 _ (by omega) (by omega) (by omega) F0).mono ?_
      rintro e u1 ⟨rfl, G0, M0⟩
      have hg0 := M0.cells hlt0 hni0
      have hlt1 : g < u1.heap.size := Nat.lt_of_lt_of_le hlt0 M0.out.size
      have hni1 : ∀ x, u1.cell? ⟨g, 0, none⟩ ≠ some (.int .i64 x) := fun x => by rw [hg0]; exact hni0 x
      replace hown := hown.kept2 M0 hlt0 hni0
      replace F1 := F1.out M0.out (by omega); replace c1 := (hg0 _).trans c1
      replace F2 := F2.out M0.out (by omega); replace c2 := (hg0 _).trans c2
      replace F3 := F3.out M0.out (by omega); replace c3 := (hg0 _).trans c3
      replace VA := VA.out M0.out (by omega); replace VC := VC.out M0.out (by omega)
      clear hg0
      go_wp2_with fail
      refine (markRow s1 t1 p1 x.2.1.length q1 (kk + 2 * x.1.length) x.2.1 _ (by omega) (by omega) (by omega) F1).mono ?_
      rintro e u2 ⟨rfl, G1, M1⟩
      have hg1 := M1.cells hlt1 hni1
      have hlt2 : g < u2.heap.size := Nat.lt_of_lt_of_le hlt1 M1.out.size
      have hni2 : ∀ x, u2.cell? ⟨g, 0, none⟩ ≠ some (.int .i64 x) := fun x => by rw [hg1]; exact hni1 x
      replace hown := hown.kept2 M1 hlt1 hni1
      replace G0 := G0.out M1.out (by omega)
      replace F2 := F2.out M1.out (by omega); replace c2 := (hg1 _).trans c2
      replace F3 := F3.out M1.out (by omega); replace c3 := (hg1 _).trans c3
      replace VA := VA.out M1.out (by omega); replace VC := VC.out M1.out (by omega)
      clear hg1
      go_wp2_with fail
      refine (markRow s2 t2 p2 x.2.2.1.length q2 (kk + 2 * x.1.length + 2 * x.2.1.length) x.2.2.1 _ (by omega) (by omega) (by omega) F2).mono ?_
      rintro e u3 ⟨rfl, G2, M2⟩
      have hg2 := M2.cells hlt2 hni2
      have hlt3 : g < u3.heap.size := Nat.lt_of_lt_of_le hlt2 M2.out.size
      have hni3 : ∀ x, u3.cell? ⟨g, 0, none⟩ ≠ some (.int .i64 x) := fun x => by rw [hg2]; exact hni2 x
      replace hown := hown.kept2 M2 hlt2 hni2
      replace G0 := G0.out M2.out (by omega)
      replace G1 := G1.out M2.out (by omega)
      replace F3 := F3.out M2.out (by omega); replace c3 := (hg2 _).trans c3
      replace VA := VA.out M2.out (by omega); replace VC := VC.out M2.out (by omega)
      clear hg2
      go_wp2_with fail
      refine (markRow s3 t3 p3 x.2.2.2.length q3 (kk + 2 * x.1.length + 2 * x.2.1.length + 2 * x.2.2.1.length) x.2.2.2 _ (by omega) (by omega) (by omega) F3).mono ?_
      rintro e u4 ⟨rfl, G3, M3⟩
      have hg3 := M3.cells hlt3 hni3
      have hlt4 : g < u4.heap.size := Nat.lt_of_lt_of_le hlt3 M3.out.size
      have hni4 : ∀ x, u4.cell? ⟨g, 0, none⟩ ≠ some (.int .i64 x) := fun x => by rw [hg3]; exact hni3 x
      replace hown := hown.kept2 M3 hlt3 hni3
      replace G0 := G0.out M3.out (by omega)
      replace G1 := G1.out M3.out (by omega)
      replace G2 := G2.out M3.out (by omega)
      replace VA := VA.out M3.out (by omega); replace VC := VC.out M3.out (by omega)
      clear hg3
      have hV : VO u4 (mkL k (L.take (m + 1)) ++ L.drop (m + 1)) lo hi (ya ++ (.slice p0 x.1.length q0 :: .slice p1 x.2.1.length q1 :: .slice p2 x.2.2.1.length q2 :: .slice p3 x.2.2.2.length q3 :: yc)) := by
        rw [HMK.out, HKK.out, List.append_assoc]
        exact VA.append ⟨mid2, p0, p1, p2, p3, q0, q1, q2, q3, yc, by simp only [mk4, marks_length], hmid, by simp only [mk4, marks_length]; exact ⟨s0, t0, s1, t1, s2, t2, s3, t3, ⟨f0a, f0b, G0⟩, ⟨f1a, f1b, G1⟩, ⟨f2a, f2b, G2⟩, ⟨f3a, f3b, G3⟩, d01, d02, d03, d12, d13, d23⟩, VC⟩
      have hM2 : MOut lo hi w u4 := (((hM.trans (M0.mono (by omega) (by omega))).trans (M1.mono (by omega) (by omega))).trans (M2.mono (by omega) (by omega))).trans (M3.mono (by omega) (by omega))
      have hq : Hid (kk + 2 * (x.1.length : Int) + 2 * (x.2.1.length : Int) + 2 * (x.2.2.1.length : Int) + 2 * (x.2.2.2.length : Int) = k + szL (L.take (m + 1))) := by show _ = _; rw [HT.out, ← Int.add_assoc, HKK.out, hsz.out]; omega
      clear c0 c1 c2 c3 VA VC F0 F1 F2 F3 G0 G1 G2 G3 M0 M1 M2 M3 hM
      go_wp2
      go_roundw
      case rel => exact ⟨m + 1, by omega, by go_num, by rw [← hq.out], hV, hown, hM2⟩
      case measure => simp [intOf]; omega
    · obtain rfl : m = L.length := by omega
      rw [List.take_length, List.drop_length, List.append_nil] at hv
      have hge : ¬ ((L.length : Int) < (L.length : Int)) := by omega
      go_wp2
      go_ret
      exact ⟨rfl, hv, hown, hM⟩

end Go.Proofs.Ytphchdjbhbmnbaa
namespace Go.Proofs.Ytphchdjbhbmnbaa
open Go.RowKit
set_option linter.unusedVariables false

set_option maxHeartbeats 400000 in
theorem markAsnS_none (a : Option Addr) (cap : Nat) (k : Int) (w : World) : Calls Try.prog 85 #[.slice a 0 cap, .int .i64 k] w fun e w' => e = .returned (.int .i64 k) ∧ w' = w := by
  go_enter Try.func85, Try.ntmps85
  go_wp2
  go_loop [1, 5] (fun q i => i = .int .i64 0 ∧ q = .int .i64 k) (fun _ _ => 0)
  case atStart => exact ⟨rfl, rfl⟩
  case round =>
    obtain ⟨rfl, rfl⟩ := hrel
    go_wp2
    go_ret
    exact ⟨rfl, rfl⟩
set_option maxHeartbeats 400000 in
theorem heldAsnS_none (a : Option Addr) (cap : Nat) (k : Int) (w : World) : Calls Try.prog 86 #[.slice a 0 cap, .int .i64 k] w fun e w' => e = .returned (.int .i64 k) ∧ w' = w := by
  go_enter Try.func86, Try.ntmps86
  go_wp2
  go_loop [1, 5] (fun q i => i = .int .i64 0 ∧ q = .int .i64 k) (fun _ _ => 0)
  case atStart => exact ⟨rfl, rfl⟩
  case round =>
    obtain ⟨rfl, rfl⟩ := hrel
    go_wp2
    go_ret
    exact ⟨rfl, rfl⟩

theorem VS.at {w : World} {lo hi : Nat} : ∀ {L : List A4} {xs : List Value} (m : Nat) (x : A4), VS w lo hi L xs → L[m]? = some x → ∃ ya yb p0 p1 p2 p3 q0 q1 q2 q3, xs = ya ++ (.slice p0 x.1.length q0 :: .slice p1 x.2.1.length q1 :: .slice p2 x.2.2.1.length q2 :: .slice p3 x.2.2.2.length q3 :: yb) ∧ ya.length = m * 4 ∧ Seen w lo hi p0 p1 p2 p3 x.1.length x.2.1.length x.2.2.1.length x.2.2.2.length x.1 x.2.1 x.2.2.1 x.2.2.2
  | [], xs, m, x, h, e => by cases e
  | y :: L, xs, 0, x, h, e => by
    obtain ⟨p0, p1, p2, p3, q0, q1, q2, q3, ys, rfl, T, h⟩ := h
    obtain rfl : y = x := by injection e
    exact ⟨[], ys, p0, p1, p2, p3, q0, q1, q2, q3, rfl, rfl, T⟩
  | y :: L, xs, m + 1, x, h, e => by
    obtain ⟨p0, p1, p2, p3, q0, q1, q2, q3, ys, rfl, T, h⟩ := h
    obtain ⟨ya, yb, u0, u1, u2, u3, t0, t1, t2, t3, rfl, h1, h2⟩ := VS.at m x h e
    exact ⟨_ :: _ :: _ :: _ :: ya, yb, u0, u1, u2, u3, t0, t1, t2, t3, rfl, by simp only [List.length_cons]; omega, h2⟩

set_option maxRecDepth 20000 in
set_option maxHeartbeats 4000000 in
theorem heldAsnS_some (base lo hi g cap : Nat) (L : List A4) (k : Int) (ys : List Value) (w : World) (hL : 0 < L.length) (hL2 : L.length ≤ 1048576) (h0 : 0 ≤ k) (h1 : k + szL L ≤ 16777216) (hown : w.ownsRow base 28 4 (.slice (some ⟨g, 0, none⟩) L.length cap) L.length ys) (hv : VO w (mkL k L) lo hi ys) :
    Calls Try.prog 86 #[.slice (some ⟨g, 0, none⟩) L.length cap, .int .i64 k] w fun e w' => e = .returned (.int .i64 (k + szL L)) ∧ w' = w := by
  go_enter Try.func86, Try.ntmps86
  go_wp2
  go_loopw [1, 5] (fun q i wr => ∃ m : Nat, m ≤ L.length ∧ i = .int .i64 m ∧ q = .int .i64 (k + szL (L.take m)) ∧ wr = w) (fun _ i _ => L.length - (intOf i).toNat)
  case atStart => exact ⟨0, Nat.zero_le _, rfl, by simp [szL], rfl⟩
  case round =>
    obtain ⟨m, hm, rfl, rfl, rfl⟩ := hrel
    by_cases hlt : m < L.length
    · have hsp : mkL k L = mkL k (L.take m) ++ mkL (k + szL (L.take m)) (L.drop m) := by rw [← mkL_app, List.take_append_drop]
      rw [hsp, List.drop_eq_getElem_cons hlt] at hv
      clear hsp
      obtain ⟨mid, ya, yb, rfl, VA, VB⟩ := hv.split
      have HT := szL_take hlt
      have hle := szL_take_le L (m + 1)
      have hnn := szL_nonneg (L.take m)
      rw [HT] at hle
      replace HT : Hid (szL (L.take (m + 1)) = szL (L.take m) + sz4 (L[m])) := HT
      generalize L[m] = x at *
      obtain ⟨kk, HKK⟩ : ∃ kk, Hid (k + szL (L.take m) = kk) := ⟨_, rfl⟩
      have hkk0 : 0 ≤ kk := by rw [← HKK.out]; omega
      have hkk1 : kk + sz4 x ≤ 16777216 := by rw [← HKK.out]; omega
      rw [HKK.out]
      rw [HKK.out] at VB
      obtain ⟨mid2, p0, p1, p2, p3, q0, q1, q2, q3, yc, rfl, hmid, FT, VC⟩ := VB
      have hya : ya.length = m * 4 := by rw [VA.len, mkL_len, List.length_take]; omega
      have c0 := own_at hown hya 0 _ rfl
      have c1 := own_at hown hya 1 _ rfl
      have c2 := own_at hown hya 2 _ rfl
      have c3 := own_at hown hya 3 _ rfl
      simp only [mk4, marks_length] at c0 c1 c2 c3 FT
      rw [Nat.add_zero] at c0
      obtain ⟨s0, t0, s1, t1, s2, t2, s3, t3, ⟨f0a, f0b, F0⟩, ⟨f1a, f1b, F1⟩, ⟨f2a, f2b, F2⟩, ⟨f3a, f3b, F3⟩, d01, d02, d03, d12, d13, d23⟩ := FT
      have hsz : sz4 x = 2 * (x.1.length : Int) + 2 * (x.2.1.length : Int) + 2 * (x.2.2.1.length : Int) + 2 * (x.2.2.2.length : Int) := rfl
      have hmi : (m : Int) < (L.length : Int) := by omega
      have hm0' : (0 : Int) ≤ (m : Int) := by omega
      replace hsz : Hid (sz4 x = 2 * (x.1.length : Int) + 2 * (x.2.1.length : Int) + 2 * (x.2.2.1.length : Int) + 2 * (x.2.2.2.length : Int)) := hsz
      rw [hsz.out] at hkk1
      have hq : Hid (kk + 2 * (x.1.length : Int) + 2 * (x.2.1.length : Int) + 2 * (x.2.2.1.length : Int) + 2 * (x.2.2.2.length : Int) = k + szL (L.take (m + 1))) := by show _ = _; rw [HT.out, ← Int.add_assoc, HKK.out, hsz.out]; omega
      clear VA VC hown HT HKK hsz hnn hle h1 d01 d02 d03 d12 d13 d23
      go_wp2_with fail
      refine (heldPairS_any s0 t0 _ x.1.length q0 kk _ (by omega) (by omega) (by omega) (by exact F0)).mono ?_
      rintro e u0 ⟨rfl, rfl⟩
      have g0 : ¬ ((kk + 2 * (x.1.length : Int)) < 0) := by omega
      go_wp2_with fail
      refine (heldPairS_any s1 t1 _ x.2.1.length q1 (kk + 2 * x.1.length) _ (by omega) (by omega) (by omega) (by exact F1)).mono ?_
      rintro e u1 ⟨rfl, rfl⟩
      have g1 : ¬ ((kk + 2 * (x.1.length : Int) + 2 * (x.2.1.length : Int)) < 0) := by omega
      go_wp2_with fail
      refine (heldPairS_any s2 t2 _ x.2.2.1.length q2 (kk + 2 * x.1.length + 2 * x.2.1.length) _ (by omega) (by omega) (by omega) (by exact F2)).mono ?_
      rintro e u2 ⟨rfl, rfl⟩
      have g2 : ¬ ((kk + 2 * (x.1.length : Int) + 2 * (x.2.1.length : Int) + 2 * (x.2.2.1.length : Int)) < 0) := by omega
      go_wp2_with fail
      refine (heldPairS_any s3 t3 _ x.2.2.2.length q3 (kk + 2 * x.1.length + 2 * x.2.1.length + 2 * x.2.2.1.length) _ (by omega) (by omega) (by omega) (by exact F3)).mono ?_
      rintro e u3 ⟨rfl, rfl⟩
      have g3 : ¬ ((kk + 2 * (x.1.length : Int) + 2 * (x.2.1.length : Int) + 2 * (x.2.2.1.length : Int) + 2 * (x.2.2.2.length : Int)) < 0) := by omega
      go_wp2
      go_roundw
      case rel => exact ⟨m + 1, by omega, by go_num, by rw [← hq.out], trivial⟩
      case measure => simp [intOf]; omega
    · obtain rfl : m = L.length := by omega
      have hge : ¬ ((L.length : Int) < (L.length : Int)) := by omega
      go_wp2
      go_ret
      exact ⟨rfl, rfl⟩

set_option maxRecDepth 20000 in
set_option maxHeartbeats 4000000 in
theorem eqAsnS_vs (lo hi lo' hi' base base' : Nat) (v v' : Value) (L : List A4) (xs ys : List Value) (w : World) (hL : L.length ≤ 1048576) (hl : ∀ x ∈ L, x.1.length ≤ 1048576 ∧ x.2.1.length ≤ 1048576 ∧ x.2.2.1.length ≤ 1048576 ∧ x.2.2.2.length ≤ 1048576)
    (o1 : w.ownsRow base 28 4 v L.length xs) (V1 : VS w lo hi L xs) (z1 : hi ≤ w.heap.size) (o2 : w.ownsRow base' 28 4 v' L.length ys) (V2 : VS w lo' hi' L ys) (z2 : hi' ≤ w.heap.size) :
    Calls Try.prog 84 #[v, v'] w fun e w' => e = .returned (.bool true) ∧ Below w.heap.size w w' := by
  obtain ⟨a, cap, rfl⟩ := owns_form o1
  obtain ⟨a', cap', rfl⟩ := owns_form o2
  go_enter Try.func84, Try.ntmps84
  go_wp2
  go_loopw [5] (fun i wr => ∃ m : Nat, m ≤ L.length ∧ i = .int .i64 m ∧ Below w.heap.size w wr) (fun i _ => L.length - (intOf i).toNat)
  case atStart => exact ⟨0, Nat.zero_le _, rfl, Below.refl _ _⟩
  case round =>
    obtain ⟨m, hm, rfl, hB⟩ := hrel
    by_cases hlt : m < L.length
    · have hx : L[m]? = some (L[m]) := List.getElem?_eq_getElem hlt
      have hbd := hl _ (List.getElem_mem hlt)
      generalize L[m] = x at *
      obtain ⟨ya, yb, p0, p1, p2, p3, q0, q1, q2, q3, rfl, ha, S1⟩ := V1.at m x hx
      obtain ⟨yc, yd, u0, u1, u2, u3, t0, t1, t2, t3, rfl, hc, S2⟩ := V2.at m x hx
      obtain ⟨g, rfl⟩ : ∃ g, a = some ⟨g, 0, none⟩ := by
        rcases o1.2 with ⟨e1, -⟩ | ⟨g, c, cur, e1, -⟩
        · injection e1 with e1 e2 e3; omega
        · injection e1 with e1; exact ⟨g, e1⟩
      obtain ⟨g', rfl⟩ : ∃ g, a' = some ⟨g, 0, none⟩ := by
        rcases o2.2 with ⟨e1, -⟩ | ⟨g, c, cur, e1, -⟩
        · injection e1 with e1 e2 e3; omega
        · injection e1 with e1; exact ⟨g, e1⟩
      replace S1 := S1.below hB z1; replace S2 := S2.below hB z2
      have k1 := owns_belowA o1 hB; have k2 := owns_belowA o2 hB
      have c0 := own_at k1 ha 0 _ rfl; have e0 := own_at k2 hc 0 _ rfl
      have c1 := own_at k1 ha 1 _ rfl; have e1 := own_at k2 hc 1 _ rfl
      have c2 := own_at k1 ha 2 _ rfl; have e2 := own_at k2 hc 2 _ rfl
      have c3 := own_at k1 ha 3 _ rfl; have e3 := own_at k2 hc 3 _ rfl
      rw [Nat.add_zero] at c0 e0
      clear k1 k2 o1 o2 V1 V2
      have hmi : (m : Int) < (L.length : Int) := by omega
      have hm0' : (0 : Int) ≤ (m : Int) := by omega
      go_upto_region 6 with fail
      go_cut [26] (fun v6 wz => v6 = .bool false ∧ Below wr.heap.size wr wz)
      case first =>
        go_region_with (first
          | (go_at_call 43; refine (eqAsn_rows _ _ _ _ _ _ _ _ _ _ _ _ _ _ _ _ _ _ _ _ x.1 x.2.1 x.2.2.1 x.2.2.2 _ hbd.1 hbd.2.1 hbd.2.2.1 hbd.2.2.2 ?_ ?_ ?_ ?_ ?_ ?_ ?_ ?_ rfl rfl rfl rfl).mono ?_; exact S1.1.row; exact S1.2.1.row; exact S1.2.2.1.row; exact S1.2.2.2.row; exact S2.1.row; exact S2.2.1.row; exact S2.2.2.1.row; exact S2.2.2.2.row; rintro e w7 ⟨rfl, hb7⟩))
        all_goals
          go_wp2_with fail
          go_meet
          exact ⟨rfl, (Below.refl _ _).drew.trans hb7⟩
      case rest =>
        obtain ⟨rfl, hb⟩ := hcut
        go_wp2
        go_roundw
        case rel => exact ⟨m + 1, by omega, by go_num, hB.trans (hb.mono hB.size)⟩
        case measure => simp [intOf]; omega
    · obtain rfl : m = L.length := by omega
      have hge : ¬ ((L.length : Int) < (L.length : Int)) := by omega
      go_wp2
      go_ret
      exact ⟨rfl, hB⟩

end Go.Proofs.Ytphchdjbhbmnbaa
