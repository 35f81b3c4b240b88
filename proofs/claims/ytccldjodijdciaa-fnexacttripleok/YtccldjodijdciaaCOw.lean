/-
  Commands in memory of the call's own: each list in a block of its own, one behind the other.
-/
import Derived.Test.YtccldjodijdciaaTr
import Derived.Test.YtccldjodijdciaaCSz
import Derived.Test.YtccldjodijdciaaB10
namespace Go.Proofs.Ytccldjodijdciaa
open Go.RowKit

/-- The world w' holds what w does in the blocks from lo to hi, and as free to be written. -/
def Eqf (lo hi : Nat) (w w' : World) : Prop := w.heap.size ≤ w'.heap.size ∧ ∀ b, lo ≤ b → b < hi → (∀ o, w'.cell? ⟨b, o, none⟩ = w.cell? ⟨b, o, none⟩) ∧ ∀ o, w'.frozen? ⟨b, o, none⟩ = w.frozen? ⟨b, o, none⟩
theorem Eqf.of_below {lo hi B : Nat} {w w' : World} (h : Below B w w') (hB : hi ≤ B) : Eqf lo hi w w' := ⟨h.size, fun b _ h2 => ⟨fun o => h.cell (p := ⟨b, o, none⟩) (Nat.lt_of_lt_of_le h2 hB), fun o => h.frozen (p := ⟨b, o, none⟩) (Nat.lt_of_lt_of_le h2 hB)⟩⟩
theorem Eqf.refl (lo hi : Nat) (w : World) : Eqf lo hi w w := ⟨Nat.le_refl _, fun _ _ _ => ⟨fun _ => rfl, fun _ => rfl⟩⟩
theorem Eqf.trans {lo hi : Nat} {a b c : World} (h : Eqf lo hi a b) (k : Eqf lo hi b c) : Eqf lo hi a c := ⟨Nat.le_trans h.1 k.1, fun p h1 h2 => ⟨fun o => ((k.2 p h1 h2).1 o).trans ((h.2 p h1 h2).1 o), fun o => ((k.2 p h1 h2).2 o).trans ((h.2 p h1 h2).2 o)⟩⟩
theorem Eqf.set {lo hi : Nat} {w w' : World} (h : Eqf lo hi w w') (b i : Nat) (u : Value) (hb : b < lo ∨ hi ≤ b) : Eqf lo hi w (w'.setCell ⟨b, i, none⟩ u) := ⟨by simpa using h.1, fun p h1 h2 => ⟨fun o => by
  rw [World.cell?_setCell_other _ _ _ _ (by intro e; injection e with e _; omega)]
  exact (h.2 p h1 h2).1 o, fun o => by simpa using (h.2 p h1 h2).2 o⟩⟩
theorem Eqf.mono {lo hi lo' hi' : Nat} {w w' : World} (h : Eqf lo hi w w') (h1 : lo ≤ lo') (h2 : hi' ≤ hi) : Eqf lo' hi' w w' := ⟨h.1, fun b g1 g2 => h.2 b (by omega) (by omega)⟩
theorem Eqf.eqv {lo hi : Nat} {w w' : World} (h : Eqf lo hi w w') : Eqv lo hi w w' := fun b o h1 h2 => (h.2 b h1 h2).1 o

theorem Own.eqf {w w' : World} {lo hi b n k : Nat} {l : List (Int × Int)} (h : Own w b n l k) (hk : Eqf lo hi w w') (h1 : lo ≤ b) (h2 : b < hi) : Own w' b n l k := by
  obtain ⟨g1, g2, g3⟩ := h
  have e := (hk.2 b h1 h2).1
  have f := (hk.2 b h1 h2).2
  refine ⟨Nat.lt_of_lt_of_le g1 hk.1, fun j hj => ?_, fun i hi => ?_⟩
  · rw [e, f]; exact g2 j hj
  · rw [e, e]; exact g3 i hi

/-- The ten cells at (b, o), the slices at the heads of blocks, none of the cells frozen. -/
structure O10 (w : World) (b o : Nat) (c : Cm) (b0 b1 b2 b3 bA bB : Nat) : Prop where
  e0 : w.cell? ⟨b, o, none⟩ = some (.int .i64 c.k)
  e1 : w.cell? ⟨b, o + 1, none⟩ = some (.int .i64 c.x)
  e2 : w.cell? ⟨b, o + 2, none⟩ = some (.int .i64 c.y)
  e3 : w.cell? ⟨b, o + 3, none⟩ = some (.bool c.q)
  e4 : w.cell? ⟨b, o + 4, none⟩ = some (.slice (some ⟨b0, 0, none⟩) c.l0.length c.l0.length)
  e5 : w.cell? ⟨b, o + 5, none⟩ = some (.slice (some ⟨b1, 0, none⟩) c.l1.length c.l1.length)
  e6 : w.cell? ⟨b, o + 6, none⟩ = some (.slice (some ⟨b2, 0, none⟩) c.l2.length c.l2.length)
  e7 : w.cell? ⟨b, o + 7, none⟩ = some (.slice (some ⟨b3, 0, none⟩) c.l3.length c.l3.length)
  e8 : w.cell? ⟨b, o + 8, none⟩ = some (.slice (some ⟨bA, 0, none⟩) c.A.length c.A.length)
  e9 : w.cell? ⟨b, o + 9, none⟩ = some (.slice (some ⟨bB, 0, none⟩) c.B.length c.B.length)
  fz : ∀ j, j < 10 → w.frozen? ⟨b, o + j, none⟩ = false

mutual
/-- A command of the call's own at (b, o); what it leads to lies in the blocks from lo to hi, one behind the other. -/
def OAt (w : World) (lo hi b o : Nat) : Cm → Prop
  | .mk k x y q l0 l1 l2 l3 A B => ∃ b0 b1 b2 b3 bA m bB, O10 w b o (.mk k x y q l0 l1 l2 l3 A B) b0 b1 b2 b3 bA bB ∧ (lo ≤ b0 ∧ b0 < b1 ∧ b1 < b2 ∧ b2 < b3 ∧ b3 < bA ∧ bA < m ∧ m ≤ bB ∧ bB < hi) ∧
      Own w b0 l0.length l0 l0.length ∧ Own w b1 l1.length l1 l1.length ∧ Own w b2 l2.length l2 l2.length ∧ Own w b3 l3.length l3 l3.length ∧ OsAt w (bA + 1) m bA 0 A ∧ OsAt w (bB + 1) hi bB 0 B
def OsAt (w : World) (lo hi b o : Nat) : List Cm → Prop
  | [] => lo ≤ hi
  | c :: l => ∃ m, lo ≤ m ∧ OAt w lo m b o c ∧ OsAt w m hi b (o + 10) l
end

/-- What a command of the call's own leads to. -/
structure OVal (w : World) (lo hi : Nat) (c : Cm) (b0 b1 b2 b3 bA m bB : Nat) : Prop where
  g0 : lo ≤ b0
  g1 : b0 < b1
  g2 : b1 < b2
  g3 : b2 < b3
  g4 : b3 < bA
  g5 : bA < m
  g6 : m ≤ bB
  g7 : bB < hi
  o0 : Own w b0 c.l0.length c.l0 c.l0.length
  o1 : Own w b1 c.l1.length c.l1 c.l1.length
  o2 : Own w b2 c.l2.length c.l2 c.l2.length
  o3 : Own w b3 c.l3.length c.l3 c.l3.length
  oA : OsAt w (bA + 1) m bA 0 c.A
  oB : OsAt w (bB + 1) hi bB 0 c.B

theorem OAt.out {w : World} {lo hi b o : Nat} {c : Cm} (h : OAt w lo hi b o c) : ∃ b0 b1 b2 b3 bA m bB, O10 w b o c b0 b1 b2 b3 bA bB ∧ OVal w lo hi c b0 b1 b2 b3 bA m bB := by
  cases c with
  | mk k x y q l0 l1 l2 l3 A B =>
    unfold OAt at h
    obtain ⟨b0, b1, b2, b3, bA, m, bB, h, ⟨g0, g1, g2, g3, g4, g5, g6, g7⟩, o0, o1, o2, o3, oA, oB⟩ := h
    exact ⟨b0, b1, b2, b3, bA, m, bB, h, ⟨g0, g1, g2, g3, g4, g5, g6, g7, o0, o1, o2, o3, oA, oB⟩⟩
theorem OAt.mk {w : World} {lo hi b o : Nat} {c : Cm} {b0 b1 b2 b3 bA m bB : Nat} (h : O10 w b o c b0 b1 b2 b3 bA bB) (v : OVal w lo hi c b0 b1 b2 b3 bA m bB) : OAt w lo hi b o c := by
  cases c with
  | mk k x y q l0 l1 l2 l3 A B =>
    unfold OAt
    exact ⟨b0, b1, b2, b3, bA, m, bB, h, ⟨v.g0, v.g1, v.g2, v.g3, v.g4, v.g5, v.g6, v.g7⟩, v.o0, v.o1, v.o2, v.o3, v.oA, v.oB⟩

theorem O10.keep {w w' : World} {b o : Nat} {c : Cm} {b0 b1 b2 b3 bA bB : Nat} (h : O10 w b o c b0 b1 b2 b3 bA bB) (hc : ∀ j, o ≤ j → j < o + 10 → w'.cell? ⟨b, j, none⟩ = w.cell? ⟨b, j, none⟩) (hf : ∀ j, o ≤ j → j < o + 10 → w'.frozen? ⟨b, j, none⟩ = w.frozen? ⟨b, j, none⟩) : O10 w' b o c b0 b1 b2 b3 bA bB :=
  ⟨(hc _ (by omega) (by omega)).trans h.e0, (hc _ (by omega) (by omega)).trans h.e1, (hc _ (by omega) (by omega)).trans h.e2, (hc _ (by omega) (by omega)).trans h.e3, (hc _ (by omega) (by omega)).trans h.e4, (hc _ (by omega) (by omega)).trans h.e5, (hc _ (by omega) (by omega)).trans h.e6, (hc _ (by omega) (by omega)).trans h.e7, (hc _ (by omega) (by omega)).trans h.e8, (hc _ (by omega) (by omega)).trans h.e9, fun j hj => (hf _ (by omega) (by omega)).trans (h.fz j hj)⟩

theorem OsAt.le {w : World} {hi b : Nat} : ∀ {l : List Cm} {lo o : Nat}, OsAt w lo hi b o l → lo ≤ hi := by
  intro l
  induction l with
  | nil => intro lo o h; unfold OsAt at h; exact h
  | cons c l ih => intro lo o h; unfold OsAt at h; obtain ⟨m, h1, _, h2⟩ := h; exact Nat.le_trans h1 (ih h2)

/-- From the boundaries between the commands to the list, and back. -/
theorem OsAt.of_fn {w : World} {hi b : Nat} : ∀ {l : List Cm} {lo o : Nat} (M : Nat → Nat), M 0 = lo → (∀ i, i < l.length → M i ≤ M (i + 1) ∧ OAt w (M i) (M (i + 1)) b (o + i * 10) (l.getD i Cm.zero)) → M l.length ≤ hi → OsAt w lo hi b o l := by
  intro l
  induction l with
  | nil => intro lo o M h0 _ h2; unfold OsAt; simpa [h0] using h2
  | cons c l ih =>
    intro lo o M h0 h1 h2
    unfold OsAt
    have h3 := h1 0 (by simp)
    refine ⟨M 1, by rw [← h0]; exact h3.1, by rw [← h0]; simpa using h3.2, ih (fun i => M (i + 1)) rfl (fun i hi' => ?_) (by simpa using h2)⟩
    have h4 := h1 (i + 1) (by simpa using hi')
    rw [show o + 10 + i * 10 = o + (i + 1) * 10 by omega]
    simpa using h4
theorem OsAt.to_fn {w : World} {hi b : Nat} : ∀ {l : List Cm} {lo o : Nat}, OsAt w lo hi b o l → ∃ M : Nat → Nat, M 0 = lo ∧ (∀ i, i < l.length → M i ≤ M (i + 1) ∧ OAt w (M i) (M (i + 1)) b (o + i * 10) (l.getD i Cm.zero)) ∧ M l.length ≤ hi := by
  intro l
  induction l with
  | nil => intro lo o h; unfold OsAt at h; exact ⟨fun _ => lo, rfl, fun i hi => by simp at hi, h⟩
  | cons c l ih =>
    intro lo o h
    unfold OsAt at h
    obtain ⟨m, h1, h2, h3⟩ := h
    obtain ⟨M, hM0, hM1, hM2⟩ := ih h3
    refine ⟨fun i => if i = 0 then lo else M (i - 1), by simp, fun i hi' => ?_, by simpa using hM2⟩
    cases i with
    | zero => simpa [hM0] using ⟨h1, h2⟩
    | succ i =>
      have h4 := hM1 i (by simpa using hi')
      rw [show o + (i + 1) * 10 = o + 10 + i * 10 by omega]
      simpa using h4

theorem OVal.keep_of {w w' : World} {lo hi : Nat} {c : Cm} {b0 b1 b2 b3 bA m bB : Nat} (v : OVal w lo hi c b0 b1 b2 b3 bA m bB) (hk : Eqf lo hi w w') (kA : OsAt w' (bA + 1) m bA 0 c.A) (kB : OsAt w' (bB + 1) hi bB 0 c.B) : OVal w' lo hi c b0 b1 b2 b3 bA m bB := by
  have h0 := v.g0; have h1 := v.g1; have h2 := v.g2; have h3 := v.g3; have h4 := v.g4; have h5 := v.g5; have h6 := v.g6; have h7 := v.g7
  exact ⟨h0, h1, h2, h3, h4, h5, h6, h7, v.o0.eqf hk (by omega) (by omega), v.o1.eqf hk (by omega) (by omega), v.o2.eqf hk (by omega) (by omega), v.o3.eqf hk (by omega) (by omega), kA, kB⟩

/-- What is in blocks that nobody writes stays. -/
theorem OsAt.keep {w w' : World} : ∀ (l : List Cm) (lo hi b o : Nat), OsAt w lo hi b o l → Eqf lo hi w w' → (∀ j, o ≤ j → j < o + l.length * 10 → w'.cell? ⟨b, j, none⟩ = w.cell? ⟨b, j, none⟩) → (∀ j, o ≤ j → j < o + l.length * 10 → w'.frozen? ⟨b, j, none⟩ = w.frozen? ⟨b, j, none⟩) → OsAt w' lo hi b o l := by
  refine Cm.ind fun l ih lo hi b o h hk hb hf => ?_
  obtain ⟨M, h0, h1, h2⟩ := h.to_fn
  have mono : ∀ i j, i ≤ j → j ≤ l.length → M i ≤ M j := by
    intro i j hij
    induction j with
    | zero => intro _; obtain rfl : i = 0 := by omega
              exact Nat.le_refl _
    | succ j ihj =>
      intro hj
      by_cases e : i = j + 1
      · subst e; exact Nat.le_refl _
      · exact Nat.le_trans (ihj (by omega) (by omega)) (h1 j (by omega)).1
  refine OsAt.of_fn M h0 (fun i hi' => ⟨(h1 i hi').1, ?_⟩) h2
  obtain ⟨b0, b1, b2, b3, bA, m, bB, X, V⟩ := (h1 i hi').2.out
  have g1 := mono 0 i (Nat.zero_le _) (by omega)
  have g2 := mono (i + 1) l.length (by omega) (Nat.le_refl _)
  have hk' : Eqf (M i) (M (i + 1)) w w' := hk.mono (by omega) (by omega)
  obtain ⟨iA, iB⟩ := ih _ (mem_getD hi')
  have v0 := V.g0; have v1 := V.g1; have v2 := V.g2; have v3 := V.g3; have v4 := V.g4; have v5 := V.g5; have v6 := V.g6; have v7 := V.g7
  have eA := hk'.2 bA (by omega) (by omega)
  have eB := hk'.2 bB (by omega) (by omega)
  exact OAt.mk (X.keep (fun j _ _ => hb j (by omega) (by omega)) (fun j _ _ => hf j (by omega) (by omega))) (V.keep_of hk' (iA _ _ _ _ V.oA (hk'.mono (by omega) (by omega)) (fun j _ _ => eA.1 j) (fun j _ _ => eA.2 j)) (iB _ _ _ _ V.oB (hk'.mono (by omega) (by omega)) (fun j _ _ => eB.1 j) (fun j _ _ => eB.2 j)))

theorem OVal.keep {w w' : World} {lo hi : Nat} {c : Cm} {b0 b1 b2 b3 bA m bB : Nat} (v : OVal w lo hi c b0 b1 b2 b3 bA m bB) (hk : Eqf lo hi w w') : OVal w' lo hi c b0 b1 b2 b3 bA m bB := by
  have v0 := v.g0; have v1 := v.g1; have v2 := v.g2; have v3 := v.g3; have v4 := v.g4; have v5 := v.g5; have v6 := v.g6; have v7 := v.g7
  have eA := hk.2 bA (by omega) (by omega)
  have eB := hk.2 bB (by omega) (by omega)
  exact v.keep_of hk (OsAt.keep _ _ _ _ _ v.oA (hk.mono (by omega) (by omega)) (fun j _ _ => eA.1 j) (fun j _ _ => eA.2 j)) (OsAt.keep _ _ _ _ _ v.oB (hk.mono (by omega) (by omega)) (fun j _ _ => eB.1 j) (fun j _ _ => eB.2 j))

theorem OAt.keep {w w' : World} {lo hi b o : Nat} {c : Cm} (h : OAt w lo hi b o c) (hk : Eqf lo hi w w') (hc : ∀ j, o ≤ j → j < o + 10 → w'.cell? ⟨b, j, none⟩ = w.cell? ⟨b, j, none⟩) (hf : ∀ j, o ≤ j → j < o + 10 → w'.frozen? ⟨b, j, none⟩ = w.frozen? ⟨b, j, none⟩) : OAt w' lo hi b o c := by
  obtain ⟨b0, b1, b2, b3, bA, m, bB, X, V⟩ := h.out
  exact OAt.mk (X.keep hc hf) (V.keep hk)

/-- A wider upper end. -/
theorem OsAt.wide {w : World} {hi hi' b : Nat} (hh : hi ≤ hi') : ∀ {l : List Cm} {lo o : Nat}, OsAt w lo hi b o l → OsAt w lo hi' b o l := by
  intro l
  induction l with
  | nil => intro lo o h; unfold OsAt at h ⊢; omega
  | cons c l ih => intro lo o h; unfold OsAt at h ⊢; obtain ⟨m, h1, h2, h3⟩ := h; exact ⟨m, h1, h2, ih h3⟩
theorem OVal.wide {w : World} {lo lo' hi hi' : Nat} {c : Cm} {b0 b1 b2 b3 bA m bB : Nat} (v : OVal w lo hi c b0 b1 b2 b3 bA m bB) (h1 : lo' ≤ lo) (h2 : hi ≤ hi') : OVal w lo' hi' c b0 b1 b2 b3 bA m bB :=
  ⟨Nat.le_trans h1 v.g0, v.g1, v.g2, v.g3, v.g4, v.g5, v.g6, Nat.lt_of_lt_of_le v.g7 h2, v.o0, v.o1, v.o2, v.o3, v.oA, v.oB.wide h2⟩

theorem OsAt.snoc {w : World} {hi m b : Nat} {c : Cm} : ∀ {l : List Cm} {lo o : Nat}, OsAt w lo m b o l → m ≤ hi → OAt w m hi b (o + l.length * 10) c → OsAt w lo hi b o (l ++ [c]) := by
  intro l
  induction l with
  | nil =>
    intro lo o h h1 h2
    unfold OsAt at h
    obtain ⟨b0, b1, b2, b3, bA, m', bB, X, V⟩ := h2.out
    simp only [List.nil_append]
    unfold OsAt
    refine ⟨hi, by omega, by simpa using OAt.mk X (V.wide h (Nat.le_refl _)), ?_⟩
    unfold OsAt
    exact Nat.le_refl _
  | cons d l ih =>
    intro lo o h h1 h2
    unfold OsAt at h
    obtain ⟨m', g1, g2, g3⟩ := h
    rw [List.cons_append]
    unfold OsAt
    refine ⟨m', g1, g2, ih g3 h1 ?_⟩
    rw [show o + 10 + l.length * 10 = o + (d :: l).length * 10 by simp; omega]
    exact h2

/-- What is of the call's own can be read. -/
theorem OsAt.reads {w : World} : ∀ (l : List Cm) (lo hi b o : Nat), cnts l ≤ 1048576 → OsAt w lo hi b o l → CsAt w lo hi b o l := by
  refine Cm.ind fun l ih lo hi b o hs h => ?_
  obtain ⟨M, h0, h1, h2⟩ := h.to_fn
  have mono : ∀ i j, i ≤ j → j ≤ l.length → M i ≤ M j := by
    intro i j hij
    induction j with
    | zero => intro _; obtain rfl : i = 0 := by omega
              exact Nat.le_refl _
    | succ j ihj =>
      intro hj
      by_cases e : i = j + 1
      · subst e; exact Nat.le_refl _
      · exact Nat.le_trans (ihj (by omega) (by omega)) (h1 j (by omega)).1
  refine CsAt.mk fun i hi' => ?_
  obtain ⟨b0, b1, b2, b3, bA, m, bB, X, V⟩ := (h1 i hi').2.out
  have g1 := mono 0 i (Nat.zero_le _) (by omega)
  have g2 := mono (i + 1) l.length (by omega) (Nat.le_refl _)
  obtain ⟨iA, iB⟩ := ih _ (mem_getD hi')
  have v0 := V.g0; have v1 := V.g1; have v2 := V.g2; have v3 := V.g3; have v4 := V.g4; have v5 := V.g5; have v6 := V.g6; have v7 := V.g7
  have hc := cnt_le_cnts hi'
  have F := Fit.of (c := l.getD i Cm.zero) (by omega)
  have z : (1048576 : Nat) ≤ maxLen := by decide
  have f0 := F.n0; have f1 := F.n1; have f2 := F.n2; have f3 := F.n3; have f4 := F.mA; have f5 := F.mB
  have eA := (iA _ _ _ _ F.nA V.oA).keep (Eqv.refl _ _ _) (show lo ≤ bA + 1 by omega) (show m ≤ hi by omega) _ _ _ (fun _ => rfl)
  have eB := (iB _ _ _ _ F.nB V.oB).keep (Eqv.refl _ _ _) (show lo ≤ bB + 1 by omega) (show M (i + 1) ≤ hi by omega) _ _ _ (fun _ => rfl)
  exact CAt.mk ⟨X.e0, X.e1, X.e2, X.e3, X.e4, X.e5, X.e6, X.e7, X.e8, X.e9⟩
    ⟨PIn.of_own V.o0 (by omega) (by omega) (by omega), PIn.of_own V.o1 (by omega) (by omega) (by omega), PIn.of_own V.o2 (by omega) (by omega) (by omega), PIn.of_own V.o3 (by omega) (by omega) (by omega),
      ⟨by omega, .inr ⟨bA, 0, rfl, by omega, by omega, eA⟩⟩, ⟨by omega, .inr ⟨bB, 0, rfl, by omega, by omega, eB⟩⟩⟩

theorem OVal.val {w : World} {lo hi : Nat} {c : Cm} {b0 b1 b2 b3 bA m bB : Nat} (V : OVal w lo hi c b0 b1 b2 b3 bA m bB) (hc : c.cnt ≤ 1048576) : CVal w lo hi c (some ⟨b0, 0, none⟩) (some ⟨b1, 0, none⟩) (some ⟨b2, 0, none⟩) (some ⟨b3, 0, none⟩) (some ⟨bA, 0, none⟩) (some ⟨bB, 0, none⟩) := by
  have F := Fit.of hc
  have z : (1048576 : Nat) ≤ maxLen := by decide
  have v0 := V.g0; have v1 := V.g1; have v2 := V.g2; have v3 := V.g3; have v4 := V.g4; have v5 := V.g5; have v6 := V.g6; have v7 := V.g7
  have f0 := F.n0; have f1 := F.n1; have f2 := F.n2; have f3 := F.n3; have f4 := F.mA; have f5 := F.mB
  have eA := (OsAt.reads _ _ _ _ _ F.nA V.oA).keep (Eqv.refl _ _ _) (show lo ≤ bA + 1 by omega) (show m ≤ hi by omega) _ _ _ (fun _ => rfl)
  have eB := (OsAt.reads _ _ _ _ _ F.nB V.oB).keep (Eqv.refl _ _ _) (show lo ≤ bB + 1 by omega) (show hi ≤ hi by omega) _ _ _ (fun _ => rfl)
  exact ⟨PIn.of_own V.o0 (by omega) (by omega) (by omega), PIn.of_own V.o1 (by omega) (by omega) (by omega), PIn.of_own V.o2 (by omega) (by omega) (by omega), PIn.of_own V.o3 (by omega) (by omega) (by omega),
      ⟨by omega, .inr ⟨bA, 0, rfl, by omega, by omega, eA⟩⟩, ⟨by omega, .inr ⟨bB, 0, rfl, by omega, by omega, eB⟩⟩⟩

end Go.Proofs.Ytccldjodijdciaa
