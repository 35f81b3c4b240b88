/-
  Commands as plain data; where a slice of commands in memory reads as a list of them; kept, opened, counted. No statement is proved here.
-/
import Derived.Test.YtccldjodijdciaaBase
namespace Go.Proofs.Ytccldjodijdciaa
open Go.RowKit

/-- A command as plain data. -/
inductive Cm where
  | mk (k x y : Int) (q : Bool) (l0 l1 l2 l3 : List (Int × Int)) (A B : List Cm)

namespace Cm
def k : Cm → Int | .mk k _ _ _ _ _ _ _ _ _ => k
def x : Cm → Int | .mk _ x _ _ _ _ _ _ _ _ => x
def y : Cm → Int | .mk _ _ y _ _ _ _ _ _ _ => y
def q : Cm → Bool | .mk _ _ _ q _ _ _ _ _ _ => q
def l0 : Cm → List (Int × Int) | .mk _ _ _ _ l _ _ _ _ _ => l
def l1 : Cm → List (Int × Int) | .mk _ _ _ _ _ l _ _ _ _ => l
def l2 : Cm → List (Int × Int) | .mk _ _ _ _ _ _ l _ _ _ => l
def l3 : Cm → List (Int × Int) | .mk _ _ _ _ _ _ _ l _ _ => l
def A : Cm → List Cm | .mk _ _ _ _ _ _ _ _ A _ => A
def B : Cm → List Cm | .mk _ _ _ _ _ _ _ _ _ B => B
end Cm

def Cm.zero : Cm := .mk 0 0 0 false [] [] [] [] [] []
instance : Inhabited Cm := ⟨Cm.zero⟩

/-- Induction on lists of commands: what holds of all A and B in it holds of it. -/
theorem Cm.ind {Q : List Cm → Prop} (h : ∀ l, (∀ c ∈ l, Q c.A ∧ Q c.B) → Q l) : ∀ l, Q l := by
  have key : ∀ n (l : List Cm), SizeOf.sizeOf l ≤ n → Q l := by
    intro n
    induction n with
    | zero => intro l hl; cases l <;> simp at hl
    | succ n ih =>
      intro l hl
      refine h l fun c hc => ?_
      have h1 := List.sizeOf_lt_of_mem hc
      cases c with
      | mk k x y q l0 l1 l2 l3 A B =>
        simp only [Cm.mk.sizeOf_spec] at h1
        exact ⟨ih A (by omega), ih B (by omega)⟩
  exact fun l => key _ l (Nat.le_refl _)

/-- A slice of pairs in a block from lo to hi. -/
def PIn (w : World) (lo hi : Nat) (a : Option Addr) (l : List (Int × Int)) : Prop :=
  l.length ≤ maxLen ∧ (l = [] ∨ ∃ b off, a = some ⟨b, off, none⟩ ∧ lo ≤ b ∧ b < hi ∧
    ∀ i, i < l.length → w.cell? ⟨b, off + i * 2, none⟩ = some (.int .i64 (l.getD i (0, 0)).1) ∧ w.cell? ⟨b, off + i * 2 + 1, none⟩ = some (.int .i64 (l.getD i (0, 0)).2))

/-- The world w' holds what w does in the blocks from lo to hi. -/
def Eqv (lo hi : Nat) (w w' : World) : Prop := ∀ b o, lo ≤ b → b < hi → w'.cell? ⟨b, o, none⟩ = w.cell? ⟨b, o, none⟩

theorem Eqv.of_below {lo hi B : Nat} {w w' : World} (h : Below B w w') (hB : hi ≤ B) : Eqv lo hi w w' := fun b o _ h2 => h.cell (p := ⟨b, o, none⟩) (Nat.lt_of_lt_of_le h2 hB)
theorem Eqv.refl (lo hi : Nat) (w : World) : Eqv lo hi w w := fun _ _ _ _ => rfl
theorem Eqv.trans {lo hi : Nat} {a b c : World} (h : Eqv lo hi a b) (k : Eqv lo hi b c) : Eqv lo hi a c := fun p o h1 h2 => (k p o h1 h2).trans (h p o h1 h2)
theorem Eqv.set {lo hi : Nat} {w w' : World} (h : Eqv lo hi w w') (b i : Nat) (u : Value) (hb : b < lo ∨ hi ≤ b) : Eqv lo hi w (w'.setCell ⟨b, i, none⟩ u) := fun p o h1 h2 => by
  rw [World.cell?_setCell_other _ _ _ _ (by intro e; injection e with e _; omega)]
  exact h p o h1 h2

theorem PIn.keep {w w' : World} {lo hi lo' hi' : Nat} {a : Option Addr} {l : List (Int × Int)} (h : PIn w lo hi a l) (hk : Eqv lo hi w w') (h1 : lo' ≤ lo) (h2 : hi ≤ hi') : PIn w' lo' hi' a l := by
  obtain ⟨hn, h⟩ := h
  refine ⟨hn, ?_⟩
  rcases h with h | ⟨b, off, rfl, hb1, hb2, hc⟩
  · exact .inl h
  · refine .inr ⟨b, off, rfl, by omega, by omega, fun i hi => ?_⟩
    rw [hk _ _ hb1 hb2, hk _ _ hb1 hb2]
    exact hc i hi

theorem PIn.row {w : World} {lo hi : Nat} {a : Option Addr} {l : List (Int × Int)} (h : PIn w lo hi a l) (hh : hi ≤ w.heap.size) : PRow w a l := by
  rcases h.2 with h | ⟨b, off, rfl, hb1, hb2, hc⟩
  · exact .inl h
  · exact .inr ⟨b, off, rfl, by omega, hc⟩

theorem PIn.of_row {w : World} {a : Option Addr} {l : List (Int × Int)} (h : PRow w a l) (hn : l.length ≤ maxLen) : PIn w 0 w.heap.size a l := by
  refine ⟨hn, ?_⟩
  rcases h with h | ⟨b, off, rfl, hb, hc⟩
  · exact .inl h
  · exact .inr ⟨b, off, rfl, Nat.zero_le _, hb, hc⟩

theorem PIn.of_own {w : World} {lo hi b n : Nat} {l : List (Int × Int)} (h : Own w b n l l.length) (h1 : lo ≤ b) (h2 : b < hi) (hn : l.length ≤ maxLen) : PIn w lo hi (some ⟨b, 0, none⟩) l := by
  refine ⟨hn, .inr ⟨b, 0, rfl, h1, h2, fun i hi => ?_⟩⟩
  have := h.2.2 i hi
  simpa using this

mutual
/-- The ten cells from (b, o) on read as a command; what it leads to lies in blocks from lo to hi. -/
def CAt (w : World) (lo hi b o : Nat) : Cm → Prop
  | .mk k x y q l0 l1 l2 l3 A B =>
    w.cell? ⟨b, o, none⟩ = some (.int .i64 k) ∧ w.cell? ⟨b, o + 1, none⟩ = some (.int .i64 x) ∧ w.cell? ⟨b, o + 2, none⟩ = some (.int .i64 y) ∧ w.cell? ⟨b, o + 3, none⟩ = some (.bool q) ∧
    (∃ a c, w.cell? ⟨b, o + 4, none⟩ = some (.slice a l0.length c) ∧ PIn w lo hi a l0) ∧
    (∃ a c, w.cell? ⟨b, o + 5, none⟩ = some (.slice a l1.length c) ∧ PIn w lo hi a l1) ∧
    (∃ a c, w.cell? ⟨b, o + 6, none⟩ = some (.slice a l2.length c) ∧ PIn w lo hi a l2) ∧
    (∃ a c, w.cell? ⟨b, o + 7, none⟩ = some (.slice a l3.length c) ∧ PIn w lo hi a l3) ∧
    (∃ a c, w.cell? ⟨b, o + 8, none⟩ = some (.slice a A.length c) ∧ A.length ≤ maxLen ∧ (A = [] ∨ ∃ b' o', a = some ⟨b', o', none⟩ ∧ lo ≤ b' ∧ b' < hi ∧ CsAt w lo hi b' o' A)) ∧
    (∃ a c, w.cell? ⟨b, o + 9, none⟩ = some (.slice a B.length c) ∧ B.length ≤ maxLen ∧ (B = [] ∨ ∃ b' o', a = some ⟨b', o', none⟩ ∧ lo ≤ b' ∧ b' < hi ∧ CsAt w lo hi b' o' B))
/-- From (b, o) on the list of commands lies, ten cells each. -/
def CsAt (w : World) (lo hi b o : Nat) : List Cm → Prop
  | [] => True
  | c :: l => CAt w lo hi b o c ∧ CsAt w lo hi b (o + 10) l
end

/-- A slice that begins at 'a' reads as the commands of l. -/
def CRow (w : World) (lo hi : Nat) (a : Option Addr) (l : List Cm) : Prop :=
  l.length ≤ maxLen ∧ (l = [] ∨ ∃ b o, a = some ⟨b, o, none⟩ ∧ lo ≤ b ∧ b < hi ∧ CsAt w lo hi b o l)

theorem CsAt.get {w : World} {lo hi b : Nat} : ∀ {l : List Cm} {o : Nat}, CsAt w lo hi b o l → ∀ i, i < l.length → CAt w lo hi b (o + i * 10) (l.getD i Cm.zero) := by
  intro l
  induction l with
  | nil => intro o _ i hi; simp at hi
  | cons c l ih =>
    intro o h i hi
    unfold CsAt at h
    cases i with
    | zero => simpa using h.1
    | succ i =>
      have := ih h.2 i (by simpa using hi)
      rw [show o + (i + 1) * 10 = o + 10 + i * 10 by omega]
      simpa using this

theorem CsAt.mk {w : World} {lo hi b : Nat} : ∀ {l : List Cm} {o : Nat}, (∀ i, i < l.length → CAt w lo hi b (o + i * 10) (l.getD i Cm.zero)) → CsAt w lo hi b o l := by
  intro l
  induction l with
  | nil => intro o _; unfold CsAt; trivial
  | cons c l ih =>
    intro o h
    unfold CsAt
    refine ⟨by simpa using h 0 (by simp), ih fun i hi => ?_⟩
    have := h (i + 1) (by simpa using hi)
    rw [show o + 10 + i * 10 = o + (i + 1) * 10 by omega]
    simpa using this

/-- What a list of commands reads as stays while the blocks that it leads to, and its own, hold what they held. -/
theorem CsAt.keep {w w' : World} {lo hi lo' hi' : Nat} (hk : Eqv lo hi w w') (h1 : lo' ≤ lo) (h2 : hi ≤ hi') : ∀ (l : List Cm) (b o : Nat), CsAt w lo hi b o l → (∀ j, w'.cell? ⟨b, j, none⟩ = w.cell? ⟨b, j, none⟩) → CsAt w' lo' hi' b o l := by
  refine Cm.ind fun l ih b o h hb => ?_
  refine CsAt.mk fun i hi' => ?_
  have hc := CsAt.get h i hi'
  have hm : l.getD i Cm.zero ∈ l := by
    rw [List.getD_eq_getElem?_getD, List.getElem?_eq_getElem hi']
    exact List.getElem_mem hi'
  have hi2 := ih _ hm
  clear ih h
  generalize l.getD i Cm.zero = c at hc hi2
  cases c with
  | mk k x y q l0 l1 l2 l3 A B =>
    unfold CAt at hc ⊢
    simp only [hb]
    obtain ⟨c0, c1, c2, c3, ⟨a4, n4, c4, p4⟩, ⟨a5, n5, c5, p5⟩, ⟨a6, n6, c6, p6⟩, ⟨a7, n7, c7, p7⟩, ⟨a8, n8, c8, m8, p8⟩, ⟨a9, n9, c9, m9, p9⟩⟩ := hc
    refine ⟨c0, c1, c2, c3, ⟨a4, n4, c4, p4.keep hk h1 h2⟩, ⟨a5, n5, c5, p5.keep hk h1 h2⟩, ⟨a6, n6, c6, p6.keep hk h1 h2⟩, ⟨a7, n7, c7, p7.keep hk h1 h2⟩, ⟨a8, n8, c8, m8, ?_⟩, ⟨a9, n9, c9, m9, ?_⟩⟩
    · rcases p8 with p8 | ⟨b', o', rfl, g1, g2, hh⟩
      · exact .inl p8
      · exact .inr ⟨b', o', rfl, by omega, by omega, hi2.1 b' o' hh fun j => hk _ _ g1 g2⟩
    · rcases p9 with p9 | ⟨b', o', rfl, g1, g2, hh⟩
      · exact .inl p9
      · exact .inr ⟨b', o', rfl, by omega, by omega, hi2.2 b' o' hh fun j => hk _ _ g1 g2⟩

theorem CRow.keep {w w' : World} {lo hi lo' hi' : Nat} {a : Option Addr} {l : List Cm} (h : CRow w lo hi a l) (hk : Eqv lo hi w w') (h1 : lo' ≤ lo) (h2 : hi ≤ hi') : CRow w' lo' hi' a l := by
  obtain ⟨hn, h⟩ := h
  refine ⟨hn, ?_⟩
  rcases h with h | ⟨b, o, rfl, g1, g2, hc⟩
  · exact .inl h
  · exact .inr ⟨b, o, rfl, by omega, by omega, hc.keep hk h1 h2 _ _ _ fun j => hk _ _ g1 g2⟩

theorem CRow.below {w w' : World} {lo hi B : Nat} {a : Option Addr} {l : List Cm} (h : CRow w lo hi a l) (hb : Below B w w') (hB : hi ≤ B) : CRow w' lo hi a l :=
  h.keep (Eqv.of_below hb hB) (Nat.le_refl _) (Nat.le_refl _)

theorem CRow.nil (w : World) (lo hi : Nat) (a : Option Addr) : CRow w lo hi a [] := ⟨Nat.zero_le _, .inl rfl⟩

/-- A command by value: its ten cells, and what they lead to. -/
structure CVal (w : World) (lo hi : Nat) (c : Cm) (a0 a1 a2 a3 aA aB : Option Addr) : Prop where
  p0 : PIn w lo hi a0 c.l0
  p1 : PIn w lo hi a1 c.l1
  p2 : PIn w lo hi a2 c.l2
  p3 : PIn w lo hi a3 c.l3
  rA : CRow w lo hi aA c.A
  rB : CRow w lo hi aB c.B

/-- The ten cells of a command. -/
def cmV (c : Cm) (a0 a1 a2 a3 aA aB : Option Addr) (c0 c1 c2 c3 cA cB : Nat) : Value :=
  .agg #[.int .i64 c.k, .int .i64 c.x, .int .i64 c.y, .bool c.q, .slice a0 c.l0.length c0, .slice a1 c.l1.length c1, .slice a2 c.l2.length c2, .slice a3 c.l3.length c3, .slice aA c.A.length cA, .slice aB c.B.length cB]

theorem CVal.keep {w w' : World} {lo hi lo' hi' : Nat} {c : Cm} {a0 a1 a2 a3 aA aB : Option Addr} (h : CVal w lo hi c a0 a1 a2 a3 aA aB) (hk : Eqv lo hi w w') (h1 : lo' ≤ lo) (h2 : hi ≤ hi') : CVal w' lo' hi' c a0 a1 a2 a3 aA aB :=
  ⟨h.p0.keep hk h1 h2, h.p1.keep hk h1 h2, h.p2.keep hk h1 h2, h.p3.keep hk h1 h2, h.rA.keep hk h1 h2, h.rB.keep hk h1 h2⟩

theorem CVal.below {w w' : World} {lo hi B : Nat} {c : Cm} {a0 a1 a2 a3 aA aB : Option Addr} (h : CVal w lo hi c a0 a1 a2 a3 aA aB) (hb : Below B w w') (hB : hi ≤ B) : CVal w' lo hi c a0 a1 a2 a3 aA aB :=
  h.keep (Eqv.of_below hb hB) (Nat.le_refl _) (Nat.le_refl _)

/-- The ten cells at (b, o), by name. -/
structure C10 (w : World) (b o : Nat) (c : Cm) (a0 a1 a2 a3 aA aB : Option Addr) (c0 c1 c2 c3 cA cB : Nat) : Prop where
  e0 : w.cell? ⟨b, o, none⟩ = some (.int .i64 c.k)
  e1 : w.cell? ⟨b, o + 1, none⟩ = some (.int .i64 c.x)
  e2 : w.cell? ⟨b, o + 2, none⟩ = some (.int .i64 c.y)
  e3 : w.cell? ⟨b, o + 3, none⟩ = some (.bool c.q)
  e4 : w.cell? ⟨b, o + 4, none⟩ = some (.slice a0 c.l0.length c0)
  e5 : w.cell? ⟨b, o + 5, none⟩ = some (.slice a1 c.l1.length c1)
  e6 : w.cell? ⟨b, o + 6, none⟩ = some (.slice a2 c.l2.length c2)
  e7 : w.cell? ⟨b, o + 7, none⟩ = some (.slice a3 c.l3.length c3)
  e8 : w.cell? ⟨b, o + 8, none⟩ = some (.slice aA c.A.length cA)
  e9 : w.cell? ⟨b, o + 9, none⟩ = some (.slice aB c.B.length cB)

theorem CAt.out {w : World} {lo hi b o : Nat} {c : Cm} (h : CAt w lo hi b o c) : ∃ a0 a1 a2 a3 aA aB c0 c1 c2 c3 cA cB, C10 w b o c a0 a1 a2 a3 aA aB c0 c1 c2 c3 cA cB ∧ CVal w lo hi c a0 a1 a2 a3 aA aB := by
  cases c with
  | mk k x y q l0 l1 l2 l3 A B =>
    unfold CAt at h
    obtain ⟨c0, c1, c2, c3, ⟨a4, n4, c4, p4⟩, ⟨a5, n5, c5, p5⟩, ⟨a6, n6, c6, p6⟩, ⟨a7, n7, c7, p7⟩, ⟨a8, n8, c8, m8, p8⟩, ⟨a9, n9, c9, m9, p9⟩⟩ := h
    exact ⟨a4, a5, a6, a7, a8, a9, n4, n5, n6, n7, n8, n9, ⟨c0, c1, c2, c3, c4, c5, c6, c7, c8, c9⟩, ⟨p4, p5, p6, p7, ⟨m8, p8⟩, ⟨m9, p9⟩⟩⟩

theorem CAt.mk {w : World} {lo hi b o : Nat} {c : Cm} {a0 a1 a2 a3 aA aB : Option Addr} {c0 c1 c2 c3 cA cB : Nat} (h : C10 w b o c a0 a1 a2 a3 aA aB c0 c1 c2 c3 cA cB) (v : CVal w lo hi c a0 a1 a2 a3 aA aB) : CAt w lo hi b o c := by
  cases c with
  | mk k x y q l0 l1 l2 l3 A B =>
    unfold CAt
    exact ⟨h.e0, h.e1, h.e2, h.e3, ⟨_, _, h.e4, v.p0⟩, ⟨_, _, h.e5, v.p1⟩, ⟨_, _, h.e6, v.p2⟩, ⟨_, _, h.e7, v.p3⟩, ⟨_, _, h.e8, v.rA.1, v.rA.2⟩, ⟨_, _, h.e9, v.rB.1, v.rB.2⟩⟩

theorem CAt.keep {w w' : World} {lo hi lo' hi' b o : Nat} {c : Cm} (h : CAt w lo hi b o c) (hk : Eqv lo hi w w') (h1 : lo' ≤ lo) (h2 : hi ≤ hi') (hb : ∀ j, o ≤ j → j < o + 10 → w'.cell? ⟨b, j, none⟩ = w.cell? ⟨b, j, none⟩) : CAt w' lo' hi' b o c := by
  obtain ⟨a0, a1, a2, a3, aA, aB, c0, c1, c2, c3, cA, cB, H, V⟩ := h.out
  refine CAt.mk (a0 := a0) (a1 := a1) (a2 := a2) (a3 := a3) (aA := aA) (aB := aB) (c0 := c0) (c1 := c1) (c2 := c2) (c3 := c3) (cA := cA) (cB := cB) ⟨?_, ?_, ?_, ?_, ?_, ?_, ?_, ?_, ?_, ?_⟩ (V.keep hk h1 h2)
  · rw [hb _ (by omega) (by omega)]; exact H.e0
  · rw [hb _ (by omega) (by omega)]; exact H.e1
  · rw [hb _ (by omega) (by omega)]; exact H.e2
  · rw [hb _ (by omega) (by omega)]; exact H.e3
  · rw [hb _ (by omega) (by omega)]; exact H.e4
  · rw [hb _ (by omega) (by omega)]; exact H.e5
  · rw [hb _ (by omega) (by omega)]; exact H.e6
  · rw [hb _ (by omega) (by omega)]; exact H.e7
  · rw [hb _ (by omega) (by omega)]; exact H.e8
  · rw [hb _ (by omega) (by omega)]; exact H.e9

theorem mem_getD {l : List Cm} {i : Nat} (hi : i < l.length) : l.getD i Cm.zero ∈ l := by
  rw [List.getD_eq_getElem?_getD, List.getElem?_eq_getElem hi]
  exact List.getElem_mem hi

mutual
/-- How much szCmd takes. -/
def Cm.cnt : Cm → Nat
  | .mk _ _ _ _ l0 l1 l2 l3 A B => l0.length + l1.length + l2.length + l3.length + cnts A + cnts B
/-- How much szCmdS takes. -/
def cnts : List Cm → Nat
  | [] => 0
  | c :: l => 1 + c.cnt + cnts l
end

theorem Cm.cnt_eq (c : Cm) : c.cnt = c.l0.length + c.l1.length + c.l2.length + c.l3.length + cnts c.A + cnts c.B := by
  cases c with
  | mk k x y q l0 l1 l2 l3 A B => simp [Cm.cnt, Cm.l0, Cm.l1, Cm.l2, Cm.l3, Cm.A, Cm.B]

theorem cnts_nil : cnts [] = 0 := by simp [cnts]
theorem cnts_cons (c : Cm) (l : List Cm) : cnts (c :: l) = 1 + c.cnt + cnts l := by simp [cnts]
theorem cnts_append (l r : List Cm) : cnts (l ++ r) = cnts l + cnts r := by
  induction l with
  | nil => simp [cnts_nil]
  | cons c l ih => rw [List.cons_append, cnts_cons, cnts_cons, ih]; omega
theorem len_le_cnts (l : List Cm) : l.length ≤ cnts l := by
  induction l with
  | nil => simp
  | cons c l ih => rw [cnts_cons, List.length_cons]; omega
/-- The first k of them. -/
theorem cnts_take_succ {l : List Cm} {k : Nat} (hk : k < l.length) : cnts (l.take (k + 1)) = cnts (l.take k) + 1 + (l.getD k Cm.zero).cnt := by
  rw [List.take_succ_eq_append_getElem hk, cnts_append, cnts_cons, cnts_nil, List.getD_eq_getElem?_getD, List.getElem?_eq_getElem hk]
  simp; omega
theorem cnts_take_le (l : List Cm) (k : Nat) : cnts (l.take k) ≤ cnts l := by
  have := cnts_append (l.take k) (l.drop k)
  rw [List.take_append_drop] at this; omega
theorem cnt_le_cnts {l : List Cm} {k : Nat} (hk : k < l.length) : (l.getD k Cm.zero).cnt + 1 ≤ cnts l := by
  have h1 := cnts_take_succ hk
  have h2 := cnts_take_le l (k + 1)
  omega
theorem len_take_le (l : List Cm) (k : Nat) (hk : k ≤ l.length) : k ≤ cnts (l.take k) := by
  have := len_le_cnts (l.take k)
  rw [List.length_take] at this; omega

/-- A command that is not too much. -/
structure Fit (c : Cm) : Prop where
  n0 : c.l0.length ≤ 1048576
  n1 : c.l1.length ≤ 1048576
  n2 : c.l2.length ≤ 1048576
  n3 : c.l3.length ≤ 1048576
  nA : cnts c.A ≤ 1048576
  nB : cnts c.B ≤ 1048576
  mA : c.A.length ≤ 1048576
  mB : c.B.length ≤ 1048576

theorem Fit.of {c : Cm} (h : c.cnt ≤ 1048576) : Fit c := by
  have h1 := c.cnt_eq
  have h2 := len_le_cnts c.A
  have h3 := len_le_cnts c.B
  constructor <;> omega

end Go.Proofs.Ytccldjodijdciaa
