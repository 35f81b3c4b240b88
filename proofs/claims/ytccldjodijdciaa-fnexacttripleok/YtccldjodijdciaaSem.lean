/-
  What is asked of commands, as plain functions: when a command is as it has to be, how many there are. No statement is proved here.
-/
import Derived.Test.YtccldjodijdciaaTr
import Derived.Test.YtccldjodijdciaaPlain
namespace Go.Proofs.Ytccldjodijdciaa

def isVar (t : Int) : Bool := decide (1 ≤ t ∧ t ≤ 5)
def isVal (t : Int) : Bool := decide (0 ≤ t ∧ t ≤ 5)
def invN (c : Cm) : Nat := c.l0.length + c.l1.length + c.l2.length + c.l3.length
def bareB (c : Cm) : Bool := !c.q && (decide (invN c = 0) && (decide (c.A.length = 0) && decide (c.B.length = 0)))
def roomB (c : Cm) : Bool := decide (c.l0.length ≤ 4) && (decide (c.l1.length ≤ 4) && decide (c.l2.length + c.l3.length ≤ 3))
def invB (c : Cm) : Bool := plainV c.l0 c.l1 c.l2 c.l3 && roomB c
/-- The fields of a command, but those in A and B. -/
def fOk (c : Cm) : Bool :=
  if c.k = 0 ∨ c.k = 2 then bareB c && (isVar c.x && isVal c.y)
  else if c.k = 1 then bareB c && (isVar c.x && isVar c.y)
  else if c.k = 3 ∨ c.k = 4 then bareB c && (isVar c.x && decide (c.y = 0))
  else if c.k = 5 then isVal c.x && (isVal c.y && decide (invN c = 0))
  else if c.k = 6 then isVal c.x && (isVal c.y && (invB c && decide (c.B.length = 0)))
  else false

mutual
/-- A command, d deep. -/
def Cm.ok (d : Nat) : Cm → Bool
  | .mk k x y q l0 l1 l2 l3 A B => decide (d ≤ 3) && (fOk (.mk k x y q l0 l1 l2 l3 A B) && ((decide (A.length ≤ 20) && oks (d + 1) A) && (decide (B.length ≤ 20) && oks (d + 1) B)))
def oks (d : Nat) : List Cm → Bool
  | [] => true
  | c :: l => c.ok d && oks d l
end
def okS (d : Nat) (l : List Cm) : Bool := decide (l.length ≤ 20) && oks d l

theorem Cm.ok_eq (c : Cm) (d : Nat) : c.ok d = (decide (d ≤ 3) && (fOk c && (okS (d + 1) c.A && okS (d + 1) c.B))) := by
  cases c with
  | mk k x y q l0 l1 l2 l3 A B => simp only [Cm.ok, okS, Cm.A, Cm.B]; rfl
theorem oks_all (d : Nat) (l : List Cm) : oks d l = l.all fun c => c.ok d := by
  induction l with
  | nil => simp [oks]
  | cons c l ih => simp [oks, ih]

mutual
def Cm.size : Cm → Nat
  | .mk _ _ _ _ _ _ _ _ A B => 1 + sizes A + sizes B
def sizes : List Cm → Nat
  | [] => 0
  | c :: l => c.size + sizes l
end
theorem Cm.size_eq (c : Cm) : c.size = 1 + sizes c.A + sizes c.B := by
  cases c with
  | mk k x y q l0 l1 l2 l3 A B => simp [Cm.size, Cm.A, Cm.B]
theorem sizes_nil : sizes [] = 0 := by simp [sizes]
theorem sizes_cons (c : Cm) (l : List Cm) : sizes (c :: l) = c.size + sizes l := by simp [sizes]
theorem sizes_append (l r : List Cm) : sizes (l ++ r) = sizes l + sizes r := by
  induction l with
  | nil => simp [sizes_nil]
  | cons c l ih => rw [List.cons_append, sizes_cons, sizes_cons, ih]; omega
theorem sizes_take_succ {l : List Cm} {k : Nat} (hk : k < l.length) : sizes (l.take (k + 1)) = sizes (l.take k) + (l.getD k Cm.zero).size := by
  rw [List.take_succ_eq_append_getElem hk, sizes_append, sizes_cons, sizes_nil, List.getD_eq_getElem?_getD, List.getElem?_eq_getElem hk]
  simp
theorem sizes_take_drop (l : List Cm) (k : Nat) : sizes (l.take k) + sizes (l.drop k) = sizes l := by
  rw [← sizes_append, List.take_append_drop]
theorem len_le_sizes (l : List Cm) : l.length ≤ sizes l := by
  induction l with
  | nil => simp
  | cons c l ih => rw [sizes_cons, List.length_cons]; have := c.size_eq; omega
/-- No more commands than szCmdS takes. -/
theorem sizes_le_cnts : ∀ l : List Cm, sizes l ≤ cnts l := by
  refine Cm.ind fun l ih => ?_
  induction l with
  | nil => simp [sizes_nil]
  | cons c l ihl =>
    rw [sizes_cons, cnts_cons, c.size_eq, c.cnt_eq]
    have h1 := (ih c (List.mem_cons_self ..)).1
    have h2 := (ih c (List.mem_cons_self ..)).2
    have h3 := ihl fun c hc => ih c (List.mem_cons_of_mem _ hc)
    omega

theorem getD_mem {l : List Cm} {k : Nat} (hk : k < l.length) : l.getD k Cm.zero ∈ l := mem_getD hk

theorem oks_false {d : Nat} {l : List Cm} {k : Nat} (hk : k < l.length) (h : (l.getD k Cm.zero).ok d = false) : oks d l = false := by
  rw [oks_all, List.all_eq_false]
  exact ⟨_, mem_getD hk, by rw [h]; decide⟩
theorem oks_true {d : Nat} {l : List Cm} (h : ∀ i, i < l.length → (l.getD i Cm.zero).ok d = true) : oks d l = true := by
  rw [oks_all, List.all_eq_true]
  intro c hc
  obtain ⟨i, hi, rfl⟩ := List.getElem_of_mem hc
  have := h i hi
  rw [List.getD_eq_getElem?_getD, List.getElem?_eq_getElem hi] at this
  simpa using this

/-- How many there are, or -1. -/
def cntV (d : Nat) (l : List Cm) : Int := if okS d l = true ∧ sizes l ≤ 20 then (sizes l : Int) else -1

theorem cntV_neg {d : Nat} {l : List Cm} : cntV d l < 0 ↔ ¬ (okS d l = true ∧ sizes l ≤ 20) := by
  unfold cntV; split <;> simp_all
theorem cntV_pos {d : Nat} {l : List Cm} (h : 0 ≤ cntV d l) : okS d l = true ∧ sizes l ≤ 20 ∧ cntV d l = sizes l := by
  unfold cntV at h ⊢; split at h <;> simp_all
theorem cntV_nil (d : Nat) : cntV d [] = 0 := by simp [cntV, okS, oks, sizes_nil]

/-- What the rounds of counting have: the number so far, and all so far as they have to be. -/
structure Cnt (d : Nat) (l : List Cm) (k n : Nat) : Prop where
  hk : k ≤ l.length
  hn : n + k = l.length + sizes (l.take k)
  hl : n ≤ 20
  all : ∀ i, i < k → fOk (l.getD i Cm.zero) = true ∧ okS (d + 1) (l.getD i Cm.zero).A = true ∧ okS (d + 1) (l.getD i Cm.zero).B = true

theorem Cnt.start {d : Nat} {l : List Cm} (h : l.length ≤ 20) : Cnt d l 0 l.length := ⟨Nat.zero_le _, by simp [sizes_nil], h, fun i hi => by omega⟩

theorem Cnt.bad {d : Nat} {l : List Cm} {k : Nat} (hk : k < l.length) (h : fOk (l.getD k Cm.zero) = false ∨ okS (d + 1) (l.getD k Cm.zero).A = false ∨ okS (d + 1) (l.getD k Cm.zero).B = false) : cntV d l = -1 := by
  have : (l.getD k Cm.zero).ok d = false := by
    rw [Cm.ok_eq]
    rcases h with h | h | h <;> rw [h] <;> simp
  unfold cntV okS
  rw [oks_false hk this]
  simp

theorem sizes_mem {l : List Cm} {k : Nat} (hk : k < l.length) : sizes (l.take k) + (l.getD k Cm.zero).size + (l.length - (k + 1)) ≤ sizes l := by
  have h1 := sizes_take_drop l (k + 1)
  have h2 := sizes_take_succ hk
  have h3 := len_le_sizes (l.drop (k + 1))
  rw [List.length_drop] at h3
  omega

/-- Too many behind A. -/
theorem Cnt.overA {d : Nat} {l : List Cm} {k n : Nat} (h : Cnt d l k n) (hk : k < l.length) (ho : 20 < n + sizes (l.getD k Cm.zero).A) : cntV d l = -1 := by
  have h1 := sizes_mem hk
  have h2 := (l.getD k Cm.zero).size_eq
  have h3 := h.hn
  unfold cntV
  rw [if_neg (by omega)]
theorem Cnt.overB {d : Nat} {l : List Cm} {k n : Nat} (h : Cnt d l k n) (hk : k < l.length) (ho : 20 < n + sizes (l.getD k Cm.zero).A + sizes (l.getD k Cm.zero).B) : cntV d l = -1 := by
  have h1 := sizes_mem hk
  have h2 := (l.getD k Cm.zero).size_eq
  have h3 := h.hn
  unfold cntV
  rw [if_neg (by omega)]
theorem Cnt.step {d : Nat} {l : List Cm} {k n : Nat} (h : Cnt d l k n) (hk : k < l.length) (hf : fOk (l.getD k Cm.zero) = true) (hA : okS (d + 1) (l.getD k Cm.zero).A = true) (hB : okS (d + 1) (l.getD k Cm.zero).B = true)
    (ho : n + sizes (l.getD k Cm.zero).A + sizes (l.getD k Cm.zero).B ≤ 20) : Cnt d l (k + 1) (n + sizes (l.getD k Cm.zero).A + sizes (l.getD k Cm.zero).B) := by
  have h2 := (l.getD k Cm.zero).size_eq
  have h3 := h.hn
  have h4 := sizes_take_succ hk
  refine ⟨hk, by omega, ho, fun i hi => ?_⟩
  by_cases e : i = k
  · subst e; exact ⟨hf, hA, hB⟩
  · exact h.all i (by omega)
theorem Cnt.done {d : Nat} {l : List Cm} {n : Nat} (h : Cnt d l l.length n) (hd : l = [] ∨ d ≤ 3) (h20 : l.length ≤ 20) : cntV d l = n := by
  have h3 := h.hn
  rw [List.take_length] at h3
  have hok : oks d l = true := oks_true fun i hi => by
    rw [Cm.ok_eq]
    obtain ⟨h1, h2, h4⟩ := h.all i hi
    rcases hd with rfl | hd
    · simp at hi
    · rw [h1, h2, h4]; simp [hd]
  have h5 := h.hl
  unfold cntV okS
  rw [hok, if_pos ⟨by simp [h20], by omega⟩]
  omega
theorem Cnt.deep {d : Nat} {l : List Cm} (h0 : 0 < l.length) (hd : 3 < d) : cntV d l = -1 := by
  have : (l.getD 0 Cm.zero).ok d = false := by rw [Cm.ok_eq]; simp; omega
  unfold cntV okS
  rw [oks_false h0 this]
  simp
theorem Cnt.long {d : Nat} {l : List Cm} (h0 : 20 < l.length) : cntV d l = -1 := by
  unfold cntV okS
  rw [if_neg (by simp; omega)]

end Go.Proofs.Ytccldjodijdciaa
