/-
  Rows of pairs as lists of cells, and the contracts of impl.behind and impl.copyOf: what is appended to a row of the call's own.
-/
import Derived.Test.YtfplloabkceaoaaMark
import Derived.Laws.AppendOwnNone
namespace Go.Proofs.Ytfplloabkceaoaa
open Go.RowKit

/-- The cells of a row of pairs. -/
def pc (l : List (Int × Int)) : List Value := l.flatMap fun p => [Value.int .i64 p.1, Value.int .i64 p.2]

theorem pc_length (l : List (Int × Int)) : (pc l).length = l.length * 2 := by
  unfold pc
  induction l with
  | nil => rfl
  | cons p l ih => rw [List.flatMap_cons, List.length_append, ih]; simp; omega

theorem pc_append (l m : List (Int × Int)) : pc (l ++ m) = pc l ++ pc m := by simp [pc]

theorem pc_one {l : List (Int × Int)} : ∀ u ∈ pc l, u.oneCell' = true := by
  intro u hu
  unfold pc at hu
  obtain ⟨p, _, hp⟩ := List.mem_flatMap.1 hu
  simp at hp
  rcases hp with rfl | rfl <;> rfl

theorem pc_get (l : List (Int × Int)) : ∀ i, i < l.length → (pc l)[i * 2]? = some (.int .i64 (l.getD i (0, 0)).1) ∧ (pc l)[i * 2 + 1]? = some (.int .i64 (l.getD i (0, 0)).2) := by
  induction l with
  | nil => intro i hi; simp at hi
  | cons p l ih =>
    intro i hi
    have e : pc (p :: l) = Value.int .i64 p.1 :: Value.int .i64 p.2 :: pc l := rfl
    rw [e]
    match i with
    | 0 => exact ⟨rfl, rfl⟩
    | i + 1 =>
      have := ih i (by simpa using hi)
      rw [show (i + 1) * 2 = i * 2 + 1 + 1 by omega]
      simpa using this

theorem pc_inv {l : List (Int × Int)} {j : Nat} {u : Value} (h : (pc l)[j]? = some u) : ∃ i, i < l.length ∧ ((j = i * 2 ∧ u = .int .i64 (l.getD i (0, 0)).1) ∨ (j = i * 2 + 1 ∧ u = .int .i64 (l.getD i (0, 0)).2)) := by
  have hj : j < (pc l).length := by
    by_cases e : j < (pc l).length
    · exact e
    · rw [List.getElem?_eq_none (by omega)] at h; cases h
  rw [pc_length] at hj
  refine ⟨j / 2, by omega, ?_⟩
  have g := pc_get l (j / 2) (by omega)
  by_cases e : j % 2 = 0
  · left
    rw [show j / 2 * 2 = j by omega] at g
    rw [g.1] at h
    exact ⟨by omega, by injection h with h; exact h.symm⟩
  · right
    rw [show j / 2 * 2 + 1 = j by omega] at g
    rw [g.2] at h
    exact ⟨by omega, by injection h with h; exact h.symm⟩

theorem addr_add (b o j : Nat) : (⟨b, o, none⟩ : Addr).add j = ⟨b, o + j, none⟩ := by unfold Addr.add; split <;> simp_all

/-- What the source of an append wants to know. -/
theorem Own.news {w : World} {b n : Nat} {l : List (Int × Int)} (h : Own w b n l l.length) : ∀ j u, (pc l)[j]? = some u → w.cell? ((⟨b, 0, none⟩ : Addr).add j) = some u := by
  intro j u hu
  rw [addr_add, Nat.zero_add]
  obtain ⟨i, hi, ⟨rfl, rfl⟩ | ⟨rfl, rfl⟩⟩ := pc_inv hu
  · exact (h.2.2 i hi).1
  · exact (h.2.2 i hi).2

theorem Own.ofOwns {w : World} {base n g cap : Nat} {l : List (Int × Int)} (h : w.ownsRow base 69 2 (.slice (some ⟨g, 0, none⟩) n cap) n (pc l)) : l.length = n ∧ base ≤ g ∧ Own w g n l n := by
  have hl : l.length = n := by have := h.1; rw [pc_length] at this; omega
  obtain ⟨hb, hlt⟩ := h.lt g rfl
  refine ⟨hl, hb, hlt, fun j hj => ⟨?_, h.frozenAt j⟩, fun i hi => ?_⟩
  · rw [h.cellAt j hj]
    exact ⟨(pc l)[j]'(by rw [pc_length]; omega), by rw [List.getElem?_eq_getElem]⟩
  · rw [h.cellAt _ (by omega), h.cellAt _ (by omega)]
    exact pc_get l i (by omega)

theorem RowIn.ofOwns {w : World} {base n : Nat} {v : Value} {l : List (Int × Int)} (h : w.ownsRow base 69 2 v n (pc l)) : ∃ a cap, v = .slice a n cap ∧ RowIn w base w.heap.size a n l := by
  rcases h.2 with ⟨rfl, rfl⟩ | ⟨g, cap, cur, rfl, _⟩
  · exact ⟨none, 0, rfl, by have := h.1; rw [pc_length] at this; omega, .inl rfl⟩
  · obtain ⟨hl, hb, ho⟩ := Own.ofOwns h
    exact ⟨_, _, rfl, RowIn.ofOwn ho hl hb ho.1⟩

theorem Below.grows {w w' : World} (h : Below w.heap.size w w') : w.grownBy w' none := ⟨h.os, h.tape, h.output, h.size, fun k hk _ => h.block k hk⟩

theorem owns_below {w w' : World} {base n : Nat} {v : Value} {xs : List Value} (h : w.ownsRow base 69 2 v n xs) (hb : Below w.heap.size w w') : w'.ownsRow base 69 2 v n xs :=
  h.kept (Below.grows hb) (by cases e : v.ownBlock <;> simp)

theorem Try.i57 : ∃ i, Try.prog.info? 69 = some i ∧ i.zero = some (.agg #[.int .i64 0, .int .i64 0]) ∧ i.size = 2 ∧ i.bytes = 16 := by
  have h : (Try.prog.info? 69).map (fun i => (i.zero, i.size, i.bytes)) = some (some (.agg #[.int .i64 0, .int .i64 0]), 2, 16) := by kernel_rfl
  cases hi : Try.prog.info? 69 with
  | none => rw [hi] at h; simp at h
  | some i =>
    rw [hi] at h
    simp only [Option.map_some, Option.some.injEq, Prod.mk.injEq] at h
    exact ⟨i, rfl, h.1, h.2.1, h.2.2⟩

set_option maxHeartbeats 400000 in
theorem copy_behind (b cap : Nat) (l : List (Int × Int)) (w : World) (hn : l.length ≤ 1048576) (ho : Own w b l.length l l.length) :
    Calls Try.prog 139 #[.slice none 0 0, .slice (some ⟨b, 0, none⟩) l.length cap] w fun e w' => ∃ a c, e = .returned (.slice a l.length c) ∧ RowIn w' w.heap.size w'.heap.size a l.length l ∧ Below w.heap.size w w' := by
  obtain ⟨i0, hi, hz0, hz1, hz2⟩ := Try.i57
  have hnil := World.ownsRow_nil w w.heap.size 69 2
  go_enter Try.func139, Try.ntmps139
  go_wp2_with (first
    | (at_builtin; refine wpList_append_own_none _ rfl _ _ 26 rfl w.heap.size 69 i0 2 Try.underlying26 hi _ _ _ rfl hnil rfl ?_)
    | (at_builtin; refine wpList_append_own _ rfl _ _ 26 rfl w.heap.size 69 i0 (.agg #[.int .i64 0, .int .i64 0]) 2 16 Try.underlying26 hi hz0 hz1 hz2 rfl (by decide) _ _ _ rfl hnil ⟨b, 0, none⟩ l.length cap (pc l) rfl (pc_length l) ?c1 pc_one ?c3 ?c4 ?c5 ?_))
  case c1 => exact ho.news
  case c3 => unfold maxLen; omega
  case c4 => omega
  case c5 => exact Nat.le_refl _
  intro v1 w1 hown hg hiff
  obtain ⟨a, c, rfl, hr⟩ := RowIn.ofOwns hown
  have hb := (Below.refl w.heap.size w).grown hg (Nat.le_refl _) (by intro k hk; simp [Value.ownBlock] at hk)
  clear hiff hown hg hnil
  go_wp2
  go_ret
  exact ⟨a, c, rfl, hr, hb⟩

set_option maxHeartbeats 400000 in
theorem copyOf_any (b cap : Nat) (l : List (Int × Int)) (w : World) (hn : l.length ≤ 1048576) (ho : Own w b l.length l l.length) :
    Calls Try.prog 144 #[.slice (some ⟨b, 0, none⟩) l.length cap] w fun e w' => ∃ a c, e = .returned (.slice a l.length c) ∧ RowIn w' w.heap.size w'.heap.size a l.length l ∧ Below w.heap.size w w' := by
  go_enter Try.func144, Try.ntmps144
  go_wp2_with fail
  refine (copy_behind b cap l w hn ho).mono ?_
  rintro e w1 ⟨a, c, rfl, hr, hb⟩
  go_wp2
  go_ret
  exact ⟨a, c, rfl, hr, hb⟩

end Go.Proofs.Ytfplloabkceaoaa
