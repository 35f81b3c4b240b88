/-
  The contract of impl.everyOf: all commands, one behind the other.
-/
import Derived.Test.YtanihlecenmdcaaCTs
import Derived.Test.YtanihlecenmdcaaCTop
import Derived.Outline
import Derived.Laws.AppendOwnNone
import Derived.Deep.AppendLies
namespace Go.Proofs.Ytanihlecenmdcaa
open Go.RowKit

mutual
/-- A command and all that is in it. -/
def Cm.flat : Cm → List Cm
  | .mk k x y q l0 l1 l2 l3 A B => .mk k x y q l0 l1 l2 l3 A B :: (flats A ++ flats B)
def flats : List Cm → List Cm
  | [] => []
  | c :: l => c.flat ++ flats l
end
theorem Cm.flat_eq (c : Cm) : c.flat = c :: (flats c.A ++ flats c.B) := by
  cases c with
  | mk k x y q l0 l1 l2 l3 A B => simp [Cm.flat, Cm.A, Cm.B]
theorem flats_nil : flats [] = [] := by simp [flats]
theorem flats_cons (c : Cm) (l : List Cm) : flats (c :: l) = c.flat ++ flats l := by simp [flats]
theorem flats_append (l r : List Cm) : flats (l ++ r) = flats l ++ flats r := by
  induction l with
  | nil => simp [flats_nil]
  | cons c l ih => rw [List.cons_append, flats_cons, flats_cons, ih, List.append_assoc]
theorem flats_take_succ {l : List Cm} {k : Nat} (hk : k < l.length) : flats (l.take (k + 1)) = flats (l.take k) ++ [l.getD k Cm.zero] ++ flats (l.getD k Cm.zero).A ++ flats (l.getD k Cm.zero).B := by
  rw [List.take_succ_eq_append_getElem hk, flats_append, flats_cons, flats_nil, List.getD_eq_getElem?_getD, List.getElem?_eq_getElem hk]
  simp [Cm.flat_eq]
theorem flats_length : ∀ l : List Cm, (flats l).length = sizes l := by
  refine Cm.ind fun l ih => ?_
  induction l with
  | nil => simp [flats_nil, sizes_nil]
  | cons c l ihl =>
    rw [flats_cons, sizes_cons, List.length_append, c.flat_eq, c.size_eq, ihl fun d hd => ih d (List.mem_cons_of_mem _ hd)]
    have h1 := (ih c (List.mem_cons_self ..)).1
    have h2 := (ih c (List.mem_cons_self ..)).2
    simp [h1, h2]; omega
theorem flats_take_le (l : List Cm) (k : Nat) : (flats (l.take k)).length ≤ cnts l := by
  rw [flats_length]
  have h1 := sizes_take_drop l k
  have h2 := sizes_le_cnts l
  omega

/-- The cells that read as the list of commands. -/
def CL (w : World) (lo hi : Nat) : List Value → List Cm → Prop
  | xs, [] => xs = []
  | xs, c :: l => ∃ (a0 a1 a2 a3 aA aB : Option Addr) (c0 c1 c2 c3 cA cB : Nat) (ys : List Value), xs = [.int .i64 c.k, .int .i64 c.x, .int .i64 c.y, .bool c.q, .slice a0 c.l0.length c0, .slice a1 c.l1.length c1, .slice a2 c.l2.length c2, .slice a3 c.l3.length c3, .slice aA c.A.length cA, .slice aB c.B.length cB] ++ ys ∧ CVal w lo hi c a0 a1 a2 a3 aA aB ∧ CL w lo hi ys l

theorem CL.length {w : World} {lo hi : Nat} : ∀ {l : List Cm} {xs : List Value}, CL w lo hi xs l → xs.length = l.length * 10 := by
  intro l
  induction l with
  | nil => intro xs h; unfold CL at h; rw [h]; rfl
  | cons c l ih => intro xs h; unfold CL at h; obtain ⟨_, _, _, _, _, _, _, _, _, _, _, _, ys, rfl, _, h2⟩ := h; have := ih h2; simp; omega
theorem CL.append {w : World} {lo hi : Nat} {r : List Cm} {zs : List Value} (hr : CL w lo hi zs r) : ∀ {l : List Cm} {xs : List Value}, CL w lo hi xs l → CL w lo hi (xs ++ zs) (l ++ r) := by
  intro l
  induction l with
  | nil => intro xs h; unfold CL at h; subst h; simpa using hr
  | cons c l ih =>
    intro xs h
    unfold CL at h
    obtain ⟨a0, a1, a2, a3, aA, aB, c0, c1, c2, c3, cA, cB, ys, rfl, h1, h2⟩ := h
    rw [List.cons_append]
    unfold CL
    exact ⟨a0, a1, a2, a3, aA, aB, c0, c1, c2, c3, cA, cB, ys ++ zs, by simp, h1, ih h2⟩
theorem CL.one {w : World} {lo hi : Nat} {c : Cm} (a0 a1 a2 a3 aA aB : Option Addr) (c0 c1 c2 c3 cA cB : Nat) (h : CVal w lo hi c a0 a1 a2 a3 aA aB) : CL w lo hi [.int .i64 c.k, .int .i64 c.x, .int .i64 c.y, .bool c.q, .slice a0 c.l0.length c0, .slice a1 c.l1.length c1, .slice a2 c.l2.length c2, .slice a3 c.l3.length c3, .slice aA c.A.length cA, .slice aB c.B.length cB] [c] := by
  unfold CL
  exact ⟨a0, a1, a2, a3, aA, aB, c0, c1, c2, c3, cA, cB, [], by simp, h, by unfold CL; rfl⟩
theorem CL.below {w w' : World} {lo hi B : Nat} (hb : Below B w w') (hB : hi ≤ B) : ∀ {l : List Cm} {xs : List Value}, CL w lo hi xs l → CL w' lo hi xs l := by
  intro l
  induction l with
  | nil => intro xs h; unfold CL at h ⊢; exact h
  | cons c l ih =>
    intro xs h
    unfold CL at h ⊢
    obtain ⟨a0, a1, a2, a3, aA, aB, c0, c1, c2, c3, cA, cB, ys, rfl, h1, h2⟩ := h
    exact ⟨a0, a1, a2, a3, aA, aB, c0, c1, c2, c3, cA, cB, ys, rfl, h1.below hb hB, ih h2⟩
theorem CL.oneCell {w : World} {lo hi : Nat} : ∀ {l : List Cm} {xs : List Value}, CL w lo hi xs l → ∀ u ∈ xs, u.oneCell' = true := by
  intro l
  induction l with
  | nil => intro xs h u hu; unfold CL at h; subst h; simp at hu
  | cons c l ih =>
    intro xs h u hu
    unfold CL at h
    obtain ⟨a0, a1, a2, a3, aA, aB, c0, c1, c2, c3, cA, cB, ys, rfl, h1, h2⟩ := h
    rcases List.mem_append.1 hu with hu | hu
    · simp only [List.mem_cons, List.not_mem_nil, or_false] at hu
      rcases hu with rfl | rfl | rfl | rfl | rfl | rfl | rfl | rfl | rfl | rfl <;> rfl
    · exact ih h2 u hu

theorem CsAt.cells {w : World} {lo hi b : Nat} : ∀ {l : List Cm} {o : Nat}, CsAt w lo hi b o l → ∃ xs, CL w lo hi xs l ∧ ∀ j u, xs[j]? = some u → w.cell? ⟨b, o + j, none⟩ = some u := by
  intro l
  induction l with
  | nil => intro o _; exact ⟨[], by unfold CL; rfl, fun j u h => by simp at h⟩
  | cons c l ih =>
    intro o h
    unfold CsAt at h
    obtain ⟨a0, a1, a2, a3, aA, aB, c0, c1, c2, c3, cA, cB, X, V⟩ := h.1.out
    obtain ⟨ys, h1, h2⟩ := ih h.2
    refine ⟨[.int .i64 c.k, .int .i64 c.x, .int .i64 c.y, .bool c.q, .slice a0 c.l0.length c0, .slice a1 c.l1.length c1, .slice a2 c.l2.length c2, .slice a3 c.l3.length c3, .slice aA c.A.length cA, .slice aB c.B.length cB] ++ ys, by unfold CL; exact ⟨a0, a1, a2, a3, aA, aB, c0, c1, c2, c3, cA, cB, ys, rfl, V, h1⟩, ?_⟩
    intro j u hj
    by_cases hlt : j < 10
    · rw [List.getElem?_append_left (by simpa using hlt)] at hj
      match j, hlt with
      | 0, _ => simp at hj; subst hj; simpa using X.e0
      | 1, _ => simp at hj; subst hj; exact X.e1
      | 2, _ => simp at hj; subst hj; exact X.e2
      | 3, _ => simp at hj; subst hj; exact X.e3
      | 4, _ => simp at hj; subst hj; exact X.e4
      | 5, _ => simp at hj; subst hj; exact X.e5
      | 6, _ => simp at hj; subst hj; exact X.e6
      | 7, _ => simp at hj; subst hj; exact X.e7
      | 8, _ => simp at hj; subst hj; exact X.e8
      | 9, _ => simp at hj; subst hj; exact X.e9
    · rw [List.getElem?_append_right (by simp; omega)] at hj
      have := h2 (j - 10) u (by simpa using hj)
      rw [show o + 10 + (j - 10) = o + j by omega] at this
      exact this
theorem CL.at {w : World} {lo hi b : Nat} : ∀ {l : List Cm} {xs : List Value} {o : Nat}, CL w lo hi xs l → (∀ j u, xs[j]? = some u → w.cell? ⟨b, o + j, none⟩ = some u) → CsAt w lo hi b o l := by
  intro l
  induction l with
  | nil => intro xs o _ _; unfold CsAt; trivial
  | cons c l ih =>
    intro xs o h hc
    unfold CL at h
    obtain ⟨a0, a1, a2, a3, aA, aB, c0, c1, c2, c3, cA, cB, ys, rfl, h1, h2⟩ := h
    unfold CsAt
    refine ⟨CAt.mk ⟨by simpa using hc 0 _ rfl, hc 1 _ rfl, hc 2 _ rfl, hc 3 _ rfl, hc 4 _ rfl, hc 5 _ rfl, hc 6 _ rfl, hc 7 _ rfl, hc 8 _ rfl, hc 9 _ rfl⟩ h1, ih h2 fun j u hj => ?_⟩
    have := hc (j + 10) u (by rw [List.getElem?_append_right (by simp)]; simpa using hj)
    rw [show o + (j + 10) = o + 10 + j by omega] at this
    exact this

/-- A slice of commands in whatever block, what they lead to in blocks from lo to hi. -/
def RC (w : World) (lo hi : Nat) (a : Option Addr) (l : List Cm) : Prop := l = [] ∨ ∃ b o, a = some ⟨b, o, none⟩ ∧ b < w.heap.size ∧ CsAt w lo hi b o l
theorem RC.below {w w' : World} {lo hi B : Nat} {a : Option Addr} {l : List Cm} (h : RC w lo hi a l) (hb : Below B w w') (hB : w.heap.size ≤ B) (hh : hi ≤ B) : RC w' lo hi a l := by
  rcases h with h | ⟨b, o, rfl, hlt, hc⟩
  · exact .inl h
  · exact .inr ⟨b, o, rfl, Nat.lt_of_lt_of_le hlt hb.size, hc.keep (Eqv.of_below hb hh) (Nat.le_refl _) (Nat.le_refl _) _ _ _ fun j => hb.cell (p := ⟨b, j, none⟩) (Nat.lt_of_lt_of_le hlt hB)⟩
theorem RC.ofOwns {w : World} {base n lo hi : Nat} {v : Value} {xs : List Value} {l : List Cm} (h : w.ownsRow base 59 10 v n xs) (hx : CL w lo hi xs l) : ∃ a cap, v = .slice a n cap ∧ l.length = n ∧ (a = none → cap = 0) ∧ RC w lo hi a l := by
  have hl : l.length = n := by have := h.1; rw [hx.length] at this; omega
  rcases h.2 with ⟨rfl, rfl⟩ | ⟨g, cap, cur, rfl, _⟩
  · exact ⟨none, 0, rfl, hl, fun _ => rfl, .inl (List.eq_nil_of_length_eq_zero hl)⟩
  · refine ⟨_, cap, rfl, hl, (fun e => by cases e), .inr ⟨g, 0, rfl, (h.lt g rfl).2, hx.at fun j u hj => ?_⟩⟩
    rw [Nat.zero_add]
    have hj' : j < n * 10 := by
      rw [List.getElem?_eq_some_iff] at hj
      obtain ⟨h1, _⟩ := hj
      have := hx.length; omega
    rw [h.cellAt j hj', hj]

theorem Try.iC : ∃ i, Try.prog.info? 59 = some i ∧ i.zero = some (.agg #[.int .i64 0, .int .i64 0, .int .i64 0, .bool false, .slice none 0 0, .slice none 0 0, .slice none 0 0, .slice none 0 0, .slice none 0 0, .slice none 0 0]) ∧ i.size = 10 ∧ i.bytes = 176 := by
  have h := Try.info59
  cases hi : Try.prog.info? 59 with
  | none => rw [hi] at h; simp at h
  | some i =>
    rw [hi] at h
    simp only [Option.map_some, Option.some.injEq, Prod.mk.injEq] at h
    exact ⟨i, rfl, h.1, h.2.1, h.2.2⟩

theorem addr_plus (b o j : Nat) : (⟨b, o, none⟩ : Addr).add j = ⟨b, o + j, none⟩ := by unfold Addr.add; split <;> simp_all

theorem wp_append_at {o : Oper} {a : Act} {w : World} {K : Act → World → Prop} {Q : Exit → Act → World → Prop} (s x : Operand) (t : TypeId)
    (ho : o.op = .call { callee := .builtin .append, args := #[s, x], argTypes := #[t, t] })
    (base : Nat) (e : TypeId) (i : TypeInfo) (z : Value) (size bytes : Nat) (ht : Try.prog.underlying t = some (.slice e)) (hi : Try.prog.info? e = some i) (hz : i.zero = some z)
    (hsize : i.size = size) (hby : i.bytes = bytes) (hzs : z.cells.size = size) (hsz : 0 < size)
    (v : Value) (n : Nat) (xs : List Value) (hs : a.eval s = v) (hown : w.ownsRow base e size v n xs)
    (ad : Addr) (m c : Nat) (news : List Value) (hx : a.eval x = .slice (some ad) m c) (hl : news.length = m * size) (hnews : ∀ j u, news[j]? = some u → w.cell? (ad.add j) = some u) (h1 : ∀ u ∈ news, u.oneCell' = true)
    (h63 : n + m ≤ maxLen) (hbytes : (n + m) * bytes ≤ 140737488355328) (hbase : base ≤ w.heap.size)
    (h : ∀ v' w', w'.ownsRow base e size v' (n + m) (xs ++ news) → w.grownBy w' v.ownBlock → (v'.ownBlock = v.ownBlock ∨ v'.ownBlock = some w.heap.size) → K (a.put o.dst v') w') : o.wp Try.prog a w K Q := by
  obtain ⟨v', w', hr, h2, h3, _, h5⟩ := run_append_own_at (P := Try.prog) w base t o.type e i z size bytes ht hi hz hsize hby hzs hsz v n xs hown ad m c news hl hnews h1 h63 hbytes hbase
  unfold Oper.wp execOp
  simp only [ho, resolve, invoke, builtin, Sem.run_bind, Sem.run_pure, Result.andThen_ok, List.map_toArray, List.map_cons, List.map_nil, hs, hx, hr]
  exact h v' w' h2 h3 h5

theorem wpList_append_cmds {ops : Array Oper} {rest : List Oper} {o : Oper} {a : Act} {w : World} {Q : Exit → Act → World → Prop} (hgd : o.guard = none) (s x : Operand)
    (ho : o.op = Op.call { callee := Callee.builtin Builtin.append, args := #[s, x], argTypes := #[57, 57] })
    (base lo hi : Nat) (v : Value) (n : Nat) (xs : List Value) (l : List Cm) (hs : a.eval s = v) (hown : w.ownsRow base 59 10 v n xs) (hcl : CL w lo hi xs l)
    (a2 : Option Addr) (m c2 : Nat) (k : List Cm) (hk : k.length = m) (hx : a.eval x = .slice a2 m c2) (hr : RC w lo hi a2 k) (hc : a2 = none → c2 = 0)
    (hn : n + m ≤ 4194304) (hbase : base ≤ w.heap.size) (hhi : hi ≤ base)
    (h : ∀ v' w' ys, w'.ownsRow base 59 10 v' (n + m) ys → CL w' lo hi ys (l ++ k) → w.grownBy w' v.ownBlock → (v'.ownBlock = v.ownBlock ∨ v'.ownBlock = some w.heap.size) → wpList Try.prog ops Q rest (a.put o.dst v') w') : wpList Try.prog ops Q (o :: rest) a w := by
  obtain ⟨i0, hi0, hz0, hz1, hz2⟩ := Try.iC
  subst hk
  cases a2 with
  | none =>
    have hk0 : k = [] := by
      rcases hr with h | ⟨_, _, h, _⟩
      · exact h
      · cases h
    subst hk0
    rw [hc rfl] at hx
    refine wpList_append_own_none hgd s x 57 ho base 59 i0 10 Try.underlying57 hi0 v n xs hs hown hx ?_
    exact h v w xs hown (by simpa using hcl) ⟨rfl, rfl, rfl, Nat.le_refl _, fun _ _ _ => rfl⟩ (.inl rfl)
  | some p =>
    have hnews : ∃ zs, CL w lo hi zs k ∧ ∀ j u, zs[j]? = some u → w.cell? (p.add j) = some u := by
      rcases hr with rfl | ⟨b, o', e, _, hcs⟩
      · exact ⟨[], by unfold CL; rfl, fun j u h => by simp at h⟩
      · injection e with e; subst e
        obtain ⟨zs, h1, h2⟩ := hcs.cells
        exact ⟨zs, h1, fun j u hj => by rw [addr_plus]; exact h2 j u hj⟩
    obtain ⟨zs, hz, hzc⟩ := hnews
    refine wpList_plain hgd fun _ hK => wp_append_at s x 57 ho base 59 i0 (.agg #[.int .i64 0, .int .i64 0, .int .i64 0, .bool false, .slice none 0 0, .slice none 0 0, .slice none 0 0, .slice none 0 0, .slice none 0 0, .slice none 0 0]) 10 176 Try.underlying57 hi0 hz0 hz1 hz2 rfl (by decide) v n xs hs hown p k.length c2 zs hx hz.length hzc hz.oneCell (by unfold maxLen; omega) (by omega) hbase fun v' w' h1 h2 h3 => hK _ _ ?_
    have hb := (Below.refl base w).grown h2 hbase (by intro q hq; exact (hown.lt q hq).1)
    exact h v' w' _ h1 ((hz.below hb hhi).append (hcl.below hb hhi)) h2 h3

theorem B10.grown {w w' : World} {b : Nat} {row : Option Nat} {v0 v1 v2 v3 v4 v5 v6 v7 v8 v9 : Value} (h : B10 w b v0 v1 v2 v3 v4 v5 v6 v7 v8 v9) (hg : w.grownBy w' row) (hne : row ≠ some b) : B10 w' b v0 v1 v2 v3 v4 v5 v6 v7 v8 v9 := by
  have hk := hg.block b h.lt (fun e => hne e.symm)
  have c : ∀ j, w'.cell? ⟨b, j, none⟩ = w.cell? ⟨b, j, none⟩ := fun j => World.cell?_of_block (w := w) hk
  have f : ∀ j, w'.frozen? ⟨b, j, none⟩ = w.frozen? ⟨b, j, none⟩ := fun j => World.frozen?_of_block (w := w) hk
  exact ⟨Nat.lt_of_lt_of_le h.lt hg.size, (c _).trans h.c0, (c _).trans h.c1, (c _).trans h.c2, (c _).trans h.c3, (c _).trans h.c4, (c _).trans h.c5, (c _).trans h.c6, (c _).trans h.c7, (c _).trans h.c8, (c _).trans h.c9, (f _).trans h.f0, (f _).trans h.f1, (f _).trans h.f2, (f _).trans h.f3, (f _).trans h.f4, (f _).trans h.f5, (f _).trans h.f6, (f _).trans h.f7, (f _).trans h.f8, (f _).trans h.f9⟩

end Go.Proofs.Ytanihlecenmdcaa
