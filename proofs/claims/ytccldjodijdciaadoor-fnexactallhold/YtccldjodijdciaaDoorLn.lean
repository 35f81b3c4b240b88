/-
  Rows of bytes, and lists of lines: how they are cut, how they lie, how one is put behind.
-/
import Derived.Test.YtccldjodijdciaaDoorChecked
import Derived.Test.YtccldjodijdciaaDoorDBase
import Derived.Laws.BytesArg
import Derived.Laws.MakeOwn
import Derived.Deep.AppendSrc
import Derived.Deep.AppendLies
import Derived.Deep.RegionWith
import Derived.Outline
namespace Go.Proofs.YtccldjodijdciaaDoor
open Go.RowKit

theorem i5 : ∃ i0, Tryd.prog.info? 5 = some i0 ∧ i0.zero = some (.int .u8 0) ∧ i0.size = 1 ∧ i0.bytes = 1 := by
  have h : (Tryd.prog.info? 5).map (fun i => (i.zero, i.size, i.bytes)) = some (some (.int .u8 0), 1, 1) := by kernel_rfl
  obtain ⟨i0, h1, h2⟩ := Option.map_eq_some_iff.1 h
  simp only [Prod.mk.injEq] at h2
  exact ⟨i0, h1, h2.1, h2.2.1, h2.2.2⟩
theorem i22 : ∃ i0, Tryd.prog.info? 22 = some i0 ∧ i0.zero = some (.slice none 0 0) ∧ i0.size = 1 ∧ i0.bytes = 24 := by
  have h : (Tryd.prog.info? 22).map (fun i => (i.zero, i.size, i.bytes)) = some (some (.slice none 0 0), 1, 24) := by kernel_rfl
  obtain ⟨i0, h1, h2⟩ := Option.map_eq_some_iff.1 h
  simp only [Prod.mk.injEq] at h2
  exact ⟨i0, h1, h2.1, h2.2.1, h2.2.2⟩

/-- The slice that begins at 'a' reads as the bytes of l. -/
def YRow (w : World) (a : Option Addr) (l : List Int) : Prop :=
  l = [] ∨ ∃ b off, a = some ⟨b, off, none⟩ ∧ b < w.heap.size ∧ ∀ i, i < l.length → w.cell? ⟨b, off + i, none⟩ = some (.int .u8 (l.getD i 0))

theorem YRow.below {w w' : World} {a : Option Addr} {l : List Int} (h : YRow w a l) (hb : Below w.heap.size w w') : YRow w' a l := by
  rcases h with h | ⟨b, off, rfl, hlt, hc⟩
  · exact .inl h
  · refine .inr ⟨b, off, rfl, Nat.lt_of_lt_of_le hlt hb.size, fun i hi => ?_⟩
    rw [hb.cell (p := ⟨b, _, none⟩) hlt]
    exact hc i hi

def yrow (n : Nat) : Array Value := madeCells #[.int .u8 0] n
theorem size_yrow (n : Nat) : (yrow n).size = n := size_madeCells _ _

theorem OwnY.start (w : World) (n : Nat) (l : List Int) : OwnY (w.alloc (.cells (yrow n) 5)) w.heap.size n l 0 := by
  refine ⟨by simp, fun j hj => ⟨?_, by simp⟩, fun i hi => by omega⟩
  rw [World.cell?_alloc_new]
  exact ⟨(yrow n)[j]'(by rw [size_yrow]; exact hj), by simp [size_yrow, hj]⟩

theorem run_make22 (n : Nat) (hn : n ≤ 1048576) (w : World) : (Instr.makeSlice 22 (.int .i64 n) (.int .i64 n)).run Tryd.prog w = .ok (.slice (some ⟨w.heap.size, 0, none⟩) n n) (w.alloc (.cells (yrow n) 5)) := by
  obtain ⟨i0, hi, hz0, hz1, hz2⟩ := i5
  have r := run_make (P := Tryd.prog) w 22 5 i0 _ Tryd.underlying22 hi hz0 .i64 .i64 n n (by omega) (by omega) (by rw [hz2]; omega) (by omega)
  rw [hz1] at r
  simpa [yrow, Value.cells] using r

set_option maxHeartbeats 400000 in
theorem toByteS_some (b off cap : Nat) (l : List Int) (w : World) (hn : l.length ≤ 1048576) (hb : b < w.heap.size) (hc : ∀ i, i < l.length → w.cell? ⟨b, off + i, none⟩ = some (.int .u8 (l.getD i 0))) :
    Calls Tryd.prog 12 #[.slice (some ⟨b, off, none⟩) l.length cap] w fun e w' => e = .returned (.slice (some ⟨w.heap.size, 0, none⟩) l.length l.length) ∧ OwnY w' w.heap.size l.length l l.length ∧ Below w.heap.size w w' := by
  have hmk := run_make22 l.length hn
  have hs := OwnY.start w l.length l
  have hbl : Below w.heap.size w (w.alloc (.cells (yrow l.length) 5)) := (Below.refl _ _).alloc (Nat.le_refl _) _
  generalize hN : l.length = n at *
  clear hN
  go_enter Tryd.func12, Tryd.ntmps12
  go_wp2
  go_loopw [4] (fun i wr => ∃ k : Nat, k ≤ n ∧ i = .int .i64 k ∧ OwnY wr w.heap.size n l k ∧ Below w.heap.size w wr) (fun i _ => n - (intOf i).toNat)
  case atStart => exact ⟨0, Nat.zero_le _, rfl, hs, hbl⟩
  case round =>
    clear hs hbl
    obtain ⟨k, hk, rfl, ho, hbw⟩ := hrel
    by_cases hlt : k < n
    · have hx := hbw.cell (p := ⟨b, off + k, none⟩) hb
      rw [hc k hlt] at hx
      clear hc
      obtain ⟨v0, hv0⟩ := (ho.2.1 k hlt).1
      have hf0 := (ho.2.1 k hlt).2
      have hst := ho.step hlt
      have hb2 := Below.set hbw w.heap.size k (Nat.le_refl _) (.int .u8 (l.getD k 0))
      clear ho hbw
      go_wp2
      go_roundw
      case rel => exact ⟨k + 1, by omega, by go_num, hst, hb2⟩
      case measure => simp [intOf]; omega
    · go_wp2
      go_ret
      obtain rfl : k = n := by omega
      exact ⟨rfl, ho, hbw⟩

set_option maxHeartbeats 400000 in
theorem toByteS_nil (a : Option Addr) (cap : Nat) (w : World) :
    Calls Tryd.prog 12 #[.slice a 0 cap] w fun e w' => e = .returned (.slice (some ⟨w.heap.size, 0, none⟩) 0 0) ∧ OwnY w' w.heap.size 0 [] 0 ∧ Below w.heap.size w w' := by
  have hmk : ∀ w : World, (Instr.makeSlice 22 (.int .i64 0) (.int .i64 0)).run Tryd.prog w = .ok (.slice (some ⟨w.heap.size, 0, none⟩) 0 0) (w.alloc (.cells (yrow 0) 5)) := fun w => run_make22 0 (by omega) w
  have hs := OwnY.start w 0 []
  have hbl : Below w.heap.size w (w.alloc (.cells (yrow 0) 5)) := (Below.refl _ _).alloc (Nat.le_refl _) _
  go_enter Tryd.func12, Tryd.ntmps12
  go_wp2
  go_loopw [4] (fun i wr => i = .int .i64 0 ∧ OwnY wr w.heap.size 0 [] 0 ∧ Below w.heap.size w wr) (fun _ _ => 0)
  case atStart => exact ⟨rfl, hs, hbl⟩
  case round =>
    clear hs hbl
    obtain ⟨rfl, ho, hbw⟩ := hrel
    go_wp2
    go_ret
    exact ⟨rfl, ho, hbw⟩

theorem toByteS_any (a : Option Addr) (cap : Nat) (l : List Int) (w : World) (hn : l.length ≤ 1048576) (hr : YRow w a l) :
    Calls Tryd.prog 12 #[.slice a l.length cap] w fun e w' => ∃ b, e = .returned (.slice (some ⟨b, 0, none⟩) l.length l.length) ∧ w.heap.size ≤ b ∧ OwnY w' b l.length l l.length ∧ Below w.heap.size w w' := by
  rcases hr with rfl | ⟨b, off, rfl, hb, hc⟩
  · exact (toByteS_nil a cap w).mono fun e w' ⟨h1, h2, h3⟩ => ⟨_, h1, Nat.le_refl _, h2, h3⟩
  · exact (toByteS_some b off cap l w hn hb hc).mono fun e w' ⟨h1, h2, h3⟩ => ⟨_, h1, Nat.le_refl _, h2, h3⟩

/-- A row of the call's own, made a string. -/
theorem OwnY.str {w : World} {b n c : Nat} {l : List Int} (h : OwnY w b n l n) (hl : l.length = n) : (convert 22 9 (.slice (some ⟨b, 0, none⟩) n c)).run Tryd.prog w = .ok (.string (strOfNums l)) w :=
  run_convert_bytes_arg w 22 5 Tryd.underlying22 Tryd.underlying5 b 0 n c l hl (fun i hi => by rw [Nat.zero_add]; exact h.2.2 i hi) 9 Tryd.underlying9


theorem wpList_append_run {P : Program} {w : World} {ops : Array Oper} {rest : List Oper} {o : Oper} {a : Act} {Q : Exit → Act → World → Prop} (hgd : o.guard = none) (s x : Operand) (t tx : TypeId)
    (ho : o.op = .call { callee := .builtin .append, args := #[s, x], argTypes := #[t, tx] }) (v y v' : Value) (w' : World) (hs : a.eval s = v) (hx : a.eval x = y)
    (hrun : (Builtin.append_ #[t, tx] o.type #[v, y]).run P w = .ok v' w') (h : wpList P ops Q rest (a.put o.dst v') w') : wpList P ops Q (o :: rest) a w := by
  refine wpList_plain hgd fun K hK => ?_
  unfold Oper.wp
  simp [execOp, ho, resolve, invoke, builtin, hs, hx, hrun, Result.andThen]
  exact hK _ _ h

/-- The lines of some bytes; cur is what stands ahead on the first one. -/
def cutG (cur : List Int) : List Int → List (List Int)
  | [] => if cur.length = 0 then [] else [cur]
  | x :: r => if x = 10 then cur :: cutG [] r else cutG (cur ++ [x]) r
def linesV (l : List Int) : List (List Int) := cutG [] l

theorem drop_at {l : List Int} {k : Nat} (hk : k < l.length) : l.drop k = l.getD k 0 :: l.drop (k + 1) := by
  rw [List.drop_eq_getElem_cons hk, List.getD_eq_getElem?_getD, List.getElem?_eq_getElem hk]
  rfl
theorem cutG_end {l : List Int} {k : Nat} (hk : k < l.length) (cur : List Int) (h : l.getD k 0 = 10) : cutG cur (l.drop k) = cur :: cutG [] (l.drop (k + 1)) := by
  rw [drop_at hk, cutG, if_pos h]
theorem cutG_on {l : List Int} {k : Nat} (hk : k < l.length) (cur : List Int) (h : ¬ l.getD k 0 = 10) : cutG cur (l.drop k) = cutG (cur ++ [l.getD k 0]) (l.drop (k + 1)) := by
  rw [drop_at hk, cutG, if_neg h]
theorem cutG_le : ∀ (l cur : List Int), (cutG cur l).length ≤ l.length + (if cur.length = 0 then 0 else 1)
  | [], cur => by unfold cutG; split <;> simp
  | x :: r, cur => by
    unfold cutG
    split
    · have := cutG_le r []
      simp at this ⊢
      omega
    · have := cutG_le r (cur ++ [x])
      simp at this ⊢
      split <;> omega
theorem linesV_le (l : List Int) : (linesV l).length ≤ l.length := by
  have := cutG_le l []
  simpa [linesV] using this
theorem cutG_hit : ∀ (l cur : List Int) (k : Nat), k < l.length → (∀ j, j < k → ¬ l.getD j 0 = 10) → l.getD k 0 = 10 → cutG cur l = (cur ++ l.take k) :: cutG [] (l.drop (k + 1))
  | [], _, k, h, _, _ => by simp at h
  | x :: r, cur, 0, _, _, h => by
    simp at h
    rw [cutG, if_pos h]
    simp
  | x :: r, cur, k + 1, hk, hn, h => by
    have h0 : ¬ x = 10 := by simpa using hn 0 (by omega)
    rw [cutG, if_neg h0, cutG_hit r (cur ++ [x]) k (by simpa using hk) (fun j hj => by simpa using hn (j + 1) (by omega)) (by simpa using h)]
    simp
theorem cutG_miss : ∀ (l cur : List Int), (∀ j, j < l.length → ¬ l.getD j 0 = 10) → (cur ++ l) ≠ [] → cutG cur l = [cur ++ l]
  | [], cur, _, h => by
    rw [List.append_nil] at h ⊢
    rw [cutG, if_neg (by simpa using h)]
  | x :: r, cur, hn, _ => by
    have h0 : ¬ x = 10 := by simpa using hn 0 (by simp)
    rw [cutG, if_neg h0, cutG_miss r (cur ++ [x]) (fun j hj => by simpa using hn (j + 1) (by simpa using hj)) (by simp)]
    simp
theorem piece_on {l : List Int} {f k : Nat} (hf : f ≤ k) (hk : k < l.length) : (l.drop f).take (k - f) ++ [l.getD k 0] = (l.drop f).take (k + 1 - f) := by
  rw [show k + 1 - f = (k - f) + 1 by omega, List.take_add_one]
  congr 1
  rw [List.getElem?_drop, show f + (k - f) = k by omega, List.getD_eq_getElem?_getD, List.getElem?_eq_getElem hk]
  rfl

/-- A row of bytes that is not in block o. -/
def YOff (w : World) (o : Option Nat) (a : Option Addr) (l : List Int) : Prop :=
  l = [] ∨ ∃ b off, a = some ⟨b, off, none⟩ ∧ o ≠ some b ∧ b < w.heap.size ∧ ∀ i, i < l.length → w.cell? ⟨b, off + i, none⟩ = some (.int .u8 (l.getD i 0))
theorem YOff.row {w : World} {o : Option Nat} {a : Option Addr} {l : List Int} (h : YOff w o a l) : YRow w a l := by
  rcases h with h | ⟨b, off, h1, _, h2, h3⟩
  · exact .inl h
  · exact .inr ⟨b, off, h1, h2, h3⟩

/-- Lines, one behind the other, in a list of the call's own. -/
def LRow (w : World) (base : Nat) (v : Value) (ls : List (List Int)) : Prop :=
  ∃ vals : List Value, w.ownsRow base 22 1 v ls.length vals ∧ ∀ i, i < ls.length → ∃ ai ci, vals[i]? = some (.slice ai (ls.getD i []).length ci) ∧ YOff w v.ownBlock ai (ls.getD i [])

theorem LRow.nil (w : World) (base : Nat) : LRow w base (.slice none 0 0) [] := ⟨[], World.ownsRow_nil _ _ _ _, fun i hi => by simp at hi⟩
theorem LRow.form {w : World} {base : Nat} {v : Value} {ls : List (List Int)} (h : LRow w base v ls) : ∃ a c, v = .slice a ls.length c := by
  obtain ⟨vals, ho, _⟩ := h
  rcases ho.2 with ⟨rfl, h0⟩ | ⟨g, cap, cur, rfl, _⟩
  · exact ⟨none, 0, by rw [h0]⟩
  · exact ⟨_, _, rfl⟩
theorem YOff.below {w w' : World} {o : Option Nat} {a : Option Addr} {l : List Int} (h : YOff w o a l) (hb : Below w.heap.size w w') : YOff w' o a l := by
  rcases h with h | ⟨b, off, rfl, hne, hlt, hc⟩
  · exact .inl h
  · refine .inr ⟨b, off, rfl, hne, Nat.lt_of_lt_of_le hlt hb.size, fun i hi => ?_⟩
    rw [hb.cell (p := ⟨b, _, none⟩) hlt]
    exact hc i hi
theorem owns_below {w w' : World} {base n size : Nat} {e : TypeId} {v : Value} {xs : List Value} (h : w.ownsRow base e size v n xs) (hb : Below w.heap.size w w') : w'.ownsRow base e size v n xs := by
  refine ⟨h.1, ?_⟩
  rcases h.2 with h0 | ⟨g, cap, cur, h1, h2, hh, h3⟩
  · exact .inl h0
  · have hlt : g < w.heap.size := by
      rcases Nat.lt_or_ge g w.heap.size with hlt | hge
      · exact hlt
      · rw [Array.getElem?_eq_none hge] at hh; cases hh
    exact .inr ⟨g, cap, cur, h1, h2, (hb.block g hlt).trans hh, h3⟩
theorem LRow.below {w w' : World} {base : Nat} {v : Value} {ls : List (List Int)} (h : LRow w base v ls) (hb : Below w.heap.size w w') : LRow w' base v ls := by
  obtain ⟨vals, ho, hl⟩ := h
  refine ⟨vals, owns_below ho hb, fun i hi => ?_⟩
  obtain ⟨ai, ci, h1, h2⟩ := hl i hi
  exact ⟨ai, ci, h1, h2.below hb⟩
/-- The list's block is not past the world. -/
theorem LRow.own_lt {w : World} {base : Nat} {v : Value} {ls : List (List Int)} (h : LRow w base v ls) : ∀ g, v.ownBlock = some g → base ≤ g ∧ g < w.heap.size := by
  obtain ⟨vals, ho, _⟩ := h
  intro g hg
  rcases ho.2 with ⟨rfl, h0⟩ | ⟨g', cap, cur, rfl, hb, hh, _⟩
  · simp [Value.ownBlock] at hg
  · have : g' = g := by simpa [Value.ownBlock] using hg
    subst this
    refine ⟨hb, ?_⟩
    rcases Nat.lt_or_ge g' w.heap.size with hlt | hge
    · exact hlt
    · rw [Array.getElem?_eq_none hge] at hh; cases hh

theorem LRow.push {w : World} {base : Nat} {v : Value} {ls : List (List Int)} {line : List Int} {ai : Option Addr} {ci : Nat} (h : LRow w base v ls) (hy : YOff w v.ownBlock ai line) (hb : base ≤ w.heap.size) (hn : ls.length < 1048576) (C : Nat) :
    ∃ v' w', (Builtin.append_ #[32, 32] 32 #[v, .slice (some ⟨w.heap.size, 0, none⟩) 1 C]).run Tryd.prog (w.alloc (.cells #[.slice ai line.length ci] 22)) = .ok v' w' ∧ LRow w' base v' (ls ++ [line]) ∧ Below base w w' := by
  obtain ⟨i0, hi, hz0, hz1, hz2⟩ := i22
  have L1 : Below w.heap.size w (w.alloc (.cells #[.slice ai line.length ci] 22)) := (Below.refl _ _).alloc (Nat.le_refl _) _
  have hlt := h.own_lt
  obtain ⟨vals, ho0, hl⟩ := h
  have ho := owns_below ho0 L1
  have hvl : vals.length = ls.length := by rw [ho.1]; omega
  have hcell : (w.alloc (.cells #[.slice ai line.length ci] 22)).cell? ⟨w.heap.size, 0, none⟩ = some (.slice ai line.length ci) := by simp
  obtain ⟨g, cap, w', hr, h2, h3, h4, h5⟩ := run_append_lies (P := Tryd.prog) (w := w.alloc (.cells #[.slice ai line.length ci] 22)) 32 32 base 22 i0 _ 1 24 Tryd.underlying32 hi hz0 hz1 hz2 rfl (by decide) v ls.length vals ho ⟨w.heap.size, 0, none⟩ 1 C [.slice ai line.length ci] rfl
    (by
      intro j u hj
      match j, hj with
      | 0, hj => simp at hj; subst hj; simp [Addr.add])
    (by intro u hu; simp at hu; subst hu; rfl) (by decide) (by unfold maxLen; omega) (by omega) (by simp; omega) (w.heap.size + 1) (by simp)
  have hold : ∀ b, b < w.heap.size → v.ownBlock ≠ some b → ∀ o, w'.cell? ⟨b, o, none⟩ = w.cell? ⟨b, o, none⟩ := fun b hb' hne o =>
    (World.cell?_of_block (w := w.alloc (.cells #[.slice ai line.length ci] 22)) (a := ⟨b, o, none⟩) (h3.block b (by simp; omega) (fun e => hne e.symm))).trans (L1.cell (p := ⟨b, o, none⟩) hb')
  have hsize : w.heap.size + 1 ≤ w'.heap.size := by have := h3.size; simp at this; exact this
  have hnew : ∀ b, b < w.heap.size → v.ownBlock ≠ some b → (Value.slice (some ⟨g, 0, none⟩) (ls.length + 1) cap).ownBlock ≠ some b := by
    intro b hb' hne e
    have e' : g = b := by simpa [Value.ownBlock] using e
    rcases h4 with h4 | h4
    · exact hne (by rw [h4, e'])
    · omega
  have hkeep : ∀ {aj : Option Addr} {l : List Int}, YOff w v.ownBlock aj l → YOff w' (Value.slice (some ⟨g, 0, none⟩) (ls.length + 1) cap).ownBlock aj l := by
    intro aj l k2
    rcases k2 with k2 | ⟨b, off, rfl, hne, hbl, hcc⟩
    · exact .inl k2
    · exact .inr ⟨b, off, rfl, hnew b hbl hne, by omega, fun j hj => (hold b hbl hne _).trans (hcc j hj)⟩
  refine ⟨_, w', hr, ⟨vals ++ [.slice ai line.length ci], by simpa using h2, fun i hi => ?_⟩, (L1.mono hb).grown h3 (by simp; omega) (fun k hk => (hlt k hk).1)⟩
  have hi' : i < ls.length + 1 := by simpa using hi
  by_cases hc : i < ls.length
  · obtain ⟨aj, cj, k1, k2⟩ := hl i hc
    have e1 : (ls ++ [line]).getD i [] = ls.getD i [] := by rw [List.getD_eq_getElem?_getD, List.getElem?_append_left hc, ← List.getD_eq_getElem?_getD]
    rw [e1]
    exact ⟨aj, cj, by rw [List.getElem?_append_left (by omega)]; exact k1, hkeep k2⟩
  · obtain rfl : i = ls.length := by omega
    have e1 : (ls ++ [line]).getD ls.length [] = line := by simp
    rw [e1]
    exact ⟨ai, ci, by rw [List.getElem?_append_right (by omega), hvl]; simp, hkeep hy⟩

end Go.Proofs.YtccldjodijdciaaDoor
