/-
  Plain lemmas and contracts of functions for the other texts of this seat: OkI, Used, Mark, Mg, Wd, App.
-/
import Derived.Test.YtphchdjbhbmnbaaGaa
import Derived.Laws.AppendOwnNone
namespace Go.Proofs.Ytphchdjbhbmnbaa
open Go.RowKit

set_option maxHeartbeats 400000 in
theorem termsOk_some (b off cap : Nat) (l : List (Int × Int)) (w : World) (hn : l.length ≤ 1048576) (hb : b < w.heap.size)
    (hc : ∀ i, i < l.length → w.cell? ⟨b, off + i * 2, none⟩ = some (.int .i64 (l.getD i (0, 0)).1) ∧ w.cell? ⟨b, off + i * 2 + 1, none⟩ = some (.int .i64 (l.getD i (0, 0)).2)) :
    Calls Try.prog 210 #[.slice (some ⟨b, off, none⟩) l.length cap] w fun e w' => e = .returned (.bool (toks l)) ∧ Below w.heap.size w w' := by
  have hT : (∀ i, i < l.length → tok (l[i]?.getD (0, 0)).1 = true ∧ tok (l[i]?.getD (0, 0)).2 = true) → toks l = true := toks_true
  have hF : ∀ i, i < l.length → (tok (l[i]?.getD (0, 0)).1 = false ∨ tok (l[i]?.getD (0, 0)).2 = false) → toks l = false := fun i h => toks_false h
  have HT : Hid (∀ i, i < l.length → (tok (l[i]?.getD (0, 0)).1 = false ∨ tok (l[i]?.getD (0, 0)).2 = false) → toks l = false) := hF
  have HF : Hid ((∀ i, i < l.length → tok (l[i]?.getD (0, 0)).1 = true ∧ tok (l[i]?.getD (0, 0)).2 = true) → toks l = true) := hT
  clear hT hF
  generalize hN : l.length = n at *
  clear hN
  go_enter Try.func210, Try.ntmps210
  go_wp2
  go_loopw [4, 7] (fun _ i wr => ∃ k : Nat, k ≤ n ∧ i = .int .i64 k ∧ Hid (∀ i, i < k → tok (l[i]?.getD (0, 0)).1 = true ∧ tok (l[i]?.getD (0, 0)).2 = true) ∧ Below w.heap.size w wr) (fun _ i _ => n - (intOf i).toNat)
  case atStart => exact ⟨0, Nat.zero_le _, rfl, fun i hi => by omega, Below.refl _ _⟩
  case round =>
    obtain ⟨k, hk, rfl, hall, hbw⟩ := hrel
    by_cases hlt : k < n
    · have hck := hc k hlt
      clear hc
      have hx := hbw.cell (p := ⟨b, off + k * 2, none⟩) hb
      have hy := hbw.cell (p := ⟨b, off + k * 2 + 1, none⟩) hb
      rw [hck.1] at hx
      rw [hck.2] at hy
      clear hck
      have hb2 := hbw.alloc hbw.size (.cells #[.int .i64 (l[k]?.getD (0, 0)).1, .int .i64 (l[k]?.getD (0, 0)).2] 69)
      cases hA : tok (l[k]?.getD (0, 0)).1
      · go_wp2_with (go_at_call 134; refine (iTermOk_any _ _).mono ?_; rintro e w1 ⟨rfl, rfl⟩)
        go_ret
        exact ⟨ret_bool (HT.out k hlt (.inl hA)).symm, hb2⟩
      · cases hB : tok (l[k]?.getD (0, 0)).2
        · go_wp2_with (go_at_call 134; refine (iTermOk_any _ _).mono ?_; rintro e w1 ⟨rfl, rfl⟩)
          go_ret
          exact ⟨ret_bool (HT.out k hlt (.inr hB)).symm, hb2⟩
        · go_wp2_with (go_at_call 134; refine (iTermOk_any _ _).mono ?_; rintro e w1 ⟨rfl, rfl⟩)
          go_roundw
          case rel => exact ⟨k + 1, by omega, by go_num, fun i hi => by
            by_cases e : i = k
            · subst e; exact ⟨hA, hB⟩
            · exact hall.out i (by omega), hb2⟩
          case measure => simp [intOf]; omega
    · go_wp2
      go_ret
      obtain rfl : k = n := by omega
      exact ⟨ret_bool (HF.out hall.out).symm, hbw⟩

set_option maxHeartbeats 400000 in
theorem termsOk_nil (a : Option Addr) (cap : Nat) (w : World) : Calls Try.prog 210 #[.slice a 0 cap] w fun e w' => e = .returned (.bool true) ∧ Below w.heap.size w w' := by
  go_enter Try.func210, Try.ntmps210
  go_wp2
  go_loopw [4, 7] (fun _ i wr => i = .int .i64 0 ∧ Below w.heap.size w wr) (fun _ _ _ => 0)
  case atStart => exact ⟨rfl, Below.refl _ _⟩
  case round =>
    obtain ⟨rfl, hbw⟩ := hrel
    go_wp2
    go_ret
    exact ⟨rfl, hbw⟩

theorem termsOk_any (a : Option Addr) (cap : Nat) (l : List (Int × Int)) (w : World) (hn : l.length ≤ 1048576) (hr : PRow w a l) :
    Calls Try.prog 210 #[.slice a l.length cap] w fun e w' => e = .returned (.bool (toks l)) ∧ Below w.heap.size w w' := by
  rcases hr with rfl | ⟨b, off, rfl, hb, hc⟩
  · exact termsOk_nil a cap w
  · exact termsOk_some b off cap l w hn hb hc

set_option maxHeartbeats 400000 in
theorem listsOf_any (v0 v1 v2 v3 : Value) (w : World) (h0 : ∃ a n c, v0 = .slice a n c) (h1 : ∃ a n c, v1 = .slice a n c) (h2 : ∃ a n c, v2 = .slice a n c) (h3 : ∃ a n c, v3 = .slice a n c) :
    Calls Try.prog 135 #[.agg #[v0, v1, v2, v3]] w fun e w' => e = .returned (.agg #[v0, v1, v2, v3]) ∧ Below w.heap.size w w' := by
  obtain ⟨a0, n0, c0, rfl⟩ := h0
  obtain ⟨a1, n1, c1, rfl⟩ := h1
  obtain ⟨a2, n2, c2, rfl⟩ := h2
  obtain ⟨a3, n3, c3, rfl⟩ := h3
  go_enter Try.func135, Try.ntmps135
  go_wp2
  exact bodyPost_ret (v := .agg #[.slice a0 n0 c0, .slice a1 n1 c1, .slice a2 n2 c2, .slice a3 n3 c3]) (by simp [results, Try.results135, go_sem]) rfl ⟨rfl, ((Below.refl _ _).alloc (Nat.le_refl _) _).alloc (by simp) _⟩

theorem idx0 (a0 a1 a2 a3 : Option Addr) (n0 n1 n2 n3 c0 c1 c2 c3 : Nat) (w : World) : (Instr.index 88 (.agg #[.slice a0 n0 c0, .slice a1 n1 c1, .slice a2 n2 c2, .slice a3 n3 c3]) (.int .i64 0)).run Try.prog w = .ok (.slice a0 n0 c0) w := by kernel_rfl
theorem idx1 (a0 a1 a2 a3 : Option Addr) (n0 n1 n2 n3 c0 c1 c2 c3 : Nat) (w : World) : (Instr.index 88 (.agg #[.slice a0 n0 c0, .slice a1 n1 c1, .slice a2 n2 c2, .slice a3 n3 c3]) (.int .i64 1)).run Try.prog w = .ok (.slice a1 n1 c1) w := by kernel_rfl
theorem idx2 (a0 a1 a2 a3 : Option Addr) (n0 n1 n2 n3 c0 c1 c2 c3 : Nat) (w : World) : (Instr.index 88 (.agg #[.slice a0 n0 c0, .slice a1 n1 c1, .slice a2 n2 c2, .slice a3 n3 c3]) (.int .i64 2)).run Try.prog w = .ok (.slice a2 n2 c2) w := by kernel_rfl
theorem idx3 (a0 a1 a2 a3 : Option Addr) (n0 n1 n2 n3 c0 c1 c2 c3 : Nat) (w : World) : (Instr.index 88 (.agg #[.slice a0 n0 c0, .slice a1 n1 c1, .slice a2 n2 c2, .slice a3 n3 c3]) (.int .i64 3)).run Try.prog w = .ok (.slice a3 n3 c3) w := by kernel_rfl

set_option maxHeartbeats 1000000 in
theorem iAsnOk_any (a0 a1 a2 a3 : Option Addr) (c0 c1 c2 c3 : Nat) (l0 l1 l2 l3 : List (Int × Int)) (w : World)
    (n0 : l0.length ≤ 1048576) (n1 : l1.length ≤ 1048576) (n2 : l2.length ≤ 1048576) (n3 : l3.length ≤ 1048576)
    (r0 : PRow w a0 l0) (r1 : PRow w a1 l1) (r2 : PRow w a2 l2) (r3 : PRow w a3 l3) :
    Calls Try.prog 133 #[.agg #[.slice a0 l0.length c0, .slice a1 l1.length c1, .slice a2 l2.length c2, .slice a3 l3.length c3]] w fun e w' => e = .returned (.bool (asnB l0 l1 l2 l3)) ∧ Below w.heap.size w w' := by
  have L : Below w.heap.size w (w.alloc (.cells #[.slice a0 l0.length c0, .slice a1 l1.length c1, .slice a2 l2.length c2, .slice a3 l3.length c3] 28)) := (Below.refl _ _).alloc (Nat.le_refl _) _
  by_cases m0 : 12 < (l0.length : Int)
  · go_enter Try.func133, Try.ntmps133
    go_wp2
    go_ret
    exact ⟨ret_bool (by simp [asnB]; omega), L⟩
  by_cases m1 : 12 < (l1.length : Int)
  · go_enter Try.func133, Try.ntmps133
    go_wp2
    go_ret
    exact ⟨ret_bool (by simp [asnB]; omega), L⟩
  by_cases m2 : 6 < (l2.length : Int) + (l3.length : Int)
  · go_enter Try.func133, Try.ntmps133
    go_wp2
    go_ret
    exact ⟨ret_bool (by simp [asnB]; omega), L⟩
  have HB : Hid (asnB l0 l1 l2 l3 = (toks l0 && toks l1 && toks l2 && toks l3)) := by
    show asnB l0 l1 l2 l3 = _
    unfold asnB
    rw [decide_eq_true (show l0.length ≤ 12 by omega), decide_eq_true (show l1.length ≤ 12 by omega), decide_eq_true (show l2.length + l3.length ≤ 6 by omega)]
    simp
  go_enter Try.func133, Try.ntmps133
  go_wp2_with fail
  refine (listsOf_any _ _ _ _ _ ⟨_, _, _, rfl⟩ ⟨_, _, _, rfl⟩ ⟨_, _, _, rfl⟩ ⟨_, _, _, rfl⟩).mono ?_
  rintro e w1 ⟨rfl, hb⟩
  have L1 := L.trans (hb.mono L.size)
  clear L hb
  have i0 := idx0 a0 a1 a2 a3 l0.length l1.length l2.length l3.length c0 c1 c2 c3
  have i1 := idx1 a0 a1 a2 a3 l0.length l1.length l2.length l3.length c0 c1 c2 c3
  have i2 := idx2 a0 a1 a2 a3 l0.length l1.length l2.length l3.length c0 c1 c2 c3
  have i3 := idx3 a0 a1 a2 a3 l0.length l1.length l2.length l3.length c0 c1 c2 c3
  go_wp2
  go_loopw [27] (fun i wr => ∃ k : Nat, k ≤ 4 ∧ i = .int .i64 k ∧ Hid ((0 < k → toks l0 = true) ∧ (1 < k → toks l1 = true) ∧ (2 < k → toks l2 = true) ∧ (3 < k → toks l3 = true)) ∧ Below w.heap.size w wr) (fun i _ => 4 - (intOf i).toNat)
  case atStart => exact ⟨0, Nat.zero_le _, rfl, ⟨by omega, by omega, by omega, by omega⟩, L1⟩
  case round =>
    clear L1
    obtain ⟨k, hk, rfl, hall, hbw⟩ := hrel
    match k, hk with
    | 0, _ =>
      go_wp2_with fail
      refine (termsOk_any _ _ _ _ n0 (by exact r0.below hbw (Nat.le_refl _))).mono ?_
      rintro e w2 ⟨rfl, hb⟩
      have hbw2 := hbw.trans (hb.mono hbw.size)
      clear hb hbw
      cases h : toks l0
      · go_wp2
        go_ret
        exact ⟨ret_bool (by rw [HB.out, h]; simp), hbw2⟩
      · go_wp2
        go_roundw
        case rel => exact ⟨1, by omega, by go_num, ⟨fun _ => h, by omega, by omega, by omega⟩, hbw2⟩
        case measure => simp [intOf]
    | 1, _ =>
      go_wp2_with fail
      refine (termsOk_any _ _ _ _ n1 (by exact r1.below hbw (Nat.le_refl _))).mono ?_
      rintro e w2 ⟨rfl, hb⟩
      have hbw2 := hbw.trans (hb.mono hbw.size)
      clear hb hbw
      cases h : toks l1
      · go_wp2
        go_ret
        exact ⟨ret_bool (by rw [HB.out, h]; simp), hbw2⟩
      · go_wp2
        go_roundw
        case rel => exact ⟨2, by omega, by go_num, ⟨fun _ => hall.out.1 (by omega), fun _ => h, by omega, by omega⟩, hbw2⟩
        case measure => simp [intOf]
    | 2, _ =>
      go_wp2_with fail
      refine (termsOk_any _ _ _ _ n2 (by exact r2.below hbw (Nat.le_refl _))).mono ?_
      rintro e w2 ⟨rfl, hb⟩
      have hbw2 := hbw.trans (hb.mono hbw.size)
      clear hb hbw
      cases h : toks l2
      · go_wp2
        go_ret
        exact ⟨ret_bool (by rw [HB.out, h]; simp), hbw2⟩
      · go_wp2
        go_roundw
        case rel => exact ⟨3, by omega, by go_num, ⟨fun _ => hall.out.1 (by omega), fun _ => hall.out.2.1 (by omega), fun _ => h, by omega⟩, hbw2⟩
        case measure => simp [intOf]
    | 3, _ =>
      go_wp2_with fail
      refine (termsOk_any _ _ _ _ n3 (by exact r3.below hbw (Nat.le_refl _))).mono ?_
      rintro e w2 ⟨rfl, hb⟩
      have hbw2 := hbw.trans (hb.mono hbw.size)
      clear hb hbw
      cases h : toks l3
      · go_wp2
        go_ret
        exact ⟨ret_bool (by rw [HB.out, h]; simp), hbw2⟩
      · go_wp2
        go_roundw
        case rel => exact ⟨4, by omega, by go_num, ⟨fun _ => hall.out.1 (by omega), fun _ => hall.out.2.1 (by omega), fun _ => hall.out.2.2.1 (by omega), fun _ => h⟩, hbw2⟩
        case measure => simp [intOf]
    | 4, _ =>
      go_wp2
      go_ret
      exact ⟨ret_bool (by rw [HB.out, hall.out.1 (by omega), hall.out.2.1 (by omega), hall.out.2.2.1 (by omega), hall.out.2.2.2 (by omega)]; rfl), hbw⟩

end Go.Proofs.Ytphchdjbhbmnbaa
namespace Go.Proofs.Ytphchdjbhbmnbaa
open Go.RowKit

/-- w' is w but for block b and new blocks. -/
structure Kept (b : Nat) (w w' : World) : Prop where
  os : w'.os = w.os
  tape : w'.tape = w.tape
  output : w'.output = w.output
  size : w.heap.size ≤ w'.heap.size
  block : ∀ k, k ≠ b → k < w.heap.size → w'.heap[k]? = w.heap[k]?

theorem Kept.refl (b : Nat) (w : World) : Kept b w w := ⟨rfl, rfl, rfl, Nat.le_refl _, fun _ _ _ => rfl⟩
theorem Kept.below {b B : Nat} {w w' : World} (h : Kept b w w') (hB : B ≤ b) (hs : B ≤ w.heap.size) : Below B w w' :=
  ⟨h.os, h.tape, h.output, h.size, fun k hk => h.block k (by omega) (by omega)⟩
theorem Kept.set {b : Nat} {a w : World} (h : Kept b a w) (i : Nat) (u : Value) : Kept b a (w.setCell ⟨b, i, none⟩ u) :=
  ⟨h.os, h.tape, h.output, by simpa using h.size, fun k hk hs => (Below.heap_setCell _ _ _ _ (by simpa using hk)).trans (h.block k hk hs)⟩
theorem Kept.cell {b : Nat} {w w' : World} (h : Kept b w w') {c o : Nat} (hc : c ≠ b) (hs : c < w.heap.size) : w'.cell? ⟨c, o, none⟩ = w.cell? ⟨c, o, none⟩ := World.cell?_of_block (w := w) (h.block c hc hs)
theorem Kept.frozen {b : Nat} {w w' : World} (h : Kept b w w') {c o : Nat} (hc : c ≠ b) (hs : c < w.heap.size) : w'.frozen? ⟨c, o, none⟩ = w.frozen? ⟨c, o, none⟩ := World.frozen?_of_block (w := w) (h.block c hc hs)

theorem Box.kept {c : Nat} {w w' : World} {b : Nat} {v0 v1 v2 v3 : Value} (h : Box w b v0 v1 v2 v3) (hk : Kept c w w') (hc : b ≠ c) : Box w' b v0 v1 v2 v3 := by
  refine ⟨Nat.lt_of_lt_of_le h.lt hk.size, ?_, ?_, ?_, ?_, ?_, ?_, ?_, ?_⟩
  · rw [hk.cell hc h.lt]; exact h.c0
  · rw [hk.cell hc h.lt]; exact h.c1
  · rw [hk.cell hc h.lt]; exact h.c2
  · rw [hk.cell hc h.lt]; exact h.c3
  · rw [hk.frozen hc h.lt]; exact h.f0
  · rw [hk.frozen hc h.lt]; exact h.f1
  · rw [hk.frozen hc h.lt]; exact h.f2
  · rw [hk.frozen hc h.lt]; exact h.f3

/-- Block b holds sixteen flags. -/
def BRow (w : World) (b : Nat) (f : Nat → Bool) : Prop := b < w.heap.size ∧ ∀ j, j < 16 → w.cell? ⟨b, j, none⟩ = some (.bool (f j)) ∧ w.frozen? ⟨b, j, none⟩ = false

theorem BRow.below {B : Nat} {w w' : World} {b : Nat} {f : Nat → Bool} (h : BRow w b f) (hb : Below B w w') (hB : b < B) : BRow w' b f :=
  ⟨Nat.lt_of_lt_of_le h.1 hb.size, fun j hj => by rw [hb.cell (p := ⟨b, j, none⟩) hB, hb.frozen (p := ⟨b, j, none⟩) hB]; exact h.2 j hj⟩

theorem BRow.set {w : World} {b : Nat} {f : Nat → Bool} (h : BRow w b f) (i : Nat) : BRow (w.setCell ⟨b, i, none⟩ (.bool true)) b (fun j => f j || j == i) := by
  refine ⟨by simpa using h.1, fun j hj => ⟨?_, by simpa using (h.2 j hj).2⟩⟩
  rw [cell_set (h.2 j hj).1]
  by_cases e : i = j
  · subst e; simp
  · rw [if_neg e]; simp [show ¬ j = i from fun x => e x.symm]

theorem BRow.other {w : World} {b : Nat} {f : Nat → Bool} (h : BRow w b f) (b' i' : Nat) (hp : b' ≠ b) (u : Value) : BRow (w.setCell ⟨b', i', none⟩ u) b f := by
  refine ⟨by simpa using h.1, fun j hj => ⟨?_, by simpa using (h.2 j hj).2⟩⟩
  rw [World.cell?_setCell_other _ _ _ _ (by intro e; exact hp (by injection e))]
  exact (h.2 j hj).1

theorem BRow.congr {w : World} {b : Nat} {f g : Nat → Bool} (h : BRow w b f) (e : ∀ j, j < 16 → f j = g j) : BRow w b g := ⟨h.1, fun j hj => by rw [← e j hj]; exact h.2 j hj⟩

def inL (l : List (Int × Int)) (j : Nat) : Bool := l.any fun p => p.1 == (j : Int) || p.2 == (j : Int)
def usedV (l0 l1 l2 l3 : List (Int × Int)) (j : Nat) : Bool := inL l0 j || inL l1 j || inL l2 j || inL l3 j

theorem inL_step {l : List (Int × Int)} {k : Nat} (hk : k < l.length) (j : Nat) : inL (l.take (k + 1)) j = (inL (l.take k) j || ((l[k]?.getD (0, 0)).1 == (j : Int) || (l[k]?.getD (0, 0)).2 == (j : Int))) := by
  unfold inL
  rw [List.take_succ_eq_append_getElem hk, List.any_append]
  simp [hk]

theorem toks_at {l : List (Int × Int)} (h : toks l = true) {k : Nat} (hk : k < l.length) : (0 ≤ (l[k]?.getD (0, 0)).1 ∧ (l[k]?.getD (0, 0)).1 < 16) ∧ 0 ≤ (l[k]?.getD (0, 0)).2 ∧ (l[k]?.getD (0, 0)).2 < 16 := by
  unfold toks at h
  rw [List.all_eq_true] at h
  have := h l[k] (List.getElem_mem hk)
  simpa [tok, hk] using this

set_option maxHeartbeats 400000 in
theorem l1mark_some (bI b off cap : Nat) (l : List (Int × Int)) (f : Nat → Bool) (w : World) (hn : l.length ≤ 1048576) (hb : b < w.heap.size) (hne : b ≠ bI) (ht : toks l = true) (hf : BRow w bI f)
    (hc : ∀ i, i < l.length → w.cell? ⟨b, off + i * 2, none⟩ = some (.int .i64 (l.getD i (0, 0)).1) ∧ w.cell? ⟨b, off + i * 2 + 1, none⟩ = some (.int .i64 (l.getD i (0, 0)).2)) :
    Calls Try.prog 234 #[.slice (some ⟨bI, 0, none⟩) 16 16, .slice (some ⟨b, off, none⟩) l.length cap] w fun e w' => e = .returned (.tuple #[]) ∧ BRow w' bI (fun j => f j || inL l j) ∧ Kept bI w w' := by
  have HT : Hid (toks l = true) := ht
  clear ht
  generalize hN : l.length = n at *
  have HN : Hid (l.length = n) := hN
  clear hN
  go_enter Try.func234, Try.ntmps234
  go_wp2
  go_loopw [4] (fun i wr => ∃ k : Nat, k ≤ n ∧ i = .int .i64 k ∧ BRow wr bI (fun j => f j || inL (l.take k) j) ∧ Kept bI w wr) (fun i _ => n - (intOf i).toNat)
  case atStart => exact ⟨0, Nat.zero_le _, rfl, by simpa [inL] using hf, Kept.refl _ _⟩
  case round =>
    obtain ⟨k, hk, rfl, ho, hbw⟩ := hrel
    by_cases hlt : k < n
    · have hck := hc k hlt
      clear hc
      have hx := hbw.cell (o := off + k * 2) hne hb
      have hy := hbw.cell (o := off + k * 2 + 1) hne hb
      rw [hck.1] at hx
      rw [hck.2] at hy
      clear hck
      obtain ⟨⟨p1, p2⟩, p3, p4⟩ := toks_at HT.out (k := k) (by rw [HN.out]; exact hlt)
      have hst := fun j => inL_step (l := l) (k := k) (by rw [HN.out]; exact hlt) j
      rw [List.getD_eq_getElem?_getD] at hx hy
      generalize (l[k]?.getD (0, 0)).1 = X at hx p1 p2 hst
      generalize (l[k]?.getD (0, 0)).2 = Y at hy p3 p4 hst
      obtain ⟨x, rfl⟩ := Int.eq_ofNat_of_zero_le p1
      obtain ⟨y, rfl⟩ := Int.eq_ofNat_of_zero_le p3
      have HS : Hid (∀ j, inL (l.take (k + 1)) j = (inL (l.take k) j || (((x : Int) == (j : Int)) || ((y : Int) == (j : Int))))) := hst
      clear hst
      have cx := (ho.2 x (by omega)).1
      have fx := (ho.2 x (by omega)).2
      have ho1 := ho.set x
      have cy := (ho1.2 y (by omega)).1
      have fy := (ho.2 y (by omega)).2
      have hy2 : (wr.setCell ⟨bI, x, none⟩ (.bool true)).cell? ⟨b, off + k * 2 + 1, none⟩ = some (.int .i64 y) := by
        rw [World.cell?_setCell_other _ _ _ _ (by intro h; injection h with h1; exact hne h1.symm)]; exact hy
      clear hy
      have ho2 := ho1.set y
      have hk2 := (hbw.set x (.bool true)).set y (.bool true)
      clear ho ho1
      go_wp2
      go_roundw
      case rel => exact ⟨k + 1, by omega, by go_num, ho2.congr (fun j hj => by
        rw [HS.out j]
        have e1 : ((x : Int) == (j : Int)) = (j == x) := by rw [Bool.eq_iff_iff]; simp; omega
        have e2 : ((y : Int) == (j : Int)) = (j == y) := by rw [Bool.eq_iff_iff]; simp; omega
        rw [e1, e2]
        simp [Bool.or_assoc]), hk2⟩
      case measure => simp [intOf]; omega
    · obtain rfl : k = n := by omega
      have e := HN.out
      have ho2 : BRow wr bI (fun j => f j || inL l j) := by
        have := ho; rwa [List.take_of_length_le (by omega)] at this
      clear e ho
      go_wp2
      go_end0
      exact ⟨rfl, ho2, hbw⟩

set_option maxHeartbeats 400000 in
theorem l1mark_nil (bI cap : Nat) (a : Option Addr) (f : Nat → Bool) (w : World) (hf : BRow w bI f) :
    Calls Try.prog 234 #[.slice (some ⟨bI, 0, none⟩) 16 16, .slice a 0 cap] w fun e w' => e = .returned (.tuple #[]) ∧ BRow w' bI (fun j => f j || inL [] j) ∧ Kept bI w w' := by
  go_enter Try.func234, Try.ntmps234
  go_wp2
  go_loopw [4] (fun i wr => i = .int .i64 0 ∧ BRow wr bI f ∧ Kept bI w wr) (fun _ _ => 0)
  case atStart => exact ⟨rfl, hf, Kept.refl _ _⟩
  case round =>
    obtain ⟨rfl, ho, hbw⟩ := hrel
    go_wp2
    go_end0
    exact ⟨rfl, by simpa [inL] using ho, hbw⟩

/-- The slice at 'a' does not lie in block b. -/
def Off (a : Option Addr) (l : List (Int × Int)) (b : Nat) : Prop := l = [] ∨ ∀ x, a = some x → x.block ≠ b

theorem PRow.off {w : World} {a : Option Addr} {l : List (Int × Int)} (h : PRow w a l) {b : Nat} (hb : w.heap.size ≤ b) : Off a l b := by
  rcases h with h | ⟨c, off, rfl, hlt, _⟩
  · exact .inl h
  · exact .inr fun x hx => by injection hx with hx; subst hx; show c ≠ b; omega

theorem l1mark_any (bI : Nat) (a : Option Addr) (cap : Nat) (l : List (Int × Int)) (f : Nat → Bool) (w : World) (hn : l.length ≤ 1048576) (ht : toks l = true) (hf : BRow w bI f) (hr : PRow w a l) (ho : Off a l bI) :
    Calls Try.prog 234 #[.slice (some ⟨bI, 0, none⟩) 16 16, .slice a l.length cap] w fun e w' => e = .returned (.tuple #[]) ∧ BRow w' bI (fun j => f j || inL l j) ∧ Kept bI w w' := by
  rcases hr with rfl | ⟨b, off, rfl, hb, hc⟩
  · exact l1mark_nil bI cap a f w hf
  · rcases ho with rfl | ho
    · exact l1mark_nil bI cap _ f w hf
    · exact l1mark_some bI b off cap l f w hn hb (ho _ rfl) ht hf hc

end Go.Proofs.Ytphchdjbhbmnbaa
namespace Go.Proofs.Ytphchdjbhbmnbaa
open Go.RowKit

/-- Outside the blocks from lo to hi, what was there is as it was. -/
structure Out (lo hi : Nat) (w w' : World) : Prop where
  os : w'.os = w.os
  tape : w'.tape = w.tape
  output : w'.output = w.output
  size : w.heap.size ≤ w'.heap.size
  block : ∀ k, k < w.heap.size → k < lo ∨ hi ≤ k → w'.heap[k]? = w.heap[k]?

theorem Out.refl (lo hi : Nat) (w : World) : Out lo hi w w := ⟨rfl, rfl, rfl, Nat.le_refl _, fun _ _ _ => rfl⟩
theorem Out.trans {lo hi : Nat} {a b c : World} (h : Out lo hi a b) (k : Out lo hi b c) : Out lo hi a c :=
  ⟨k.os.trans h.os, k.tape.trans h.tape, k.output.trans h.output, Nat.le_trans h.size k.size, fun i hi' hr => (k.block i (Nat.lt_of_lt_of_le hi' h.size) hr).trans (h.block i hi' hr)⟩
theorem Out.mono {lo hi lo' hi' : Nat} {w w' : World} (h : Out lo hi w w') (h1 : lo' ≤ lo) (h2 : hi ≤ hi') : Out lo' hi' w w' :=
  ⟨h.os, h.tape, h.output, h.size, fun k hk hr => h.block k hk (by omega)⟩
theorem Out.below {B lo hi : Nat} {w w' : World} (h : Out lo hi w w') (hB : B ≤ lo) (hs : B ≤ w.heap.size) : Below B w w' :=
  ⟨h.os, h.tape, h.output, h.size, fun k hk => h.block k (by omega) (by omega)⟩
theorem Out.ofBelow {lo hi : Nat} {w w' : World} (h : Below w.heap.size w w') : Out lo hi w w' := ⟨h.os, h.tape, h.output, h.size, fun k hk _ => h.block k hk⟩
theorem Kept.out {b lo hi : Nat} {w w' : World} (h : Kept b w w') (h1 : lo ≤ b) (h2 : b < hi) : Out lo hi w w' := ⟨h.os, h.tape, h.output, h.size, fun k hk hr => h.block k (by omega) hk⟩

theorem Own.out {lo hi : Nat} {w w' : World} {b n k : Nat} {l : List (Int × Int)} (h : Own w b n l k) (ho : Out lo hi w w') (hr : b < lo ∨ hi ≤ b) : Own w' b n l k := by
  obtain ⟨h1, h2, h3⟩ := h
  have e : ∀ o, w'.cell? ⟨b, o, none⟩ = w.cell? ⟨b, o, none⟩ := fun o => World.cell?_of_block (w := w) (ho.block b h1 hr)
  have f : ∀ o, w'.frozen? ⟨b, o, none⟩ = w.frozen? ⟨b, o, none⟩ := fun o => World.frozen?_of_block (w := w) (ho.block b h1 hr)
  refine ⟨Nat.lt_of_lt_of_le h1 ho.size, fun j hj => ?_, fun i hi => ?_⟩
  · rw [e, f]; exact h2 j hj
  · rw [e, e]; exact h3 i hi

theorem Box.out {lo hi : Nat} {w w' : World} {b : Nat} {v0 v1 v2 v3 : Value} (h : Box w b v0 v1 v2 v3) (ho : Out lo hi w w') (hr : b < lo ∨ hi ≤ b) : Box w' b v0 v1 v2 v3 := by
  have e : ∀ o, w'.cell? ⟨b, o, none⟩ = w.cell? ⟨b, o, none⟩ := fun o => World.cell?_of_block (w := w) (ho.block b h.lt hr)
  have f : ∀ o, w'.frozen? ⟨b, o, none⟩ = w.frozen? ⟨b, o, none⟩ := fun o => World.frozen?_of_block (w := w) (ho.block b h.lt hr)
  exact ⟨Nat.lt_of_lt_of_le h.lt ho.size, by rw [e]; exact h.c0, by rw [e]; exact h.c1, by rw [e]; exact h.c2, by rw [e]; exact h.c3, by rw [f]; exact h.f0, by rw [f]; exact h.f1, by rw [f]; exact h.f2, by rw [f]; exact h.f3⟩

theorem Out.set (b i : Nat) (w : World) (u : Value) : Out b (b + 1) w (w.setCell ⟨b, i, none⟩ u) := ((Kept.refl b w).set i u).out (Nat.le_refl _) (Nat.lt_succ_self _)

/-- A box of four cells, filled anew. -/
theorem Box.fill {w : World} {b : Nat} {v0 v1 v2 v3 : Value} (h : Box w b v0 v1 v2 v3) (u0 u1 u2 u3 : Value) :
    Box ((((w.setCell ⟨b, 0, none⟩ u0).setCell ⟨b, 1, none⟩ u1).setCell ⟨b, 2, none⟩ u2).setCell ⟨b, 3, none⟩ u3) b u0 u1 u2 u3 ∧ Out b (b + 1) w ((((w.setCell ⟨b, 0, none⟩ u0).setCell ⟨b, 1, none⟩ u1).setCell ⟨b, 2, none⟩ u2).setCell ⟨b, 3, none⟩ u3) :=
  ⟨(((h.set0 u0).set1 u1).set2 u2).set3 u3, (((Out.set b 0 w u0).trans (Out.set b 1 _ u1)).trans (Out.set b 2 _ u2)).trans (Out.set b 3 _ u3)⟩

/-- A slice of n pairs that reads as l, in a block of the call's own from lo to hi. -/
def RowIn (w : World) (lo hi : Nat) (a : Option Addr) (n : Nat) (l : List (Int × Int)) : Prop :=
  l.length = n ∧ (n = 0 ∨ ∃ b, a = some ⟨b, 0, none⟩ ∧ lo ≤ b ∧ b < hi ∧ Own w b n l n)

theorem RowIn.row {w : World} {lo hi : Nat} {a : Option Addr} {n : Nat} {l : List (Int × Int)} (h : RowIn w lo hi a n l) : PRow w a l := by
  obtain ⟨rfl, h0 | ⟨b, rfl, _, _, ho⟩⟩ := h
  · exact .inl (List.eq_nil_of_length_eq_zero h0)
  · exact ho.row

theorem RowIn.ofOwn {w : World} {lo hi b n : Nat} {l : List (Int × Int)} (h : Own w b n l n) (hl : l.length = n) (h1 : lo ≤ b) (h2 : b < hi) : RowIn w lo hi (some ⟨b, 0, none⟩) n l := ⟨hl, .inr ⟨b, rfl, h1, h2, h⟩⟩

theorem RowIn.out {lo hi lo' hi' : Nat} {w w' : World} {a : Option Addr} {n : Nat} {l : List (Int × Int)} (h : RowIn w lo hi a n l) (ho : Out lo' hi' w w') (hr : hi ≤ lo' ∨ hi' ≤ lo) : RowIn w' lo hi a n l := by
  obtain ⟨hl, h0 | ⟨b, rfl, h1, h2, h3⟩⟩ := h
  · exact ⟨hl, .inl h0⟩
  · exact ⟨hl, .inr ⟨b, rfl, h1, h2, h3.out ho (by omega)⟩⟩

theorem RowIn.below {lo hi B : Nat} {w w' : World} {a : Option Addr} {n : Nat} {l : List (Int × Int)} (h : RowIn w lo hi a n l) (ho : Below B w w') (hr : hi ≤ B) : RowIn w' lo hi a n l := by
  obtain ⟨hl, h0 | ⟨b, rfl, h1, h2, h3⟩⟩ := h
  · exact ⟨hl, .inl h0⟩
  · exact ⟨hl, .inr ⟨b, rfl, h1, h2, h3.below ho (by omega)⟩⟩

theorem RowIn.mono {lo hi lo' hi' : Nat} {w : World} {a : Option Addr} {n : Nat} {l : List (Int × Int)} (h : RowIn w lo hi a n l) (h1 : lo' ≤ lo) (h2 : hi ≤ hi') : RowIn w lo' hi' a n l := by
  obtain ⟨hl, h0 | ⟨b, rfl, h3, h4, h5⟩⟩ := h
  · exact ⟨hl, .inl h0⟩
  · exact ⟨hl, .inr ⟨b, rfl, by omega, by omega, h5⟩⟩

def marks (k : Int) (n : Nat) : List (Int × Int) := (List.range n).map fun (i : Nat) => (k + 2 * i, k + 2 * i + 1)
theorem marks_length (k : Int) (n : Nat) : (marks k n).length = n := by simp [marks]
theorem marks_at (k : Int) (n : Nat) {i : Nat} (h : i < n) : (marks k n).getD i (0, 0) = (k + 2 * i, k + 2 * i + 1) := by simp [marks, h]

/-- A row as writable cells alone. -/
theorem Own.zero {w : World} {b n k : Nat} {l m : List (Int × Int)} (h : Own w b n l k) : Own w b n m 0 := ⟨h.1, h.2.1, fun i hi => by omega⟩

set_option maxHeartbeats 400000 in
theorem markPairS_some (b n cap : Nat) (k : Int) (l : List (Int × Int)) (w : World) (hn : n ≤ 8388608) (h0 : 0 ≤ k) (h1 : k ≤ 67108864) (ho : Own w b n l 0) :
    Calls Try.prog 53 #[.slice (some ⟨b, 0, none⟩) n cap, .int .i64 k] w fun e w' => e = .returned (.int .i64 (k + 2 * n)) ∧ Own w' b n (marks k n) n ∧ Kept b w w' := by
  go_enter Try.func53, Try.ntmps53
  go_wp2
  go_loopw [1, 5] (fun q i wr => ∃ j : Nat, j ≤ n ∧ i = .int .i64 j ∧ q = .int .i64 (k + 2 * j) ∧ Own wr b n (marks k n) j ∧ Kept b w wr) (fun _ i _ => n - (intOf i).toNat)
  case atStart => exact ⟨0, Nat.zero_le _, rfl, by simp, ho.zero, Kept.refl _ _⟩
  case round =>
    obtain ⟨j, hj, rfl, rfl, hw, hkp⟩ := hrel
    by_cases hlt : j < n
    · obtain ⟨v0, hv0⟩ := (hw.2.1 (j * 2) (by omega)).1
      obtain ⟨v1, hv1⟩ := (hw.2.1 (j * 2 + 1) (by omega)).1
      have hf0 := (hw.2.1 (j * 2) (by omega)).2
      have hf1 := (hw.2.1 (j * 2 + 1) (by omega)).2
      have hst := hw.step hlt
      rw [marks_at k n hlt] at hst
      have hk2 := (hkp.set (j * 2) (.int .i64 (k + 2 * j))).set (j * 2 + 1) (.int .i64 (k + 2 * j + 1))
      clear hw hkp
      go_wp2
      go_roundw
      case rel => exact ⟨j + 1, by omega, by go_num, by go_num, hst, hk2⟩
      case measure => simp [intOf]; omega
    · obtain rfl : j = n := by omega
      go_wp2
      go_ret
      exact ⟨rfl, hw, hkp⟩

set_option maxHeartbeats 400000 in
theorem markPairS_none (a : Option Addr) (cap : Nat) (k : Int) (w : World) : Calls Try.prog 53 #[.slice a 0 cap, .int .i64 k] w fun e w' => e = .returned (.int .i64 k) ∧ w' = w := by
  go_enter Try.func53, Try.ntmps53
  go_wp2
  go_loop [1, 5] (fun q i => i = .int .i64 0 ∧ q = .int .i64 k) (fun _ _ => 0)
  case atStart => exact ⟨rfl, rfl⟩
  case round =>
    obtain ⟨rfl, rfl⟩ := hrel
    go_wp2
    go_ret
    exact ⟨rfl, rfl⟩

theorem markPairS_any (lo hi : Nat) (a : Option Addr) (n cap : Nat) (k : Int) (l : List (Int × Int)) (w : World) (hn : n ≤ 8388608) (h0 : 0 ≤ k) (h1 : k ≤ 67108864) (hr : RowIn w lo hi a n l) :
    Calls Try.prog 53 #[.slice a n cap, .int .i64 k] w fun e w' => e = .returned (.int .i64 (k + 2 * n)) ∧ RowIn w' lo hi a n (marks k n) ∧ Out lo hi w w' := by
  obtain ⟨hl, rfl | ⟨b, rfl, h2, h3, ho⟩⟩ := hr
  · exact (markPairS_none a cap k w).mono fun e w' ⟨he, hw⟩ => ⟨by rw [he]; simp, hw ▸ ⟨by simp [marks], .inl rfl⟩, hw ▸ Out.refl _ _ _⟩
  · exact (markPairS_some b n cap k l w hn h0 h1 ho.zero).mono fun e w' ⟨he, h4, h5⟩ => ⟨he, RowIn.ofOwn h4 (marks_length k n) h2 h3, h5.out h2 h3⟩

set_option maxHeartbeats 400000 in
theorem heldPairS_some (b n cap : Nat) (k : Int) (w : World) (hn : n ≤ 8388608) (h0 : 0 ≤ k) (h1 : k ≤ 67108864) (ho : Own w b n (marks k n) n) :
    Calls Try.prog 54 #[.slice (some ⟨b, 0, none⟩) n cap, .int .i64 k] w fun e w' => e = .returned (.int .i64 (k + 2 * n)) ∧ w' = w := by
  go_enter Try.func54, Try.ntmps54
  go_wp2
  go_loop [1, 5] (fun q i => ∃ j : Nat, j ≤ n ∧ i = .int .i64 j ∧ q = .int .i64 (k + 2 * j)) (fun _ i => n - (intOf i).toNat)
  case atStart => exact ⟨0, Nat.zero_le _, rfl, by simp⟩
  case round =>
    obtain ⟨j, hj, rfl, rfl⟩ := hrel
    by_cases hlt : j < n
    · have hx := (ho.2.2 j hlt).1
      have hy := (ho.2.2 j hlt).2
      rw [marks_at k n hlt] at hx hy
      go_wp2
      go_round
      case rel => exact ⟨j + 1, by omega, by go_num, by go_num⟩
      case measure => simp [intOf]; omega
    · obtain rfl : j = n := by omega
      go_wp2
      go_ret
      exact ⟨rfl, rfl⟩

set_option maxHeartbeats 400000 in
theorem heldPairS_none (a : Option Addr) (cap : Nat) (k : Int) (w : World) : Calls Try.prog 54 #[.slice a 0 cap, .int .i64 k] w fun e w' => e = .returned (.int .i64 k) ∧ w' = w := by
  go_enter Try.func54, Try.ntmps54
  go_wp2
  go_loop [1, 5] (fun q i => i = .int .i64 0 ∧ q = .int .i64 k) (fun _ _ => 0)
  case atStart => exact ⟨rfl, rfl⟩
  case round =>
    obtain ⟨rfl, rfl⟩ := hrel
    go_wp2
    go_ret
    exact ⟨rfl, rfl⟩

theorem heldPairS_any (lo hi : Nat) (a : Option Addr) (n cap : Nat) (k : Int) (w : World) (hn : n ≤ 8388608) (h0 : 0 ≤ k) (h1 : k ≤ 67108864) (hr : RowIn w lo hi a n (marks k n)) :
    Calls Try.prog 54 #[.slice a n cap, .int .i64 k] w fun e w' => e = .returned (.int .i64 (k + 2 * n)) ∧ w' = w := by
  obtain ⟨hl, rfl | ⟨b, rfl, h2, h3, ho⟩⟩ := hr
  · exact (heldPairS_none a cap k w).mono fun e w' ⟨he, hw⟩ => ⟨by rw [he]; simp, hw⟩
  · exact heldPairS_some b n cap k w hn h0 h1 ho

theorem eqPairS_rows (lo hi lo' hi' : Nat) (a a' : Option Addr) (n cap cap' : Nat) (l : List (Int × Int)) (w : World) (hn : n ≤ 1048576) (hr : RowIn w lo hi a n l) (hr' : RowIn w lo' hi' a' n l) :
    Calls Try.prog 52 #[.slice a n cap, .slice a' n cap'] w fun e w' => e = .returned (.bool true) ∧ Below w.heap.size w w' := by
  have h := hr.row
  have h' := hr'.row
  obtain ⟨rfl, _⟩ := hr
  exact eqPairS_same a a' cap cap' l w hn h h'

set_option maxHeartbeats 1000000 in
theorem markAsn_any (lo h1 h2 h3 hi : Nat) (a0 a1 a2 a3 : Option Addr) (n0 n1 n2 n3 c0 c1 c2 c3 : Nat) (l0 l1 l2 l3 : List (Int × Int)) (w : World)
    (m0 : n0 ≤ 2097152) (m1 : n1 ≤ 2097152) (m2 : n2 ≤ 2097152) (m3 : n3 ≤ 2097152) (q0 : lo ≤ h1) (q1 : h1 ≤ h2) (q2 : h2 ≤ h3) (q3 : h3 ≤ hi) (hs : hi ≤ w.heap.size)
    (r0 : RowIn w lo h1 a0 n0 l0) (r1 : RowIn w h1 h2 a1 n1 l1) (r2 : RowIn w h2 h3 a2 n2 l2) (r3 : RowIn w h3 hi a3 n3 l3) :
    Calls Try.prog 44 #[.agg #[.slice a0 n0 c0, .slice a1 n1 c1, .slice a2 n2 c2, .slice a3 n3 c3], .int .i64 1] w fun e w' => e = .returned (.int .i64 (1 + 2 * n0 + 2 * n1 + 2 * n2 + 2 * n3)) ∧
      RowIn w' lo h1 a0 n0 (marks 1 n0) ∧ RowIn w' h1 h2 a1 n1 (marks (1 + 2 * n0) n1) ∧ RowIn w' h2 h3 a2 n2 (marks (1 + 2 * n0 + 2 * n1) n2) ∧ RowIn w' h3 hi a3 n3 (marks (1 + 2 * n0 + 2 * n1 + 2 * n2) n3) ∧ Out lo hi w w' := by
  have B0 := Box.new w (.slice a0 n0 c0) (.slice a1 n1 c1) (.slice a2 n2 c2) (.slice a3 n3 c3) 28
  have L : Below w.heap.size w (w.alloc (.cells #[.slice a0 n0 c0, .slice a1 n1 c1, .slice a2 n2 c2, .slice a3 n3 c3] 28)) := (Below.refl _ _).alloc (Nat.le_refl _) _
  have O0 : Out lo hi w (w.alloc (.cells #[.slice a0 n0 c0, .slice a1 n1 c1, .slice a2 n2 c2, .slice a3 n3 c3] 28)) := Out.ofBelow L
  replace r0 := r0.below L (by omega); replace r1 := r1.below L (by omega); replace r2 := r2.below L (by omega); replace r3 := r3.below L (by omega)
  clear L
  go_enter Try.func44, Try.ntmps44
  go_wp2_with fail
  refine (markPairS_any lo h1 _ _ _ _ _ _ (by omega) (by omega) (by omega) (by exact r0)).mono ?_
  rintro e w1 ⟨rfl, t0, ho⟩
  have B1 := B0.out ho (by omega)
  have O1 := O0.trans (ho.mono (by omega) (by omega))
  replace r1 := r1.out ho (by omega)
  replace r2 := r2.out ho (by omega)
  replace r3 := r3.out ho (by omega)
  clear ho B0 O0 r0
  have x := B1.c1
  go_wp2_with fail
  clear x
  refine (markPairS_any h1 h2 _ _ _ _ _ _ (by omega) (by omega) (by omega) (by exact r1)).mono ?_
  rintro e w2 ⟨rfl, t1, ho⟩
  have B2 := B1.out ho (by omega)
  have O2 := O1.trans (ho.mono (by omega) (by omega))
  replace t0 := t0.out ho (by omega)
  replace r2 := r2.out ho (by omega)
  replace r3 := r3.out ho (by omega)
  clear ho B1 O1 r1
  have x := B2.c2
  go_wp2_with fail
  clear x
  refine (markPairS_any h2 h3 _ _ _ _ _ _ (by omega) (by omega) (by omega) (by exact r2)).mono ?_
  rintro e w3 ⟨rfl, t2, ho⟩
  have B3 := B2.out ho (by omega)
  have O3 := O2.trans (ho.mono (by omega) (by omega))
  replace t0 := t0.out ho (by omega)
  replace t1 := t1.out ho (by omega)
  replace r3 := r3.out ho (by omega)
  clear ho B2 O2 r2
  have x := B3.c3
  go_wp2_with fail
  clear x
  refine (markPairS_any h3 hi _ _ _ _ _ _ (by omega) (by omega) (by omega) (by exact r3)).mono ?_
  rintro e w4 ⟨rfl, t3, ho⟩
  have B4 := B3.out ho (by omega)
  have O4 := O3.trans (ho.mono (by omega) (by omega))
  replace t0 := t0.out ho (by omega)
  replace t1 := t1.out ho (by omega)
  replace t2 := t2.out ho (by omega)
  clear ho B3 O3 r3
  go_wp2
  go_ret
  exact ⟨rfl, t0, t1, t2, t3, O4⟩

set_option maxHeartbeats 1000000 in
theorem heldAsn_any (lo h1 h2 h3 hi : Nat) (a0 a1 a2 a3 : Option Addr) (n0 n1 n2 n3 c0 c1 c2 c3 : Nat) (w : World)
    (m0 : n0 ≤ 2097152) (m1 : n1 ≤ 2097152) (m2 : n2 ≤ 2097152) (m3 : n3 ≤ 2097152) (_q0 : lo ≤ h1) (q1 : h1 ≤ h2) (q2 : h2 ≤ h3) (q3 : h3 ≤ hi) (hs : hi ≤ w.heap.size)
    (r0 : RowIn w lo h1 a0 n0 (marks 1 n0)) (r1 : RowIn w h1 h2 a1 n1 (marks (1 + 2 * n0) n1)) (r2 : RowIn w h2 h3 a2 n2 (marks (1 + 2 * n0 + 2 * n1) n2)) (r3 : RowIn w h3 hi a3 n3 (marks (1 + 2 * n0 + 2 * n1 + 2 * n2) n3)) :
    Calls Try.prog 45 #[.agg #[.slice a0 n0 c0, .slice a1 n1 c1, .slice a2 n2 c2, .slice a3 n3 c3], .int .i64 1] w fun e w' => e = .returned (.int .i64 (1 + 2 * n0 + 2 * n1 + 2 * n2 + 2 * n3)) ∧ Below w.heap.size w w' := by
  have L : Below w.heap.size w (w.alloc (.cells #[.slice a0 n0 c0, .slice a1 n1 c1, .slice a2 n2 c2, .slice a3 n3 c3] 28)) := (Below.refl _ _).alloc (Nat.le_refl _) _
  replace r0 := r0.below L (by omega); replace r1 := r1.below L (by omega); replace r2 := r2.below L (by omega); replace r3 := r3.below L (by omega)
  go_enter Try.func45, Try.ntmps45
  go_wp2_with fail
  refine (heldPairS_any lo h1 _ _ _ _ _ (by omega) (by omega) (by omega) (by exact r0)).mono ?_
  rintro e w1 ⟨rfl, rfl⟩
  go_wp2_with fail
  refine (heldPairS_any h1 h2 _ _ _ _ _ (by omega) (by omega) (by omega) (by exact r1)).mono ?_
  rintro e w1 ⟨rfl, rfl⟩
  go_wp2_with fail
  refine (heldPairS_any h2 h3 _ _ _ _ _ (by omega) (by omega) (by omega) (by exact r2)).mono ?_
  rintro e w1 ⟨rfl, rfl⟩
  go_wp2_with fail
  refine (heldPairS_any h3 hi _ _ _ _ _ (by omega) (by omega) (by omega) (by exact r3)).mono ?_
  rintro e w1 ⟨rfl, rfl⟩
  go_wp2
  go_ret
  exact ⟨rfl, L⟩

end Go.Proofs.Ytphchdjbhbmnbaa
namespace Go.Proofs.Ytphchdjbhbmnbaa
open Go.RowKit

set_option maxHeartbeats 1000000 in
theorem markAsn_gen (lo hi s0 t0 s1 t1 s2 t2 s3 t3 : Nat) (a0 a1 a2 a3 : Option Addr) (n0 n1 n2 n3 c0 c1 c2 c3 : Nat) (l0 l1 l2 l3 : List (Int × Int)) (k : Int) (w : World)
    (hk0 : 0 ≤ k) (hk : k ≤ 33554432) (m0 : n0 ≤ 2097152) (m1 : n1 ≤ 2097152) (m2 : n2 ≤ 2097152) (m3 : n3 ≤ 2097152) (p0 : lo ≤ s0) (p1 : lo ≤ s1) (p2 : lo ≤ s2) (p3 : lo ≤ s3) (q0 : t0 ≤ hi) (q1 : t1 ≤ hi) (q2 : t2 ≤ hi) (q3 : t3 ≤ hi) (d01 : t0 ≤ s1 ∨ t1 ≤ s0) (d02 : t0 ≤ s2 ∨ t2 ≤ s0) (d03 : t0 ≤ s3 ∨ t3 ≤ s0) (d12 : t1 ≤ s2 ∨ t2 ≤ s1) (d13 : t1 ≤ s3 ∨ t3 ≤ s1) (d23 : t2 ≤ s3 ∨ t3 ≤ s2) (hs : hi ≤ w.heap.size)
    (r0 : RowIn w s0 t0 a0 n0 l0) (r1 : RowIn w s1 t1 a1 n1 l1) (r2 : RowIn w s2 t2 a2 n2 l2) (r3 : RowIn w s3 t3 a3 n3 l3) :
    Calls Try.prog 44 #[.agg #[.slice a0 n0 c0, .slice a1 n1 c1, .slice a2 n2 c2, .slice a3 n3 c3], .int .i64 k] w fun e w' => e = .returned (.int .i64 (k + 2 * n0 + 2 * n1 + 2 * n2 + 2 * n3)) ∧
      RowIn w' s0 t0 a0 n0 (marks (k) n0) ∧ RowIn w' s1 t1 a1 n1 (marks (k + 2 * n0) n1) ∧ RowIn w' s2 t2 a2 n2 (marks (k + 2 * n0 + 2 * n1) n2) ∧ RowIn w' s3 t3 a3 n3 (marks (k + 2 * n0 + 2 * n1 + 2 * n2) n3) ∧ Out lo hi w w' := by
  have B0 := Box.new w (.slice a0 n0 c0) (.slice a1 n1 c1) (.slice a2 n2 c2) (.slice a3 n3 c3) 28
  have L : Below w.heap.size w (w.alloc (.cells #[.slice a0 n0 c0, .slice a1 n1 c1, .slice a2 n2 c2, .slice a3 n3 c3] 28)) := (Below.refl _ _).alloc (Nat.le_refl _) _
  have O0 : Out lo hi w (w.alloc (.cells #[.slice a0 n0 c0, .slice a1 n1 c1, .slice a2 n2 c2, .slice a3 n3 c3] 28)) := Out.ofBelow L
  replace r0 := r0.below L (by omega); replace r1 := r1.below L (by omega); replace r2 := r2.below L (by omega); replace r3 := r3.below L (by omega)
  clear L
  go_enter Try.func44, Try.ntmps44
  go_wp2_with fail
  refine (markPairS_any s0 t0 _ _ _ _ _ _ (by omega) (by omega) (by omega) (by exact r0)).mono ?_
  rintro e w1 ⟨rfl, u0, ho⟩
  have B1 := B0.out ho (by omega)
  have O1 := O0.trans (ho.mono (by omega) (by omega))
  replace r1 := r1.out ho (by omega)
  replace r2 := r2.out ho (by omega)
  replace r3 := r3.out ho (by omega)
  clear ho B0 O0 r0
  have x := B1.c1
  go_wp2_with fail
  clear x
  refine (markPairS_any s1 t1 _ _ _ _ _ _ (by omega) (by omega) (by omega) (by exact r1)).mono ?_
  rintro e w2 ⟨rfl, u1, ho⟩
  have B2 := B1.out ho (by omega)
  have O2 := O1.trans (ho.mono (by omega) (by omega))
  replace u0 := u0.out ho (by omega)
  replace r2 := r2.out ho (by omega)
  replace r3 := r3.out ho (by omega)
  clear ho B1 O1 r1
  have x := B2.c2
  go_wp2_with fail
  clear x
  refine (markPairS_any s2 t2 _ _ _ _ _ _ (by omega) (by omega) (by omega) (by exact r2)).mono ?_
  rintro e w3 ⟨rfl, u2, ho⟩
  have B3 := B2.out ho (by omega)
  have O3 := O2.trans (ho.mono (by omega) (by omega))
  replace u0 := u0.out ho (by omega)
  replace u1 := u1.out ho (by omega)
  replace r3 := r3.out ho (by omega)
  clear ho B2 O2 r2
  have x := B3.c3
  go_wp2_with fail
  clear x
  refine (markPairS_any s3 t3 _ _ _ _ _ _ (by omega) (by omega) (by omega) (by exact r3)).mono ?_
  rintro e w4 ⟨rfl, u3, ho⟩
  have B4 := B3.out ho (by omega)
  have O4 := O3.trans (ho.mono (by omega) (by omega))
  replace u0 := u0.out ho (by omega)
  replace u1 := u1.out ho (by omega)
  replace u2 := u2.out ho (by omega)
  clear ho B3 O3 r3
  go_wp2
  go_ret
  exact ⟨rfl, u0, u1, u2, u3, O4⟩

set_option maxHeartbeats 1000000 in
theorem heldAsn_gen (s0 t0 s1 t1 s2 t2 s3 t3 : Nat) (a0 a1 a2 a3 : Option Addr) (n0 n1 n2 n3 c0 c1 c2 c3 : Nat) (k : Int) (w : World)
    (hk0 : 0 ≤ k) (hk : k ≤ 33554432) (m0 : n0 ≤ 2097152) (m1 : n1 ≤ 2097152) (m2 : n2 ≤ 2097152) (m3 : n3 ≤ 2097152) (q0 : t0 ≤ w.heap.size) (q1 : t1 ≤ w.heap.size) (q2 : t2 ≤ w.heap.size) (q3 : t3 ≤ w.heap.size)
    (r0 : RowIn w s0 t0 a0 n0 (marks (k) n0)) (r1 : RowIn w s1 t1 a1 n1 (marks (k + 2 * n0) n1)) (r2 : RowIn w s2 t2 a2 n2 (marks (k + 2 * n0 + 2 * n1) n2)) (r3 : RowIn w s3 t3 a3 n3 (marks (k + 2 * n0 + 2 * n1 + 2 * n2) n3)) :
    Calls Try.prog 45 #[.agg #[.slice a0 n0 c0, .slice a1 n1 c1, .slice a2 n2 c2, .slice a3 n3 c3], .int .i64 k] w fun e w' => e = .returned (.int .i64 (k + 2 * n0 + 2 * n1 + 2 * n2 + 2 * n3)) ∧ Below w.heap.size w w' := by
  have L : Below w.heap.size w (w.alloc (.cells #[.slice a0 n0 c0, .slice a1 n1 c1, .slice a2 n2 c2, .slice a3 n3 c3] 28)) := (Below.refl _ _).alloc (Nat.le_refl _) _
  replace r0 := r0.below L (by omega); replace r1 := r1.below L (by omega); replace r2 := r2.below L (by omega); replace r3 := r3.below L (by omega)
  go_enter Try.func45, Try.ntmps45
  go_wp2_with fail
  refine (heldPairS_any s0 t0 _ _ _ _ _ (by omega) (by omega) (by omega) (by exact r0)).mono ?_
  rintro e w1 ⟨rfl, rfl⟩
  go_wp2_with fail
  refine (heldPairS_any s1 t1 _ _ _ _ _ (by omega) (by omega) (by omega) (by exact r1)).mono ?_
  rintro e w1 ⟨rfl, rfl⟩
  go_wp2_with fail
  refine (heldPairS_any s2 t2 _ _ _ _ _ (by omega) (by omega) (by omega) (by exact r2)).mono ?_
  rintro e w1 ⟨rfl, rfl⟩
  go_wp2_with fail
  refine (heldPairS_any s3 t3 _ _ _ _ _ (by omega) (by omega) (by omega) (by exact r3)).mono ?_
  rintro e w1 ⟨rfl, rfl⟩
  go_wp2
  go_ret
  exact ⟨rfl, L⟩

end Go.Proofs.Ytphchdjbhbmnbaa
namespace Go.Proofs.Ytphchdjbhbmnbaa
open Go.RowKit

/-- Four rows of pairs in blocks from lo to hi, no two in one block. -/
def Four (w : World) (lo hi : Nat) (a0 a1 a2 a3 : Option Addr) (n0 n1 n2 n3 : Nat) (l0 l1 l2 l3 : List (Int × Int)) : Prop :=
  ∃ s0 t0 s1 t1 s2 t2 s3 t3, (lo ≤ s0 ∧ t0 ≤ hi ∧ RowIn w s0 t0 a0 n0 l0) ∧ (lo ≤ s1 ∧ t1 ≤ hi ∧ RowIn w s1 t1 a1 n1 l1) ∧ (lo ≤ s2 ∧ t2 ≤ hi ∧ RowIn w s2 t2 a2 n2 l2) ∧ (lo ≤ s3 ∧ t3 ≤ hi ∧ RowIn w s3 t3 a3 n3 l3) ∧ (t0 ≤ s1 ∨ t1 ≤ s0) ∧ (t0 ≤ s2 ∨ t2 ≤ s0) ∧ (t0 ≤ s3 ∨ t3 ≤ s0) ∧ (t1 ≤ s2 ∨ t2 ≤ s1) ∧ (t1 ≤ s3 ∨ t3 ≤ s1) ∧ (t2 ≤ s3 ∨ t3 ≤ s2)

/-- Four rows of pairs in blocks from lo to hi. -/
def Seen (w : World) (lo hi : Nat) (a0 a1 a2 a3 : Option Addr) (n0 n1 n2 n3 : Nat) (l0 l1 l2 l3 : List (Int × Int)) : Prop :=
  RowIn w lo hi a0 n0 l0 ∧ RowIn w lo hi a1 n1 l1 ∧ RowIn w lo hi a2 n2 l2 ∧ RowIn w lo hi a3 n3 l3

theorem Four.below {B : Nat} {w' : World} {w : World} {lo hi : Nat} {a0 a1 a2 a3 : Option Addr} {n0 n1 n2 n3 : Nat} {l0 l1 l2 l3 : List (Int × Int)} (h : Four w lo hi a0 a1 a2 a3 n0 n1 n2 n3 l0 l1 l2 l3) (hb : Below B w w') (hr : hi ≤ B) : Four w' lo hi a0 a1 a2 a3 n0 n1 n2 n3 l0 l1 l2 l3 := by
  obtain ⟨s0, t0, s1, t1, s2, t2, s3, t3, ⟨p0, q0, r0⟩, ⟨p1, q1, r1⟩, ⟨p2, q2, r2⟩, ⟨p3, q3, r3⟩, d01, d02, d03, d12, d13, d23⟩ := h
  exact ⟨s0, t0, s1, t1, s2, t2, s3, t3, ⟨p0, q0, r0.below hb (by omega)⟩, ⟨p1, q1, r1.below hb (by omega)⟩, ⟨p2, q2, r2.below hb (by omega)⟩, ⟨p3, q3, r3.below hb (by omega)⟩, d01, d02, d03, d12, d13, d23⟩

theorem Four.out {lo' hi' : Nat} {w' : World} {w : World} {lo hi : Nat} {a0 a1 a2 a3 : Option Addr} {n0 n1 n2 n3 : Nat} {l0 l1 l2 l3 : List (Int × Int)} (h : Four w lo hi a0 a1 a2 a3 n0 n1 n2 n3 l0 l1 l2 l3) (hb : Out lo' hi' w w') (hr : hi ≤ lo' ∨ hi' ≤ lo) : Four w' lo hi a0 a1 a2 a3 n0 n1 n2 n3 l0 l1 l2 l3 := by
  obtain ⟨s0, t0, s1, t1, s2, t2, s3, t3, ⟨p0, q0, r0⟩, ⟨p1, q1, r1⟩, ⟨p2, q2, r2⟩, ⟨p3, q3, r3⟩, d01, d02, d03, d12, d13, d23⟩ := h
  exact ⟨s0, t0, s1, t1, s2, t2, s3, t3, ⟨p0, q0, r0.out hb (by omega)⟩, ⟨p1, q1, r1.out hb (by omega)⟩, ⟨p2, q2, r2.out hb (by omega)⟩, ⟨p3, q3, r3.out hb (by omega)⟩, d01, d02, d03, d12, d13, d23⟩

theorem Four.mono {lo' hi' : Nat} {w : World} {lo hi : Nat} {a0 a1 a2 a3 : Option Addr} {n0 n1 n2 n3 : Nat} {l0 l1 l2 l3 : List (Int × Int)} (h : Four w lo hi a0 a1 a2 a3 n0 n1 n2 n3 l0 l1 l2 l3) (h1 : lo' ≤ lo) (h2 : hi ≤ hi') : Four w lo' hi' a0 a1 a2 a3 n0 n1 n2 n3 l0 l1 l2 l3 := by
  obtain ⟨s0, t0, s1, t1, s2, t2, s3, t3, ⟨p0, q0, r0⟩, ⟨p1, q1, r1⟩, ⟨p2, q2, r2⟩, ⟨p3, q3, r3⟩, d01, d02, d03, d12, d13, d23⟩ := h
  exact ⟨s0, t0, s1, t1, s2, t2, s3, t3, ⟨by omega, by omega, r0⟩, ⟨by omega, by omega, r1⟩, ⟨by omega, by omega, r2⟩, ⟨by omega, by omega, r3⟩, d01, d02, d03, d12, d13, d23⟩

theorem Four.seen {w : World} {lo hi : Nat} {a0 a1 a2 a3 : Option Addr} {n0 n1 n2 n3 : Nat} {l0 l1 l2 l3 : List (Int × Int)} (h : Four w lo hi a0 a1 a2 a3 n0 n1 n2 n3 l0 l1 l2 l3) : Seen w lo hi a0 a1 a2 a3 n0 n1 n2 n3 l0 l1 l2 l3 := by
  obtain ⟨s0, t0, s1, t1, s2, t2, s3, t3, ⟨p0, q0, r0⟩, ⟨p1, q1, r1⟩, ⟨p2, q2, r2⟩, ⟨p3, q3, r3⟩, d01, d02, d03, d12, d13, d23⟩ := h
  exact ⟨r0.mono p0 q0, r1.mono p1 q1, r2.mono p2 q2, r3.mono p3 q3⟩

theorem Seen.below {B : Nat} {w' : World} {w : World} {lo hi : Nat} {a0 a1 a2 a3 : Option Addr} {n0 n1 n2 n3 : Nat} {l0 l1 l2 l3 : List (Int × Int)} (h : Seen w lo hi a0 a1 a2 a3 n0 n1 n2 n3 l0 l1 l2 l3) (hb : Below B w w') (hr : hi ≤ B) : Seen w' lo hi a0 a1 a2 a3 n0 n1 n2 n3 l0 l1 l2 l3 :=
  ⟨h.1.below hb hr, h.2.1.below hb hr, h.2.2.1.below hb hr, h.2.2.2.below hb hr⟩

theorem Seen.out {lo' hi' : Nat} {w' : World} {w : World} {lo hi : Nat} {a0 a1 a2 a3 : Option Addr} {n0 n1 n2 n3 : Nat} {l0 l1 l2 l3 : List (Int × Int)} (h : Seen w lo hi a0 a1 a2 a3 n0 n1 n2 n3 l0 l1 l2 l3) (hb : Out lo' hi' w w') (hr : hi ≤ lo' ∨ hi' ≤ lo) : Seen w' lo hi a0 a1 a2 a3 n0 n1 n2 n3 l0 l1 l2 l3 :=
  ⟨h.1.out hb hr, h.2.1.out hb hr, h.2.2.1.out hb hr, h.2.2.2.out hb hr⟩

theorem Seen.mono {lo' hi' : Nat} {w : World} {lo hi : Nat} {a0 a1 a2 a3 : Option Addr} {n0 n1 n2 n3 : Nat} {l0 l1 l2 l3 : List (Int × Int)} (h : Seen w lo hi a0 a1 a2 a3 n0 n1 n2 n3 l0 l1 l2 l3) (hl : lo' ≤ lo) (hr : hi ≤ hi') : Seen w lo' hi' a0 a1 a2 a3 n0 n1 n2 n3 l0 l1 l2 l3 :=
  ⟨h.1.mono hl hr, h.2.1.mono hl hr, h.2.2.1.mono hl hr, h.2.2.2.mono hl hr⟩

theorem Four.ofOwn {w : World} {lo hi b0 b1 b2 b3 : Nat} {l0 l1 l2 l3 : List (Int × Int)} (h0 : lo ≤ b0) (h1 : b0 < b1) (h2 : b1 < b2) (h3 : b2 < b3) (h4 : b3 < hi) (o0 : Own w b0 l0.length l0 l0.length) (o1 : Own w b1 l1.length l1 l1.length) (o2 : Own w b2 l2.length l2 l2.length) (o3 : Own w b3 l3.length l3 l3.length) :
    Four w lo hi (some ⟨b0, 0, none⟩) (some ⟨b1, 0, none⟩) (some ⟨b2, 0, none⟩) (some ⟨b3, 0, none⟩) l0.length l1.length l2.length l3.length l0 l1 l2 l3 :=
  ⟨b0, b0 + 1, b1, b1 + 1, b2, b2 + 1, b3, b3 + 1, ⟨by omega, by omega, RowIn.ofOwn o0 rfl (Nat.le_refl _) (by omega)⟩, ⟨by omega, by omega, RowIn.ofOwn o1 rfl (Nat.le_refl _) (by omega)⟩, ⟨by omega, by omega, RowIn.ofOwn o2 rfl (Nat.le_refl _) (by omega)⟩, ⟨by omega, by omega, RowIn.ofOwn o3 rfl (Nat.le_refl _) (by omega)⟩, by omega, by omega, by omega, by omega, by omega, by omega⟩

theorem Seen.none (w : World) (lo hi : Nat) : Seen w lo hi none none none none 0 0 0 0 [] [] [] [] := ⟨⟨rfl, .inl rfl⟩, ⟨rfl, .inl rfl⟩, ⟨rfl, .inl rfl⟩, ⟨rfl, .inl rfl⟩⟩

theorem Four.none (w : World) (lo : Nat) : Four w lo lo none none none none 0 0 0 0 [] [] [] [] :=
  ⟨lo, lo, lo, lo, lo, lo, lo, lo, ⟨Nat.le_refl _, Nat.le_refl _, rfl, .inl rfl⟩, ⟨Nat.le_refl _, Nat.le_refl _, rfl, .inl rfl⟩, ⟨Nat.le_refl _, Nat.le_refl _, rfl, .inl rfl⟩, ⟨Nat.le_refl _, Nat.le_refl _, rfl, .inl rfl⟩, .inl (Nat.le_refl _), .inl (Nat.le_refl _), .inl (Nat.le_refl _), .inl (Nat.le_refl _), .inl (Nat.le_refl _), .inl (Nat.le_refl _)⟩

theorem markAsn_four (lo hi : Nat) (a0 a1 a2 a3 : Option Addr) (n0 n1 n2 n3 c0 c1 c2 c3 : Nat) (l0 l1 l2 l3 : List (Int × Int)) (k : Int) (w : World)
    (hk0 : 0 ≤ k) (hk : k ≤ 33554432) (m0 : n0 ≤ 2097152) (m1 : n1 ≤ 2097152) (m2 : n2 ≤ 2097152) (m3 : n3 ≤ 2097152) (hs : hi ≤ w.heap.size) (h : Four w lo hi a0 a1 a2 a3 n0 n1 n2 n3 l0 l1 l2 l3) :
    Calls Try.prog 44 #[.agg #[.slice a0 n0 c0, .slice a1 n1 c1, .slice a2 n2 c2, .slice a3 n3 c3], .int .i64 k] w fun e w' => e = .returned (.int .i64 (k + 2 * (n0 : Int) + 2 * (n1 : Int) + 2 * (n2 : Int) + 2 * (n3 : Int))) ∧ Four w' lo hi a0 a1 a2 a3 n0 n1 n2 n3 (marks (k) n0) (marks (k + 2 * (n0 : Int)) n1) (marks (k + 2 * (n0 : Int) + 2 * (n1 : Int)) n2) (marks (k + 2 * (n0 : Int) + 2 * (n1 : Int) + 2 * (n2 : Int)) n3) ∧ Out lo hi w w' := by
  obtain ⟨s0, t0, s1, t1, s2, t2, s3, t3, ⟨p0, q0, r0⟩, ⟨p1, q1, r1⟩, ⟨p2, q2, r2⟩, ⟨p3, q3, r3⟩, d01, d02, d03, d12, d13, d23⟩ := h
  refine (markAsn_gen lo hi s0 t0 s1 t1 s2 t2 s3 t3 a0 a1 a2 a3 n0 n1 n2 n3 c0 c1 c2 c3 l0 l1 l2 l3 k w hk0 hk m0 m1 m2 m3 p0 p1 p2 p3 q0 q1 q2 q3 d01 d02 d03 d12 d13 d23 hs r0 r1 r2 r3).mono ?_
  rintro e w' ⟨rfl, u0, u1, u2, u3, ho⟩
  exact ⟨rfl, ⟨s0, t0, s1, t1, s2, t2, s3, t3, ⟨p0, q0, u0⟩, ⟨p1, q1, u1⟩, ⟨p2, q2, u2⟩, ⟨p3, q3, u3⟩, d01, d02, d03, d12, d13, d23⟩, ho⟩

theorem heldAsn_four (lo hi : Nat) (a0 a1 a2 a3 : Option Addr) (n0 n1 n2 n3 c0 c1 c2 c3 : Nat) (k : Int) (w : World)
    (hk0 : 0 ≤ k) (hk : k ≤ 33554432) (m0 : n0 ≤ 2097152) (m1 : n1 ≤ 2097152) (m2 : n2 ≤ 2097152) (m3 : n3 ≤ 2097152) (hs : hi ≤ w.heap.size) (h : Four w lo hi a0 a1 a2 a3 n0 n1 n2 n3 (marks (k) n0) (marks (k + 2 * (n0 : Int)) n1) (marks (k + 2 * (n0 : Int) + 2 * (n1 : Int)) n2) (marks (k + 2 * (n0 : Int) + 2 * (n1 : Int) + 2 * (n2 : Int)) n3)) :
    Calls Try.prog 45 #[.agg #[.slice a0 n0 c0, .slice a1 n1 c1, .slice a2 n2 c2, .slice a3 n3 c3], .int .i64 k] w fun e w' => e = .returned (.int .i64 (k + 2 * (n0 : Int) + 2 * (n1 : Int) + 2 * (n2 : Int) + 2 * (n3 : Int))) ∧ Below w.heap.size w w' := by
  obtain ⟨s0, t0, s1, t1, s2, t2, s3, t3, ⟨p0, q0, r0⟩, ⟨p1, q1, r1⟩, ⟨p2, q2, r2⟩, ⟨p3, q3, r3⟩, d01, d02, d03, d12, d13, d23⟩ := h
  exact heldAsn_gen s0 t0 s1 t1 s2 t2 s3 t3 a0 a1 a2 a3 n0 n1 n2 n3 c0 c1 c2 c3 k w hk0 hk m0 m1 m2 m3 (by omega) (by omega) (by omega) (by omega) r0 r1 r2 r3

theorem eqAsn_seen (lo hi lo' hi' : Nat) (a0 a1 a2 a3 d0 d1 d2 d3 : Option Addr) (n0 n1 n2 n3 c0 c1 c2 c3 e0 e1 e2 e3 : Nat) (l0 l1 l2 l3 : List (Int × Int)) (w : World)
    (m0 : n0 ≤ 1048576) (m1 : n1 ≤ 1048576) (m2 : n2 ≤ 1048576) (m3 : n3 ≤ 1048576) (h : Seen w lo hi a0 a1 a2 a3 n0 n1 n2 n3 l0 l1 l2 l3) (h' : Seen w lo' hi' d0 d1 d2 d3 n0 n1 n2 n3 l0 l1 l2 l3) :
    Calls Try.prog 43 #[.agg #[.slice a0 n0 c0, .slice a1 n1 c1, .slice a2 n2 c2, .slice a3 n3 c3], .agg #[.slice d0 n0 e0, .slice d1 n1 e1, .slice d2 n2 e2, .slice d3 n3 e3]] w fun e w' => e = .returned (.bool true) ∧ Below w.heap.size w w' :=
  eqAsn_rows _ _ _ _ _ _ _ _ _ _ _ _ _ _ _ _ _ _ _ _ _ _ _ _ _ m0 m1 m2 m3 h.1.row h.2.1.row h.2.2.1.row h.2.2.2.row h'.1.row h'.2.1.row h'.2.2.1.row h'.2.2.2.row h.1.1 h.2.1.1 h.2.2.1.1 h.2.2.2.1

end Go.Proofs.Ytphchdjbhbmnbaa
namespace Go.Proofs.Ytphchdjbhbmnbaa
open Go.RowKit

/-- The cells of a row of pairs. -/
def pc (l : List (Int × Int)) : List Value := l.flatMap fun p => [Value.int .i64 p.1, Value.int .i64 p.2]

theorem pc_length (l : List (Int × Int)) : (pc l).length = l.length * 2 := by
  unfold pc
  induction l with
  | nil => rfl
  | cons p l ih => rw [List.flatMap_cons, List.length_append, ih]; simp; omega

theorem pc_append (l m : List (Int × Int)) : pc (l ++ m) = pc l ++ pc m := by simp [pc]

theorem pc_one {l : List (Int × Int)} : ∀ u ∈ pc l, u.oneCell' = true := by
  intro u hu
  unfold pc at hu
  obtain ⟨p, _, hp⟩ := List.mem_flatMap.1 hu
  simp at hp
  rcases hp with rfl | rfl <;> rfl

theorem pc_get (l : List (Int × Int)) : ∀ i, i < l.length → (pc l)[i * 2]? = some (.int .i64 (l.getD i (0, 0)).1) ∧ (pc l)[i * 2 + 1]? = some (.int .i64 (l.getD i (0, 0)).2) := by
  induction l with
  | nil => intro i hi; simp at hi
  | cons p l ih =>
    intro i hi
    have e : pc (p :: l) = Value.int .i64 p.1 :: Value.int .i64 p.2 :: pc l := rfl
    rw [e]
    match i with
    | 0 => exact ⟨rfl, rfl⟩
    | i + 1 =>
      have := ih i (by simpa using hi)
      rw [show (i + 1) * 2 = i * 2 + 1 + 1 by omega]
      simpa using this

theorem pc_inv {l : List (Int × Int)} {j : Nat} {u : Value} (h : (pc l)[j]? = some u) : ∃ i, i < l.length ∧ ((j = i * 2 ∧ u = .int .i64 (l.getD i (0, 0)).1) ∨ (j = i * 2 + 1 ∧ u = .int .i64 (l.getD i (0, 0)).2)) := by
  have hj : j < (pc l).length := by
    by_cases e : j < (pc l).length
    · exact e
    · rw [List.getElem?_eq_none (by omega)] at h; cases h
  rw [pc_length] at hj
  refine ⟨j / 2, by omega, ?_⟩
  have g := pc_get l (j / 2) (by omega)
  by_cases e : j % 2 = 0
  · left
    rw [show j / 2 * 2 = j by omega] at g
    rw [g.1] at h
    exact ⟨by omega, by injection h with h; exact h.symm⟩
  · right
    rw [show j / 2 * 2 + 1 = j by omega] at g
    rw [g.2] at h
    exact ⟨by omega, by injection h with h; exact h.symm⟩

theorem addr_add (b o j : Nat) : (⟨b, o, none⟩ : Addr).add j = ⟨b, o + j, none⟩ := by unfold Addr.add; split <;> simp_all

/-- What the source of an append wants to know. -/
theorem Own.news {w : World} {b n : Nat} {l : List (Int × Int)} (h : Own w b n l l.length) : ∀ j u, (pc l)[j]? = some u → w.cell? ((⟨b, 0, none⟩ : Addr).add j) = some u := by
  intro j u hu
  rw [addr_add, Nat.zero_add]
  obtain ⟨i, hi, ⟨rfl, rfl⟩ | ⟨rfl, rfl⟩⟩ := pc_inv hu
  · exact (h.2.2 i hi).1
  · exact (h.2.2 i hi).2

theorem Own.ofOwns {w : World} {base n g cap : Nat} {l : List (Int × Int)} (h : w.ownsRow base 69 2 (.slice (some ⟨g, 0, none⟩) n cap) n (pc l)) : l.length = n ∧ base ≤ g ∧ Own w g n l n := by
  have hl : l.length = n := by have := h.1; rw [pc_length] at this; omega
  obtain ⟨hb, hlt⟩ := h.lt g rfl
  refine ⟨hl, hb, hlt, fun j hj => ⟨?_, h.frozenAt j⟩, fun i hi => ?_⟩
  · rw [h.cellAt j hj]
    exact ⟨(pc l)[j]'(by rw [pc_length]; omega), by rw [List.getElem?_eq_getElem]⟩
  · rw [h.cellAt _ (by omega), h.cellAt _ (by omega)]
    exact pc_get l i (by omega)

theorem RowIn.ofOwns {w : World} {base n : Nat} {v : Value} {l : List (Int × Int)} (h : w.ownsRow base 69 2 v n (pc l)) : ∃ a cap, v = .slice a n cap ∧ RowIn w base w.heap.size a n l := by
  rcases h.2 with ⟨rfl, rfl⟩ | ⟨g, cap, cur, rfl, _⟩
  · exact ⟨none, 0, rfl, by have := h.1; rw [pc_length] at this; omega, .inl rfl⟩
  · obtain ⟨hl, hb, ho⟩ := Own.ofOwns h
    exact ⟨_, _, rfl, RowIn.ofOwn ho hl hb ho.1⟩

theorem Below.grows {w w' : World} (h : Below w.heap.size w w') : w.grownBy w' none := ⟨h.os, h.tape, h.output, h.size, fun k hk _ => h.block k hk⟩

theorem owns_below {w w' : World} {base n : Nat} {v : Value} {xs : List Value} (h : w.ownsRow base 69 2 v n xs) (hb : Below w.heap.size w w') : w'.ownsRow base 69 2 v n xs :=
  h.kept (Below.grows hb) (by cases e : v.ownBlock <;> simp)

theorem Try.i57 : ∃ i, Try.prog.info? 69 = some i ∧ i.zero = some (.agg #[.int .i64 0, .int .i64 0]) ∧ i.size = 2 ∧ i.bytes = 16 := by
  have h : (Try.prog.info? 69).map (fun i => (i.zero, i.size, i.bytes)) = some (some (.agg #[.int .i64 0, .int .i64 0]), 2, 16) := by kernel_rfl
  cases hi : Try.prog.info? 69 with
  | none => rw [hi] at h; simp at h
  | some i =>
    rw [hi] at h
    simp only [Option.map_some, Option.some.injEq, Prod.mk.injEq] at h
    exact ⟨i, rfl, h.1, h.2.1, h.2.2⟩

set_option maxHeartbeats 400000 in
theorem copy_behind (b cap : Nat) (l : List (Int × Int)) (w : World) (hn : l.length ≤ 1048576) (ho : Own w b l.length l l.length) :
    Calls Try.prog 139 #[.slice none 0 0, .slice (some ⟨b, 0, none⟩) l.length cap] w fun e w' => ∃ a c, e = .returned (.slice a l.length c) ∧ RowIn w' w.heap.size w'.heap.size a l.length l ∧ Below w.heap.size w w' := by
  obtain ⟨i0, hi, hz0, hz1, hz2⟩ := Try.i57
  have hnil := World.ownsRow_nil w w.heap.size 69 2
  go_enter Try.func139, Try.ntmps139
  go_wp2_with (first
    | (at_builtin; refine wpList_append_own_none _ rfl _ _ 26 rfl w.heap.size 69 i0 2 Try.underlying26 hi _ _ _ rfl hnil rfl ?_)
    | (at_builtin; refine wpList_append_own _ rfl _ _ 26 rfl w.heap.size 69 i0 (.agg #[.int .i64 0, .int .i64 0]) 2 16 Try.underlying26 hi hz0 hz1 hz2 rfl (by decide) _ _ _ rfl hnil ⟨b, 0, none⟩ l.length cap (pc l) rfl (pc_length l) ?c1 pc_one ?c3 ?c4 ?c5 ?_))
  case c1 => exact ho.news
  case c3 => unfold maxLen; omega
  case c4 => omega
  case c5 => exact Nat.le_refl _
  intro v1 w1 hown hg hiff
  obtain ⟨a, c, rfl, hr⟩ := RowIn.ofOwns hown
  have hb := (Below.refl w.heap.size w).grown hg (Nat.le_refl _) (by intro k hk; simp [Value.ownBlock] at hk)
  clear hiff hown hg hnil
  go_wp2
  go_ret
  exact ⟨a, c, rfl, hr, hb⟩

set_option maxHeartbeats 400000 in
theorem copyOf_any (b cap : Nat) (l : List (Int × Int)) (w : World) (hn : l.length ≤ 1048576) (ho : Own w b l.length l l.length) :
    Calls Try.prog 144 #[.slice (some ⟨b, 0, none⟩) l.length cap] w fun e w' => ∃ a c, e = .returned (.slice a l.length c) ∧ RowIn w' w.heap.size w'.heap.size a l.length l ∧ Below w.heap.size w w' := by
  go_enter Try.func144, Try.ntmps144
  go_wp2_with fail
  refine (copy_behind b cap l w hn ho).mono ?_
  rintro e w1 ⟨a, c, rfl, hr, hb⟩
  go_wp2
  go_ret
  exact ⟨a, c, rfl, hr, hb⟩

end Go.Proofs.Ytphchdjbhbmnbaa
