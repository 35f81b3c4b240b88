/-
  The contracts of spec.l1mark and spec.l1used: which terms are in the lists.
-/
import Derived.Test.YtfplloabkceaoaaOkI
namespace Go.Proofs.Ytfplloabkceaoaa
open Go.RowKit

/-- w' is w but for block b and new blocks. -/
structure Kept (b : Nat) (w w' : World) : Prop where
  os : w'.os = w.os
  tape : w'.tape = w.tape
  output : w'.output = w.output
  size : w.heap.size ≤ w'.heap.size
  block : ∀ k, k ≠ b → k < w.heap.size → w'.heap[k]? = w.heap[k]?

theorem Kept.refl (b : Nat) (w : World) : Kept b w w := ⟨rfl, rfl, rfl, Nat.le_refl _, fun _ _ _ => rfl⟩
theorem Kept.below {b B : Nat} {w w' : World} (h : Kept b w w') (hB : B ≤ b) (hs : B ≤ w.heap.size) : Below B w w' :=
  ⟨h.os, h.tape, h.output, h.size, fun k hk => h.block k (by omega) (by omega)⟩
theorem Kept.set {b : Nat} {a w : World} (h : Kept b a w) (i : Nat) (u : Value) : Kept b a (w.setCell ⟨b, i, none⟩ u) :=
  ⟨h.os, h.tape, h.output, by simpa using h.size, fun k hk hs => (Below.heap_setCell _ _ _ _ (by simpa using hk)).trans (h.block k hk hs)⟩
theorem Kept.cell {b : Nat} {w w' : World} (h : Kept b w w') {c o : Nat} (hc : c ≠ b) (hs : c < w.heap.size) : w'.cell? ⟨c, o, none⟩ = w.cell? ⟨c, o, none⟩ := World.cell?_of_block (w := w) (h.block c hc hs)
theorem Kept.frozen {b : Nat} {w w' : World} (h : Kept b w w') {c o : Nat} (hc : c ≠ b) (hs : c < w.heap.size) : w'.frozen? ⟨c, o, none⟩ = w.frozen? ⟨c, o, none⟩ := World.frozen?_of_block (w := w) (h.block c hc hs)

theorem Box.kept {c : Nat} {w w' : World} {b : Nat} {v0 v1 v2 v3 : Value} (h : Box w b v0 v1 v2 v3) (hk : Kept c w w') (hc : b ≠ c) : Box w' b v0 v1 v2 v3 := by
  refine ⟨Nat.lt_of_lt_of_le h.lt hk.size, ?_, ?_, ?_, ?_, ?_, ?_, ?_, ?_⟩
  · rw [hk.cell hc h.lt]; exact h.c0
  · rw [hk.cell hc h.lt]; exact h.c1
  · rw [hk.cell hc h.lt]; exact h.c2
  · rw [hk.cell hc h.lt]; exact h.c3
  · rw [hk.frozen hc h.lt]; exact h.f0
  · rw [hk.frozen hc h.lt]; exact h.f1
  · rw [hk.frozen hc h.lt]; exact h.f2
  · rw [hk.frozen hc h.lt]; exact h.f3

/-- Block b holds sixteen flags. -/
def BRow (w : World) (b : Nat) (f : Nat → Bool) : Prop := b < w.heap.size ∧ ∀ j, j < 16 → w.cell? ⟨b, j, none⟩ = some (.bool (f j)) ∧ w.frozen? ⟨b, j, none⟩ = false

theorem BRow.below {B : Nat} {w w' : World} {b : Nat} {f : Nat → Bool} (h : BRow w b f) (hb : Below B w w') (hB : b < B) : BRow w' b f :=
  ⟨Nat.lt_of_lt_of_le h.1 hb.size, fun j hj => by rw [hb.cell (p := ⟨b, j, none⟩) hB, hb.frozen (p := ⟨b, j, none⟩) hB]; exact h.2 j hj⟩

theorem BRow.set {w : World} {b : Nat} {f : Nat → Bool} (h : BRow w b f) (i : Nat) : BRow (w.setCell ⟨b, i, none⟩ (.bool true)) b (fun j => f j || j == i) := by
  refine ⟨by simpa using h.1, fun j hj => ⟨?_, by simpa using (h.2 j hj).2⟩⟩
  rw [cell_set (h.2 j hj).1]
  by_cases e : i = j
  · subst e; simp
  · rw [if_neg e]; simp [show ¬ j = i from fun x => e x.symm]

theorem BRow.other {w : World} {b : Nat} {f : Nat → Bool} (h : BRow w b f) (b' i' : Nat) (hp : b' ≠ b) (u : Value) : BRow (w.setCell ⟨b', i', none⟩ u) b f := by
  refine ⟨by simpa using h.1, fun j hj => ⟨?_, by simpa using (h.2 j hj).2⟩⟩
  rw [World.cell?_setCell_other _ _ _ _ (by intro e; exact hp (by injection e))]
  exact (h.2 j hj).1

theorem BRow.congr {w : World} {b : Nat} {f g : Nat → Bool} (h : BRow w b f) (e : ∀ j, j < 16 → f j = g j) : BRow w b g := ⟨h.1, fun j hj => by rw [← e j hj]; exact h.2 j hj⟩

def inL (l : List (Int × Int)) (j : Nat) : Bool := l.any fun p => p.1 == (j : Int) || p.2 == (j : Int)
def usedV (l0 l1 l2 l3 : List (Int × Int)) (j : Nat) : Bool := inL l0 j || inL l1 j || inL l2 j || inL l3 j

theorem inL_step {l : List (Int × Int)} {k : Nat} (hk : k < l.length) (j : Nat) : inL (l.take (k + 1)) j = (inL (l.take k) j || ((l[k]?.getD (0, 0)).1 == (j : Int) || (l[k]?.getD (0, 0)).2 == (j : Int))) := by
  unfold inL
  rw [List.take_succ_eq_append_getElem hk, List.any_append]
  simp [hk]

theorem toks_at {l : List (Int × Int)} (h : toks l = true) {k : Nat} (hk : k < l.length) : (0 ≤ (l[k]?.getD (0, 0)).1 ∧ (l[k]?.getD (0, 0)).1 < 16) ∧ 0 ≤ (l[k]?.getD (0, 0)).2 ∧ (l[k]?.getD (0, 0)).2 < 16 := by
  unfold toks at h
  rw [List.all_eq_true] at h
  have := h l[k] (List.getElem_mem hk)
  simpa [tok, hk] using this

set_option maxHeartbeats 400000 in
theorem l1mark_some (bI b off cap : Nat) (l : List (Int × Int)) (f : Nat → Bool) (w : World) (hn : l.length ≤ 1048576) (hb : b < w.heap.size) (hne : b ≠ bI) (ht : toks l = true) (hf : BRow w bI f)
    (hc : ∀ i, i < l.length → w.cell? ⟨b, off + i * 2, none⟩ = some (.int .i64 (l.getD i (0, 0)).1) ∧ w.cell? ⟨b, off + i * 2 + 1, none⟩ = some (.int .i64 (l.getD i (0, 0)).2)) :
    Calls Try.prog 234 #[.slice (some ⟨bI, 0, none⟩) 16 16, .slice (some ⟨b, off, none⟩) l.length cap] w fun e w' => e = .returned (.tuple #[]) ∧ BRow w' bI (fun j => f j || inL l j) ∧ Kept bI w w' := by
  have HT : Hid (toks l = true) := ht
  clear ht
  generalize hN : l.length = n at *
  have HN : Hid (l.length = n) := hN
  clear hN
  go_enter Try.func234, Try.ntmps234
  go_wp2
  go_loopw [4] (fun i wr => ∃ k : Nat, k ≤ n ∧ i = .int .i64 k ∧ BRow wr bI (fun j => f j || inL (l.take k) j) ∧ Kept bI w wr) (fun i _ => n - (intOf i).toNat)
  case atStart => exact ⟨0, Nat.zero_le _, rfl, by simpa [inL] using hf, Kept.refl _ _⟩
  case round =>
    obtain ⟨k, hk, rfl, ho, hbw⟩ := hrel
    by_cases hlt : k < n
    · have hck := hc k hlt
      clear hc
      have hx := hbw.cell (o := off + k * 2) hne hb
      have hy := hbw.cell (o := off + k * 2 + 1) hne hb
      rw [hck.1] at hx
      rw [hck.2] at hy
      clear hck
      obtain ⟨⟨p1, p2⟩, p3, p4⟩ := toks_at HT.out (k := k) (by rw [HN.out]; exact hlt)
      have hst := fun j => inL_step (l := l) (k := k) (by rw [HN.out]; exact hlt) j
      rw [List.getD_eq_getElem?_getD] at hx hy
      generalize (l[k]?.getD (0, 0)).1 = X at hx p1 p2 hst
      generalize (l[k]?.getD (0, 0)).2 = Y at hy p3 p4 hst
      obtain ⟨x, rfl⟩ := Int.eq_ofNat_of_zero_le p1
      obtain ⟨y, rfl⟩ := Int.eq_ofNat_of_zero_le p3
      have HS : Hid (∀ j, inL (l.take (k + 1)) j = (inL (l.take k) j || (((x : Int) == (j : Int)) || ((y : Int) == (j : Int))))) := hst
      clear hst
      have cx := (ho.2 x (by omega)).1
      have fx := (ho.2 x (by omega)).2
      have ho1 := ho.set x
      have cy := (ho1.2 y (by omega)).1
      have fy := (ho.2 y (by omega)).2
      have hy2 : (wr.setCell ⟨bI, x, none⟩ (.bool true)).cell? ⟨b, off + k * 2 + 1, none⟩ = some (.int .i64 y) := by
        rw [World.cell?_setCell_other _ _ _ _ (by intro h; injection h with h1; exact hne h1.symm)]; exact hy
      clear hy
      have ho2 := ho1.set y
      have hk2 := (hbw.set x (.bool true)).set y (.bool true)
      clear ho ho1
      go_wp2
      go_roundw
      case rel => exact ⟨k + 1, by omega, by go_num, ho2.congr (fun j hj => by
        rw [HS.out j]
        have e1 : ((x : Int) == (j : Int)) = (j == x) := by rw [Bool.eq_iff_iff]; simp; omega
        have e2 : ((y : Int) == (j : Int)) = (j == y) := by rw [Bool.eq_iff_iff]; simp; omega
        rw [e1, e2]
        simp [Bool.or_assoc]), hk2⟩
      case measure => simp [intOf]; omega
    · obtain rfl : k = n := by omega
      have e := HN.out
      have ho2 : BRow wr bI (fun j => f j || inL l j) := by
        have := ho; rwa [List.take_of_length_le (by omega)] at this
      clear e ho
      go_wp2
      go_end0
      exact ⟨rfl, ho2, hbw⟩

set_option maxHeartbeats 400000 in
theorem l1mark_nil (bI cap : Nat) (a : Option Addr) (f : Nat → Bool) (w : World) (hf : BRow w bI f) :
    Calls Try.prog 234 #[.slice (some ⟨bI, 0, none⟩) 16 16, .slice a 0 cap] w fun e w' => e = .returned (.tuple #[]) ∧ BRow w' bI (fun j => f j || inL [] j) ∧ Kept bI w w' := by
  go_enter Try.func234, Try.ntmps234
  go_wp2
  go_loopw [4] (fun i wr => i = .int .i64 0 ∧ BRow wr bI f ∧ Kept bI w wr) (fun _ _ => 0)
  case atStart => exact ⟨rfl, hf, Kept.refl _ _⟩
  case round =>
    obtain ⟨rfl, ho, hbw⟩ := hrel
    go_wp2
    go_end0
    exact ⟨rfl, by simpa [inL] using ho, hbw⟩

/-- The slice at 'a' does not lie in block b. -/
def Off (a : Option Addr) (l : List (Int × Int)) (b : Nat) : Prop := l = [] ∨ ∀ x, a = some x → x.block ≠ b

theorem PRow.off {w : World} {a : Option Addr} {l : List (Int × Int)} (h : PRow w a l) {b : Nat} (hb : w.heap.size ≤ b) : Off a l b := by
  rcases h with h | ⟨c, off, rfl, hlt, _⟩
  · exact .inl h
  · exact .inr fun x hx => by injection hx with hx; subst hx; show c ≠ b; omega

theorem l1mark_any (bI : Nat) (a : Option Addr) (cap : Nat) (l : List (Int × Int)) (f : Nat → Bool) (w : World) (hn : l.length ≤ 1048576) (ht : toks l = true) (hf : BRow w bI f) (hr : PRow w a l) (ho : Off a l bI) :
    Calls Try.prog 234 #[.slice (some ⟨bI, 0, none⟩) 16 16, .slice a l.length cap] w fun e w' => e = .returned (.tuple #[]) ∧ BRow w' bI (fun j => f j || inL l j) ∧ Kept bI w w' := by
  rcases hr with rfl | ⟨b, off, rfl, hb, hc⟩
  · exact l1mark_nil bI cap a f w hf
  · rcases ho with rfl | ho
    · exact l1mark_nil bI cap _ f w hf
    · exact l1mark_some bI b off cap l f w hn hb (ho _ rfl) ht hf hc

end Go.Proofs.Ytfplloabkceaoaa
