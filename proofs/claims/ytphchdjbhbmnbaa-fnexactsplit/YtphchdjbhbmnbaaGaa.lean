/-
  Plain lemmas and contracts of functions for the other texts of this seat: Base, Sz, To, Eq, EqR, Ok.
-/
import Derived.WalkKit
import Derived.Below
import Derived.Test.YtphchdjbhbmnbaaChecked
import Derived.Outline
import Derived.Deep.RegionWith
namespace Go.Proofs.Ytphchdjbhbmnbaa
open Go.RowKit

/-- The slice that begins at 'a' reads as the pairs of l. -/
def PRow (w : World) (a : Option Addr) (l : List (Int × Int)) : Prop :=
  l = [] ∨ ∃ b off, a = some ⟨b, off, none⟩ ∧ b < w.heap.size ∧
    ∀ i, i < l.length → w.cell? ⟨b, off + i * 2, none⟩ = some (.int .i64 (l.getD i (0, 0)).1) ∧ w.cell? ⟨b, off + i * 2 + 1, none⟩ = some (.int .i64 (l.getD i (0, 0)).2)

theorem PRow.below {B : Nat} {w w' : World} {a : Option Addr} {l : List (Int × Int)} (h : PRow w a l) (hb : Below B w w') (hB : w.heap.size ≤ B) : PRow w' a l := by
  rcases h with h | ⟨b, off, rfl, hlt, hc⟩
  · exact .inl h
  · refine .inr ⟨b, off, rfl, Nat.lt_of_lt_of_le hlt hb.size, fun i hi => ?_⟩
    rw [hb.cell (p := ⟨b, _, none⟩) (Nat.lt_of_lt_of_le hlt hB), hb.cell (p := ⟨b, _, none⟩) (Nat.lt_of_lt_of_le hlt hB)]
    exact hc i hi

theorem ret_int {k : IntKind} {a b : Int} (h : a = b) : Ending.returned (.int k a) = .returned (.int k b) := by rw [h]
theorem ret_bool {a b : Bool} (h : a = b) : Ending.returned (.bool a) = .returned (.bool b) := by rw [h]

theorem bcell {W w1 : World} (hb : Below W.heap.size W w1) : (∀ b o, b < W.heap.size → w1.cell? ⟨b, o, none⟩ = W.cell? ⟨b, o, none⟩) ∧ (∀ b o, b < W.heap.size → w1.frozen? ⟨b, o, none⟩ = W.frozen? ⟨b, o, none⟩) :=
  ⟨fun b o h => hb.cell (p := ⟨b, o, none⟩) h, fun b o h => hb.frozen (p := ⟨b, o, none⟩) h⟩

/-- n pairs of zeros. -/
def zrow (n : Nat) : Array Value := madeCells #[.int .i64 0, .int .i64 0] (n * 2)
theorem size_zrow (n : Nat) : (zrow n).size = n * 2 := size_madeCells _ _

/-- Block b of w is a row of n pairs of the call's own, the first k of which are those of l. -/
def Own (w : World) (b n : Nat) (l : List (Int × Int)) (k : Nat) : Prop :=
  b < w.heap.size ∧ (∀ j, j < n * 2 → (∃ v, w.cell? ⟨b, j, none⟩ = some v) ∧ w.frozen? ⟨b, j, none⟩ = false) ∧
    ∀ i, i < k → w.cell? ⟨b, i * 2, none⟩ = some (.int .i64 (l.getD i (0, 0)).1) ∧ w.cell? ⟨b, i * 2 + 1, none⟩ = some (.int .i64 (l.getD i (0, 0)).2)

theorem Own.start (w : World) (n : Nat) (l : List (Int × Int)) : Own (w.alloc (.cells (zrow n) 69)) w.heap.size n l 0 := by
  refine ⟨by simp, fun j hj => ⟨?_, by simp⟩, fun i hi => by omega⟩
  rw [World.cell?_alloc_new]
  exact ⟨(zrow n)[j]'(by rw [size_zrow]; exact hj), by simp [size_zrow, hj]⟩

theorem Own.below {B : Nat} {w w' : World} {b n k : Nat} {l : List (Int × Int)} (h : Own w b n l k) (hb : Below B w w') (hB : b < B) : Own w' b n l k := by
  obtain ⟨h1, h2, h3⟩ := h
  refine ⟨Nat.lt_of_lt_of_le h1 hb.size, fun j hj => ?_, fun i hi => ?_⟩
  · rw [hb.cell (p := ⟨b, j, none⟩) hB, hb.frozen (p := ⟨b, j, none⟩) hB]; exact h2 j hj
  · rw [hb.cell (p := ⟨b, _, none⟩) hB, hb.cell (p := ⟨b, _, none⟩) hB]; exact h3 i hi

theorem Own.step {w : World} {b n k : Nat} {l : List (Int × Int)} (h : Own w b n l k) (hk : k < n) :
    Own ((w.setCell ⟨b, k * 2, none⟩ (.int .i64 (l.getD k (0, 0)).1)).setCell ⟨b, k * 2 + 1, none⟩ (.int .i64 (l.getD k (0, 0)).2)) b n l (k + 1) := by
  obtain ⟨h1, h2, h3⟩ := h
  have key : ∀ (w : World) (a c : Nat) (x : Value) (v : Value), w.cell? ⟨b, c, none⟩ = some v → ((w.setCell ⟨b, a, none⟩ x).cell? ⟨b, c, none⟩ = some (if a = c then x else v)) := by
    intro w a c x v hv
    by_cases e : a = c
    · subst e; rw [if_pos rfl]; exact World.cell?_setCell_same _ _ _ hv
    · rw [if_neg e, World.cell?_setCell_other _ _ _ _ (by intro h; exact e (by injection h))]; exact hv
  refine ⟨by simpa using h1, fun j hj => ⟨?_, by simpa using (h2 j hj).2⟩, fun i hi => ?_⟩
  · obtain ⟨v, hv⟩ := (h2 j hj).1
    exact ⟨_, key _ _ _ _ _ (key _ _ _ _ _ hv)⟩
  · by_cases e : i = k
    · subst e
      obtain ⟨v, hv⟩ := (h2 (i * 2) (by omega)).1
      obtain ⟨u, hu⟩ := (h2 (i * 2 + 1) (by omega)).1
      refine ⟨?_, ?_⟩
      · rw [key _ _ _ _ _ (key _ _ _ _ _ hv), if_neg (by omega), if_pos rfl]
      · rw [key _ _ _ _ _ (key _ _ _ _ _ hu), if_pos rfl]
    · have h4 := h3 i (by omega)
      refine ⟨?_, ?_⟩
      · rw [key _ _ _ _ _ (key _ _ _ _ _ h4.1), if_neg (by omega), if_neg (by omega)]
      · rw [key _ _ _ _ _ (key _ _ _ _ _ h4.2), if_neg (by omega), if_neg (by omega)]

theorem Own.row {w : World} {b n : Nat} {l : List (Int × Int)} (h : Own w b n l l.length) : PRow w (some ⟨b, 0, none⟩) l := by
  refine .inr ⟨b, 0, rfl, h.1, fun i hi => ?_⟩
  have := h.2.2 i hi
  simpa using this

theorem Own.other {w : World} {b n k : Nat} {l : List (Int × Int)} (h : Own w b n l k) (b' i' : Nat) (hp : b' ≠ b) (u : Value) : Own (w.setCell ⟨b', i', none⟩ u) b n l k := by
  obtain ⟨h1, h2, h3⟩ := h
  have key : ∀ c, (w.setCell ⟨b', i', none⟩ u).cell? ⟨b, c, none⟩ = w.cell? ⟨b, c, none⟩ := fun c => World.cell?_setCell_other _ _ _ _ (by intro e; exact hp (by injection e))
  refine ⟨by simpa using h1, fun j hj => ?_, fun i hi => ?_⟩
  · rw [key]; simpa using h2 j hj
  · rw [key, key]; exact h3 i hi

theorem Own.alloc {w : World} {b n k : Nat} {l : List (Int × Int)} (h : Own w b n l k) (o : Obj) : Own (w.alloc o) b n l k :=
  h.below ((Below.refl _ _).alloc (Nat.le_refl _) o) h.1

/-- Block b of w holds four cells, none of them frozen. -/
structure Box (w : World) (b : Nat) (v0 v1 v2 v3 : Value) : Prop where
  lt : b < w.heap.size
  c0 : w.cell? ⟨b, 0, none⟩ = some v0
  c1 : w.cell? ⟨b, 1, none⟩ = some v1
  c2 : w.cell? ⟨b, 2, none⟩ = some v2
  c3 : w.cell? ⟨b, 3, none⟩ = some v3
  f0 : w.frozen? ⟨b, 0, none⟩ = false
  f1 : w.frozen? ⟨b, 1, none⟩ = false
  f2 : w.frozen? ⟨b, 2, none⟩ = false
  f3 : w.frozen? ⟨b, 3, none⟩ = false

theorem Box.new (w : World) (v0 v1 v2 v3 : Value) (t : TypeId) : Box (w.alloc (.cells #[v0, v1, v2, v3] t)) w.heap.size v0 v1 v2 v3 := by
  constructor <;> simp

theorem Box.below {B : Nat} {w w' : World} {b : Nat} {v0 v1 v2 v3 : Value} (h : Box w b v0 v1 v2 v3) (hb : Below B w w') (hB : b < B) : Box w' b v0 v1 v2 v3 := by
  refine ⟨Nat.lt_of_lt_of_le h.lt hb.size, ?_, ?_, ?_, ?_, ?_, ?_, ?_, ?_⟩
  · rw [hb.cell (p := ⟨b, _, none⟩) hB]; exact h.c0
  · rw [hb.cell (p := ⟨b, _, none⟩) hB]; exact h.c1
  · rw [hb.cell (p := ⟨b, _, none⟩) hB]; exact h.c2
  · rw [hb.cell (p := ⟨b, _, none⟩) hB]; exact h.c3
  · rw [hb.frozen (p := ⟨b, _, none⟩) hB]; exact h.f0
  · rw [hb.frozen (p := ⟨b, _, none⟩) hB]; exact h.f1
  · rw [hb.frozen (p := ⟨b, _, none⟩) hB]; exact h.f2
  · rw [hb.frozen (p := ⟨b, _, none⟩) hB]; exact h.f3

theorem Box.alloc {w : World} {b : Nat} {v0 v1 v2 v3 : Value} (h : Box w b v0 v1 v2 v3) (o : Obj) : Box (w.alloc o) b v0 v1 v2 v3 :=
  h.below ((Below.refl _ _).alloc (Nat.le_refl _) o) h.lt

theorem Box.other {w : World} {b : Nat} {v0 v1 v2 v3 : Value} (h : Box w b v0 v1 v2 v3) (b' i' : Nat) (hp : b' ≠ b) (u : Value) : Box (w.setCell ⟨b', i', none⟩ u) b v0 v1 v2 v3 := by
  have key : ∀ c, (w.setCell ⟨b', i', none⟩ u).cell? ⟨b, c, none⟩ = w.cell? ⟨b, c, none⟩ := fun c => World.cell?_setCell_other _ _ _ _ (by intro e; exact hp (by injection e))
  refine ⟨by simpa using h.lt, ?_, ?_, ?_, ?_, by simpa using h.f0, by simpa using h.f1, by simpa using h.f2, by simpa using h.f3⟩
  · rw [key]; exact h.c0
  · rw [key]; exact h.c1
  · rw [key]; exact h.c2
  · rw [key]; exact h.c3

theorem cell_set {w : World} {b : Nat} {a c : Nat} {x v : Value} (hv : w.cell? ⟨b, c, none⟩ = some v) : (w.setCell ⟨b, a, none⟩ x).cell? ⟨b, c, none⟩ = some (if a = c then x else v) := by
  by_cases e : a = c
  · subst e; rw [if_pos rfl]; exact World.cell?_setCell_same _ _ _ hv
  · rw [if_neg e, World.cell?_setCell_other _ _ _ _ (by intro h; exact e (by injection h))]; exact hv

theorem Box.set {w : World} {b : Nat} {v0 v1 v2 v3 : Value} (h : Box w b v0 v1 v2 v3) (i : Nat) (u : Value) :
    Box (w.setCell ⟨b, i, none⟩ u) b (if i = 0 then u else v0) (if i = 1 then u else v1) (if i = 2 then u else v2) (if i = 3 then u else v3) :=
  ⟨by simpa using h.lt, cell_set h.c0, cell_set h.c1, cell_set h.c2, cell_set h.c3, by simpa using h.f0, by simpa using h.f1, by simpa using h.f2, by simpa using h.f3⟩

theorem Below.set {B : Nat} {a w : World} (h : Below B a w) (b i : Nat) (hp : B ≤ b) (u : Value) : Below B a (w.setCell ⟨b, i, none⟩ u) := h.setCell (p := ⟨b, i, none⟩) hp u

theorem Box.set0 {w : World} {b : Nat} {v0 v1 v2 v3 : Value} (h : Box w b v0 v1 v2 v3) (u : Value) : Box (w.setCell ⟨b, 0, none⟩ u) b u v1 v2 v3 := by simpa using h.set 0 u
theorem Box.set1 {w : World} {b : Nat} {v0 v1 v2 v3 : Value} (h : Box w b v0 v1 v2 v3) (u : Value) : Box (w.setCell ⟨b, 1, none⟩ u) b v0 u v2 v3 := by simpa using h.set 1 u
theorem Box.set2 {w : World} {b : Nat} {v0 v1 v2 v3 : Value} (h : Box w b v0 v1 v2 v3) (u : Value) : Box (w.setCell ⟨b, 2, none⟩ u) b v0 v1 u v3 := by simpa using h.set 2 u
theorem Box.set3 {w : World} {b : Nat} {v0 v1 v2 v3 : Value} (h : Box w b v0 v1 v2 v3) (u : Value) : Box (w.setCell ⟨b, 3, none⟩ u) b v0 v1 v2 u := by simpa using h.set 3 u

theorem Box.drew {w : World} {b : Nat} {v0 v1 v2 v3 : Value} (h : Box w b v0 v1 v2 v3) : Box w.drew b v0 v1 v2 v3 := h.below ((Below.refl _ _).drew) h.lt
theorem Own.drew {w : World} {b n k : Nat} {l : List (Int × Int)} (h : Own w b n l k) : Own w.drew b n l k := h.below ((Below.refl _ _).drew) h.1

end Go.Proofs.Ytphchdjbhbmnbaa
namespace Go.Proofs.Ytphchdjbhbmnbaa
open Go.RowKit

def szI (n left : Int) : Int := if left - n < 0 then -1 else left - n

set_option maxHeartbeats 400000 in
theorem szPairS_any (a : Option Addr) (n cap : Nat) (left : Int) (w : World) (hn : n ≤ maxLen) (h0 : 0 ≤ left) (h1 : left ≤ 1048576) :
    Calls Try.prog 128 #[.slice a n cap, .int .i64 left] w fun e w' => e = .returned (.int .i64 (szI n left)) ∧ w' = w := by
  unfold maxLen at hn
  by_cases h : left - n < 0
  · go_enter Try.func128, Try.ntmps128
    go_wp2
    go_ret
    exact ⟨ret_int (by unfold szI; rw [if_pos h]), rfl⟩
  · go_enter Try.func128, Try.ntmps128
    go_wp2
    go_ret
    exact ⟨ret_int (by unfold szI; rw [if_neg (by omega)]), rfl⟩

set_option maxHeartbeats 400000 in
theorem szAsn_any (a0 a1 a2 a3 : Option Addr) (n0 n1 n2 n3 c0 c1 c2 c3 : Nat) (left : Int) (w : World) (m0 : n0 ≤ maxLen) (m1 : n1 ≤ maxLen) (m2 : n2 ≤ maxLen) (m3 : n3 ≤ maxLen) (h0 : 0 ≤ left) (h1 : left ≤ 1048576) :
    Calls Try.prog 39 #[.agg #[.slice a0 n0 c0, .slice a1 n1 c1, .slice a2 n2 c2, .slice a3 n3 c3], .int .i64 left] w fun e w' => e = .returned (.int .i64 (szI (n0 + n1 + n2 + n3) left)) ∧ Below w.heap.size w w' := by
  unfold maxLen at m0 m1 m2 m3
  by_cases k0 : left - n0 < 0
  · go_enter Try.func39, Try.ntmps39
    go_wp2
    go_ret
    exact ⟨ret_int (by unfold szI; rw [if_pos (by omega)]), (Below.refl _ _).alloc (Nat.le_refl _) _⟩
  · by_cases k1 : left - n0 - n1 < 0
    · go_enter Try.func39, Try.ntmps39
      go_wp2
      go_ret
      exact ⟨ret_int (by unfold szI; rw [if_pos (by omega)]), (Below.refl _ _).alloc (Nat.le_refl _) _⟩
    · by_cases k2 : left - n0 - n1 - n2 < 0
      · go_enter Try.func39, Try.ntmps39
        go_wp2
        go_ret
        exact ⟨ret_int (by unfold szI; rw [if_pos (by omega)]), (Below.refl _ _).alloc (Nat.le_refl _) _⟩
      · by_cases k3 : left - n0 - n1 - n2 - n3 < 0
        · go_enter Try.func39, Try.ntmps39
          go_wp2
          go_ret
          exact ⟨ret_int (by unfold szI; rw [if_pos (by omega)]), (Below.refl _ _).alloc (Nat.le_refl _) _⟩
        · go_enter Try.func39, Try.ntmps39
          go_wp2
          go_ret
          exact ⟨ret_int (by unfold szI; rw [if_neg (by omega)]; omega), (Below.refl _ _).alloc (Nat.le_refl _) _⟩

end Go.Proofs.Ytphchdjbhbmnbaa
namespace Go.Proofs.Ytphchdjbhbmnbaa
open Go.RowKit

set_option maxHeartbeats 400000 in
theorem toPair_any (x y : Int) (w : World) :
    Calls Try.prog 110 #[.agg #[.int .i64 x, .int .i64 y]] w fun e w' => e = .returned (.agg #[.int .i64 x, .int .i64 y]) ∧ Below w.heap.size w w' := by
  go_enter Try.func110, Try.ntmps110
  go_wp2
  exact bodyPost_ret (v := .agg #[.int .i64 x, .int .i64 y]) (by simp [results, Try.results110, go_sem]) rfl ⟨rfl, (((Below.refl _ _).alloc (Nat.le_refl _) _).alloc (by simp) _).alloc (by simp; omega) _⟩

theorem Try.info69 : (Try.prog.info? 69).map (fun i => (i.zero, i.size, i.bytes)) = some (some (.agg #[.int .i64 0, .int .i64 0]), 2, 16) := by kernel_rfl

theorem run_make57 (n : Nat) (hn : n ≤ 1048576) (w : World) : (Instr.makeSlice 26 (.int .i64 n) (.int .i64 n)).run Try.prog w = .ok (.slice (some ⟨w.heap.size, 0, none⟩) n n) (w.alloc (.cells (zrow n) 69)) := by
  have h := Try.info69
  cases hi : Try.prog.info? 69 with
  | none => rw [hi] at h; simp at h
  | some i =>
    rw [hi] at h
    simp only [Option.map_some, Option.some.injEq, Prod.mk.injEq] at h
    have r := run_make (P := Try.prog) w 26 69 i _ Try.underlying26 hi h.1 .i64 .i64 n n (by omega) (by omega) (by rw [h.2.2]; omega) (by omega)
    rw [h.2.1] at r
    simpa [zrow, Value.cells] using r

set_option maxHeartbeats 400000 in
theorem toPairS_some (b off cap : Nat) (l : List (Int × Int)) (w : World) (hn : l.length ≤ 1048576) (hb : b < w.heap.size)
    (hc : ∀ i, i < l.length → w.cell? ⟨b, off + i * 2, none⟩ = some (.int .i64 (l.getD i (0, 0)).1) ∧ w.cell? ⟨b, off + i * 2 + 1, none⟩ = some (.int .i64 (l.getD i (0, 0)).2)) :
    Calls Try.prog 132 #[.slice (some ⟨b, off, none⟩) l.length cap] w fun e w' => e = .returned (.slice (some ⟨w.heap.size, 0, none⟩) l.length l.length) ∧ Own w' w.heap.size l.length l l.length ∧ Below w.heap.size w w' := by
  have hmk := run_make57 l.length hn
  have hs := Own.start w l.length l
  have hbl : Below w.heap.size w (w.alloc (.cells (zrow l.length) 69)) := (Below.refl _ _).alloc (Nat.le_refl _) _
  generalize hN : l.length = n at *
  clear hN
  go_enter Try.func132, Try.ntmps132
  go_wp2
  go_loopw [4] (fun i wr => ∃ k : Nat, k ≤ n ∧ i = .int .i64 k ∧ Own wr w.heap.size n l k ∧ Below w.heap.size w wr) (fun i _ => n - (intOf i).toNat)
  case atStart => exact ⟨0, Nat.zero_le _, rfl, hs, hbl⟩
  case round =>
    clear hs hbl
    obtain ⟨k, hk, rfl, ho, hbw⟩ := hrel
    by_cases hlt : k < n
    · have hck := hc k hlt
      clear hc
      have hx := hbw.cell (p := ⟨b, off + k * 2, none⟩) hb
      have hy := hbw.cell (p := ⟨b, off + k * 2 + 1, none⟩) hb
      rw [hck.1] at hx
      rw [hck.2] at hy
      clear hck
      have hsz : w.heap.size < wr.heap.size := ho.1
      go_wp2_with fail
      refine (toPair_any _ _ _).mono ?_
      rintro e w1 ⟨rfl, hb1⟩
      have ho1 := ho.below hb1 hsz
      have hbw1 : Below w.heap.size w w1 := hbw.trans (hb1.mono (by omega))
      clear hx hy hb1 ho hbw hsz
      obtain ⟨v0, hv0⟩ := (ho1.2.1 (k * 2) (by omega)).1
      obtain ⟨v1, hv1⟩ := (ho1.2.1 (k * 2 + 1) (by omega)).1
      have hf0 := (ho1.2.1 (k * 2) (by omega)).2
      have hf1 := (ho1.2.1 (k * 2 + 1) (by omega)).2
      go_wp2
      go_roundw
      case rel => exact ⟨k + 1, by omega, by go_num, ho1.step hlt, (hbw1.setCell (by simp) _).setCell (by simp) _⟩
      case measure => simp [intOf]; omega
    · go_wp2
      go_ret
      obtain rfl : k = n := by omega
      exact ⟨rfl, ho, hbw⟩

set_option maxHeartbeats 400000 in
theorem toPairS_nil (a : Option Addr) (cap : Nat) (w : World) :
    Calls Try.prog 132 #[.slice a 0 cap] w fun e w' => e = .returned (.slice (some ⟨w.heap.size, 0, none⟩) 0 0) ∧ Own w' w.heap.size 0 [] 0 ∧ Below w.heap.size w w' := by
  have hmk : ∀ w : World, (Instr.makeSlice 26 (.int .i64 0) (.int .i64 0)).run Try.prog w = .ok (.slice (some ⟨w.heap.size, 0, none⟩) 0 0) (w.alloc (.cells (zrow 0) 69)) := fun w => run_make57 0 (by omega) w
  have hs := Own.start w 0 []
  have hbl : Below w.heap.size w (w.alloc (.cells (zrow 0) 69)) := (Below.refl _ _).alloc (Nat.le_refl _) _
  go_enter Try.func132, Try.ntmps132
  go_wp2
  go_loopw [4] (fun i wr => i = .int .i64 0 ∧ Own wr w.heap.size 0 [] 0 ∧ Below w.heap.size w wr) (fun _ _ => 0)
  case atStart => exact ⟨rfl, hs, hbl⟩
  case round =>
    clear hs hbl
    obtain ⟨rfl, ho, hbw⟩ := hrel
    go_wp2
    go_ret
    exact ⟨rfl, ho, hbw⟩

theorem toPairS_any (a : Option Addr) (cap : Nat) (l : List (Int × Int)) (w : World) (hn : l.length ≤ 1048576) (hr : PRow w a l) :
    Calls Try.prog 132 #[.slice a l.length cap] w fun e w' => ∃ b, e = .returned (.slice (some ⟨b, 0, none⟩) l.length l.length) ∧ w.heap.size ≤ b ∧ Own w' b l.length l l.length ∧ Below w.heap.size w w' := by
  rcases hr with rfl | ⟨b, off, rfl, hb, hc⟩
  · exact (toPairS_nil a cap w).mono fun e w' ⟨h1, h2, h3⟩ => ⟨_, h1, Nat.le_refl _, h2, h3⟩
  · exact (toPairS_some b off cap l w hn hb hc).mono fun e w' ⟨h1, h2, h3⟩ => ⟨_, h1, Nat.le_refl _, h2, h3⟩

set_option maxHeartbeats 1000000 in
theorem toAsn_any (a0 a1 a2 a3 : Option Addr) (c0 c1 c2 c3 : Nat) (l0 l1 l2 l3 : List (Int × Int)) (w : World)
    (n0 : l0.length ≤ 1048576) (n1 : l1.length ≤ 1048576) (n2 : l2.length ≤ 1048576) (n3 : l3.length ≤ 1048576)
    (r0 : PRow w a0 l0) (r1 : PRow w a1 l1) (r2 : PRow w a2 l2) (r3 : PRow w a3 l3) :
    Calls Try.prog 41 #[.agg #[.slice a0 l0.length c0, .slice a1 l1.length c1, .slice a2 l2.length c2, .slice a3 l3.length c3]] w fun e w' => ∃ b0 b1 b2 b3,
      e = .returned (.agg #[.slice (some ⟨b0, 0, none⟩) l0.length l0.length, .slice (some ⟨b1, 0, none⟩) l1.length l1.length, .slice (some ⟨b2, 0, none⟩) l2.length l2.length, .slice (some ⟨b3, 0, none⟩) l3.length l3.length]) ∧
      w.heap.size ≤ b0 ∧ b0 < b1 ∧ b1 < b2 ∧ b2 < b3 ∧ Own w' b0 l0.length l0 l0.length ∧ Own w' b1 l1.length l1 l1.length ∧ Own w' b2 l2.length l2 l2.length ∧ Own w' b3 l3.length l3 l3.length ∧ Below w.heap.size w w' := by
  have B0 := Box.new w (.slice a0 l0.length c0) (.slice a1 l1.length c1) (.slice a2 l2.length c2) (.slice a3 l3.length c3) 24
  go_enter Try.func41, Try.ntmps41
  go_wp2_with fail
  refine (toPairS_any _ _ _ _ n0 (by exact r0.below ((((Below.refl _ _).alloc (Nat.le_refl _) _).alloc (by simp) _).alloc (by simp; omega) _) (Nat.le_refl _))).mono ?_
  rintro e w1 ⟨b0, rfl, g0, o0, hb⟩
  have A1 := ((B0.alloc _).alloc _).below hb (by simp; omega)
  have R1 := ((Box.new _ _ _ _ _ 28).alloc _).below hb (by simp)
  have O1 := (Box.new _ _ _ _ _ 28).below hb (by simp)
  have L1 : Below w.heap.size w w1 := ((((Below.refl _ _).alloc (Nat.le_refl _) _).alloc (by simp) _).alloc (by simp; omega) _).trans (hb.mono (by simp; omega))
  simp only [World.size_alloc] at g0 A1 R1 O1
  clear hb B0
  have ca := A1.c1; have co := O1.c0; have fo := O1.f0
  go_wp2_with fail
  clear ca co fo
  refine (toPairS_any _ _ _ _ n1 (by exact r1.below (Below.set L1 _ _ (by omega) _) (Nat.le_refl _))).mono ?_
  rintro e w2 ⟨b1, rfl, g1, o1, hb⟩
  rw [World.size_setCell] at hb g1
  have A2 := (A1.other (w.heap.size + 1 + 1) 0 (by omega) _).below hb A1.lt
  have R2 := (R1.other (w.heap.size + 1 + 1) 0 (by omega) _).below hb R1.lt
  have O2 := (O1.set0 _).below hb O1.lt
  have L2 : Below w.heap.size w w2 := (Below.set L1 (w.heap.size + 1 + 1) 0 (by omega) _).trans (hb.mono L1.size)
  have h0 := o0.1
  replace o0 := (o0.other (w.heap.size + 1 + 1) 0 (by omega) _).below hb o0.1
  have q1 : b0 < b1 := by omega
  clear h0
  clear hb A1 R1 O1 L1
  have ca := A2.c2; have co := O2.c1; have fo := O2.f1
  go_wp2_with fail
  clear ca co fo
  refine (toPairS_any _ _ _ _ n2 (by exact r2.below (Below.set L2 _ _ (by omega) _) (Nat.le_refl _))).mono ?_
  rintro e w3 ⟨b2, rfl, g2, o2, hb⟩
  rw [World.size_setCell] at hb g2
  have A3 := (A2.other (w.heap.size + 1 + 1) 1 (by omega) _).below hb A2.lt
  have R3 := (R2.other (w.heap.size + 1 + 1) 1 (by omega) _).below hb R2.lt
  have O3 := (O2.set1 _).below hb O2.lt
  have L3 : Below w.heap.size w w3 := (Below.set L2 (w.heap.size + 1 + 1) 1 (by omega) _).trans (hb.mono L2.size)
  have h0 := o0.1
  have h1 := o1.1
  replace o0 := (o0.other (w.heap.size + 1 + 1) 1 (by omega) _).below hb o0.1
  replace o1 := (o1.other (w.heap.size + 1 + 1) 1 (by omega) _).below hb o1.1
  have q2 : b1 < b2 := by omega
  clear h0
  clear h1
  clear hb A2 R2 O2 L2
  have ca := A3.c3; have co := O3.c2; have fo := O3.f2
  go_wp2_with fail
  clear ca co fo
  refine (toPairS_any _ _ _ _ n3 (by exact r3.below (Below.set L3 _ _ (by omega) _) (Nat.le_refl _))).mono ?_
  rintro e w4 ⟨b3, rfl, g3, o3, hb⟩
  rw [World.size_setCell] at hb g3
  have A4 := (A3.other (w.heap.size + 1 + 1) 2 (by omega) _).below hb A3.lt
  have R4 := (R3.other (w.heap.size + 1 + 1) 2 (by omega) _).below hb R3.lt
  have O4 := (O3.set2 _).below hb O3.lt
  have L4 : Below w.heap.size w w4 := (Below.set L3 (w.heap.size + 1 + 1) 2 (by omega) _).trans (hb.mono L3.size)
  have h0 := o0.1
  have h1 := o1.1
  have h2 := o2.1
  replace o0 := (o0.other (w.heap.size + 1 + 1) 2 (by omega) _).below hb o0.1
  replace o1 := (o1.other (w.heap.size + 1 + 1) 2 (by omega) _).below hb o1.1
  replace o2 := (o2.other (w.heap.size + 1 + 1) 2 (by omega) _).below hb o2.1
  have q3 : b2 < b3 := by omega
  clear h0
  clear h1
  clear h2
  clear hb A3 R3 O3 L3
  have co := O4.c3; have fo := O4.f3
  have d0 := O4.c0; have d1 := O4.c1; have d2 := O4.c2
  have e0 := R4.c0; have e1 := R4.c1; have e2 := R4.c2; have e3 := R4.c3
  have f0 := R4.f0; have f1 := R4.f1; have f2 := R4.f2; have f3 := R4.f3
  have z1 := R4.lt; have z2 := O4.lt
  go_wp2
  refine bodyPost_ret (v := .agg #[.slice (some ⟨b0, 0, none⟩) _ _, .slice (some ⟨b1, 0, none⟩) _ _, .slice (some ⟨b2, 0, none⟩) _ _, .slice (some ⟨b3, 0, none⟩) _ _]) ?_ rfl ⟨b0, b1, b2, b3, rfl, by omega, q1, q2, q3, ?_, ?_, ?_, ?_, ?_⟩
  · have R5 := ((((R4.other (w.heap.size + 1 + 1) 3 (by omega) (.slice (some ⟨b3, 0, none⟩) l3.length l3.length)).set0 (.slice (some ⟨b0, 0, none⟩) l0.length l0.length)).set1 (.slice (some ⟨b1, 0, none⟩) l1.length l1.length)).set2 (.slice (some ⟨b2, 0, none⟩) l2.length l2.length)).set3 (.slice (some ⟨b3, 0, none⟩) l3.length l3.length)
    have x0 := R5.c0; have x1 := R5.c1; have x2 := R5.c2; have x3 := R5.c3
    simp [results, Try.results41, go_sem, x0, x1, x2, x3]
  · exact ((((o0.other _ _ (by omega) _).other _ _ (by omega) _).other _ _ (by omega) _).other _ _ (by omega) _).other _ _ (by omega) _
  · exact ((((o1.other _ _ (by omega) _).other _ _ (by omega) _).other _ _ (by omega) _).other _ _ (by omega) _).other _ _ (by omega) _
  · exact ((((o2.other _ _ (by omega) _).other _ _ (by omega) _).other _ _ (by omega) _).other _ _ (by omega) _).other _ _ (by omega) _
  · exact ((((o3.other _ _ (by omega) _).other _ _ (by omega) _).other _ _ (by omega) _).other _ _ (by omega) _).other _ _ (by omega) _
  · exact Below.set (Below.set (Below.set (Below.set (Below.set L4 _ _ (by omega) _) _ _ (by omega) _) _ _ (by omega) _) _ _ (by omega) _) _ _ (by omega) _

end Go.Proofs.Ytphchdjbhbmnbaa
namespace Go.Proofs.Ytphchdjbhbmnbaa
open Go.RowKit

set_option maxHeartbeats 400000 in
theorem eqPair_same (x y : Int) (w : World) :
    Calls Try.prog 145 #[.agg #[.int .i64 x, .int .i64 y], .agg #[.int .i64 x, .int .i64 y]] w fun e w' => e = .returned (.bool true) ∧ Below w.heap.size w w' := by
  go_enter Try.func145, Try.ntmps145
  go_wp2
  go_ret
  exact ⟨rfl, ((Below.refl _ _).alloc (Nat.le_refl _) _).alloc (by simp) _⟩

set_option maxHeartbeats 400000 in
theorem eqPairS_some (b off cap b' off' cap' : Nat) (l : List (Int × Int)) (w : World) (hn : l.length ≤ 1048576) (hb : b < w.heap.size) (hb' : b' < w.heap.size)
    (hc : ∀ i, i < l.length → w.cell? ⟨b, off + i * 2, none⟩ = some (.int .i64 (l.getD i (0, 0)).1) ∧ w.cell? ⟨b, off + i * 2 + 1, none⟩ = some (.int .i64 (l.getD i (0, 0)).2))
    (hc' : ∀ i, i < l.length → w.cell? ⟨b', off' + i * 2, none⟩ = some (.int .i64 (l.getD i (0, 0)).1) ∧ w.cell? ⟨b', off' + i * 2 + 1, none⟩ = some (.int .i64 (l.getD i (0, 0)).2)) :
    Calls Try.prog 52 #[.slice (some ⟨b, off, none⟩) l.length cap, .slice (some ⟨b', off', none⟩) l.length cap'] w fun e w' => e = .returned (.bool true) ∧ Below w.heap.size w w' := by
  generalize hN : l.length = n at *
  clear hN
  go_enter Try.func52, Try.ntmps52
  go_wp2
  go_loopw [5] (fun i wr => ∃ k : Nat, k ≤ n ∧ i = .int .i64 k ∧ Below w.heap.size w wr) (fun i _ => n - (intOf i).toNat)
  case atStart => exact ⟨0, Nat.zero_le _, rfl, Below.refl _ _⟩
  case round =>
    obtain ⟨k, hk, rfl, hbw⟩ := hrel
    by_cases hlt : k < n
    · have hck := hc k hlt
      have hck' := hc' k hlt
      clear hc hc'
      have hx := hbw.cell (p := ⟨b, off + k * 2, none⟩) hb
      have hy := hbw.cell (p := ⟨b, off + k * 2 + 1, none⟩) hb
      have hx' := hbw.cell (p := ⟨b', off' + k * 2, none⟩) hb'
      have hy' := hbw.cell (p := ⟨b', off' + k * 2 + 1, none⟩) hb'
      rw [hck.1] at hx
      rw [hck.2] at hy
      rw [hck'.1] at hx'
      rw [hck'.2] at hy'
      clear hck hck'
      have hkn : (k : Int) < (n : Int) := by omega
      go_wp2
      go_region_with (go_at_call 145; refine (eqPair_same _ _ _).mono ?_; rintro e w1 ⟨rfl, hb1⟩)
      all_goals
        have hb2 : Below w.heap.size w w1 := hbw.drew.trans (hb1.mono (by simpa using hbw.size))
        clear hx hy hx' hy' hb1
        go_wp2
        go_roundw
        case rel => exact ⟨k + 1, by omega, by go_num, hb2⟩
        case measure => simp [intOf]; omega
    · go_wp2
      go_ret
      exact ⟨rfl, hbw⟩

set_option maxHeartbeats 400000 in
theorem eqPairS_none (a a' : Option Addr) (cap cap' : Nat) (w : World) :
    Calls Try.prog 52 #[.slice a 0 cap, .slice a' 0 cap'] w fun e w' => e = .returned (.bool true) ∧ Below w.heap.size w w' := by
  go_enter Try.func52, Try.ntmps52
  go_wp2
  go_loopw [5] (fun i wr => i = .int .i64 0 ∧ Below w.heap.size w wr) (fun _ _ => 0)
  case atStart => exact ⟨rfl, Below.refl _ _⟩
  case round =>
    obtain ⟨rfl, hbw⟩ := hrel
    go_wp2
    go_ret
    exact ⟨rfl, hbw⟩

theorem eqPairS_same (a a' : Option Addr) (cap cap' : Nat) (l : List (Int × Int)) (w : World) (hn : l.length ≤ 1048576) (hr : PRow w a l) (hr' : PRow w a' l) :
    Calls Try.prog 52 #[.slice a l.length cap, .slice a' l.length cap'] w fun e w' => e = .returned (.bool true) ∧ Below w.heap.size w w' := by
  rcases hr with rfl | ⟨b, off, rfl, hb, hc⟩
  · exact eqPairS_none _ _ _ _ w
  · rcases hr' with rfl | ⟨b', off', rfl, hb', hc'⟩
    · exact eqPairS_none _ _ _ _ w
    · exact eqPairS_some b off cap b' off' cap' l w hn hb hb' hc hc'

set_option maxHeartbeats 1000000 in
theorem eqAsn_same (a0 a1 a2 a3 d0 d1 d2 d3 : Option Addr) (c0 c1 c2 c3 e0 e1 e2 e3 : Nat) (l0 l1 l2 l3 : List (Int × Int)) (w : World)
    (n0 : l0.length ≤ 1048576) (n1 : l1.length ≤ 1048576) (n2 : l2.length ≤ 1048576) (n3 : l3.length ≤ 1048576)
    (r0 : PRow w a0 l0) (r1 : PRow w a1 l1) (r2 : PRow w a2 l2) (r3 : PRow w a3 l3) (s0 : PRow w d0 l0) (s1 : PRow w d1 l1) (s2 : PRow w d2 l2) (s3 : PRow w d3 l3) :
    Calls Try.prog 43 #[.agg #[.slice a0 l0.length c0, .slice a1 l1.length c1, .slice a2 l2.length c2, .slice a3 l3.length c3], .agg #[.slice d0 l0.length e0, .slice d1 l1.length e1, .slice d2 l2.length e2, .slice d3 l3.length e3]] w fun e w' =>
      e = .returned (.bool true) ∧ Below w.heap.size w w' := by
  have B0 := (Box.new w (.slice a0 l0.length c0) (.slice a1 l1.length c1) (.slice a2 l2.length c2) (.slice a3 l3.length c3) 28).alloc (.cells #[.slice d0 l0.length e0, .slice d1 l1.length e1, .slice d2 l2.length e2, .slice d3 l3.length e3] 28)
  have D0 := Box.new (w.alloc (.cells #[.slice a0 l0.length c0, .slice a1 l1.length c1, .slice a2 l2.length c2, .slice a3 l3.length c3] 28)) (.slice d0 l0.length e0) (.slice d1 l1.length e1) (.slice d2 l2.length e2) (.slice d3 l3.length e3) 28
  have L0 : Below w.heap.size w ((w.alloc (.cells #[.slice a0 l0.length c0, .slice a1 l1.length c1, .slice a2 l2.length c2, .slice a3 l3.length c3] 28)).alloc (.cells #[.slice d0 l0.length e0, .slice d1 l1.length e1, .slice d2 l2.length e2, .slice d3 l3.length e3] 28)) :=
    ((Below.refl _ _).alloc (Nat.le_refl _) _).alloc (by simp) _
  rw [World.size_alloc] at D0
  go_enter Try.func43, Try.ntmps43
  go_wp2_with fail
  refine (eqPairS_same _ _ _ _ _ _ n0 (by exact r0.below L0 (Nat.le_refl _)) (by exact s0.below L0 (Nat.le_refl _))).mono ?_
  rintro e w1 ⟨rfl, hb⟩
  have B1 := B0.below hb B0.lt; have D1 := D0.below hb D0.lt; have L1 := L0.trans (hb.mono L0.size)
  clear B0 D0 L0 hb
  have x := B1.c1; have y := D1.c1
  go_wp2_with fail
  clear x y
  refine (eqPairS_same _ _ _ _ _ _ n1 (by exact r1.below L1 (Nat.le_refl _)) (by exact s1.below L1 (Nat.le_refl _))).mono ?_
  rintro e w2 ⟨rfl, hb⟩
  have B2 := B1.below hb B1.lt; have D2 := D1.below hb D1.lt; have L2 := L1.trans (hb.mono L1.size)
  clear B1 D1 L1 hb
  have x := B2.c2; have y := D2.c2
  go_wp2_with fail
  clear x y
  refine (eqPairS_same _ _ _ _ _ _ n2 (by exact r2.below L2 (Nat.le_refl _)) (by exact s2.below L2 (Nat.le_refl _))).mono ?_
  rintro e w3 ⟨rfl, hb⟩
  have B3 := B2.below hb B2.lt; have D3 := D2.below hb D2.lt; have L3 := L2.trans (hb.mono L2.size)
  clear B2 D2 L2 hb
  have x := B3.c3; have y := D3.c3
  go_wp2_with fail
  clear x y
  refine (eqPairS_same _ _ _ _ _ _ n3 (by exact r3.below L3 (Nat.le_refl _)) (by exact s3.below L3 (Nat.le_refl _))).mono ?_
  rintro e w4 ⟨rfl, hb⟩
  have L4 := L3.trans (hb.mono L3.size)
  clear B3 D3 L3 hb
  go_wp2
  go_ret
  exact ⟨rfl, L4⟩

end Go.Proofs.Ytphchdjbhbmnbaa
namespace Go.Proofs.Ytphchdjbhbmnbaa
open Go.RowKit

theorem eqAsn_rows (a0 a1 a2 a3 d0 d1 d2 d3 : Option Addr) (n0 n1 n2 n3 c0 c1 c2 c3 e0 e1 e2 e3 : Nat) (l0 l1 l2 l3 : List (Int × Int)) (w : World)
    (m0 : n0 ≤ 1048576) (m1 : n1 ≤ 1048576) (m2 : n2 ≤ 1048576) (m3 : n3 ≤ 1048576)
    (r0 : PRow w a0 l0) (r1 : PRow w a1 l1) (r2 : PRow w a2 l2) (r3 : PRow w a3 l3) (s0 : PRow w d0 l0) (s1 : PRow w d1 l1) (s2 : PRow w d2 l2) (s3 : PRow w d3 l3)
    (h0 : l0.length = n0) (h1 : l1.length = n1) (h2 : l2.length = n2) (h3 : l3.length = n3) :
    Calls Try.prog 43 #[.agg #[.slice a0 n0 c0, .slice a1 n1 c1, .slice a2 n2 c2, .slice a3 n3 c3], .agg #[.slice d0 n0 e0, .slice d1 n1 e1, .slice d2 n2 e2, .slice d3 n3 e3]] w fun e w' =>
      e = .returned (.bool true) ∧ Below w.heap.size w w' := by
  subst h0 h1 h2 h3
  exact eqAsn_same _ _ _ _ _ _ _ _ _ _ _ _ _ _ _ _ _ _ _ _ _ m0 m1 m2 m3 r0 r1 r2 r3 s0 s1 s2 s3

end Go.Proofs.Ytphchdjbhbmnbaa
namespace Go.Proofs.Ytphchdjbhbmnbaa
open Go.RowKit

def tok (x : Int) : Bool := decide (0 ≤ x ∧ x < 16)
def toks (l : List (Int × Int)) : Bool := l.all fun p => tok p.1 && tok p.2
def asnB (l0 l1 l2 l3 : List (Int × Int)) : Bool := toks l0 && toks l1 && toks l2 && toks l3 && decide (l0.length ≤ 12) && decide (l1.length ≤ 12) && decide (l2.length + l3.length ≤ 6)

theorem toks_true {l : List (Int × Int)} (h : ∀ i, i < l.length → tok (l[i]?.getD (0, 0)).1 = true ∧ tok (l[i]?.getD (0, 0)).2 = true) : toks l = true := by
  unfold toks
  rw [List.all_eq_true]
  intro p hp
  obtain ⟨i, hi, rfl⟩ := List.getElem_of_mem hp
  have := h i hi
  simpa [hi] using this

theorem toks_false {l : List (Int × Int)} {i : Nat} (hi : i < l.length) (h : tok (l[i]?.getD (0, 0)).1 = false ∨ tok (l[i]?.getD (0, 0)).2 = false) : toks l = false := by
  unfold toks
  rw [List.all_eq_false]
  refine ⟨l[i], List.getElem_mem hi, ?_⟩
  simp [hi] at h
  rcases h with h | h <;> simp [h]

theorem sTermOk_any (x : Int) (w : World) : Calls Try.prog 130 #[.int .i64 x] w fun e w' => e = .returned (.bool (tok x)) ∧ w' = w := by
  by_cases c1 : 0 ≤ x
  · by_cases c2 : x < 16
    · go_enter Try.func130, Try.ntmps130
      go_wp2
      go_ret
      exact ⟨ret_bool (by simp [tok, c1, c2]), rfl⟩
    · go_enter Try.func130, Try.ntmps130
      go_wp2
      go_ret
      exact ⟨ret_bool (by simp [tok]; omega), rfl⟩
  · go_enter Try.func130, Try.ntmps130
    go_wp2
    go_ret
    exact ⟨ret_bool (by simp [tok]; omega), rfl⟩

theorem iTermOk_any (x : Int) (w : World) : Calls Try.prog 134 #[.int .i64 x] w fun e w' => e = .returned (.bool (tok x)) ∧ w' = w := by
  by_cases c1 : 0 ≤ x
  · by_cases c2 : x < 16
    · go_enter Try.func134, Try.ntmps134
      go_wp2
      go_ret
      exact ⟨ret_bool (by simp [tok, c1, c2]), rfl⟩
    · go_enter Try.func134, Try.ntmps134
      go_wp2
      go_ret
      exact ⟨ret_bool (by simp [tok]; omega), rfl⟩
  · go_enter Try.func134, Try.ntmps134
    go_wp2
    go_ret
    exact ⟨ret_bool (by simp [tok]; omega), rfl⟩

set_option maxHeartbeats 400000 in
theorem l1pairs_some (b off cap : Nat) (l : List (Int × Int)) (w : World) (hn : l.length ≤ 1048576)
    (hc : ∀ i, i < l.length → w.cell? ⟨b, off + i * 2, none⟩ = some (.int .i64 (l.getD i (0, 0)).1) ∧ w.cell? ⟨b, off + i * 2 + 1, none⟩ = some (.int .i64 (l.getD i (0, 0)).2)) :
    Calls Try.prog 208 #[.slice (some ⟨b, off, none⟩) l.length cap] w fun e w' => e = .returned (.bool (toks l)) ∧ w' = w := by
  have hT : (∀ i, i < l.length → tok (l[i]?.getD (0, 0)).1 = true ∧ tok (l[i]?.getD (0, 0)).2 = true) → toks l = true := toks_true
  have hF : ∀ i, i < l.length → (tok (l[i]?.getD (0, 0)).1 = false ∨ tok (l[i]?.getD (0, 0)).2 = false) → toks l = false := fun i h => toks_false h
  have HT : Hid (∀ i, i < l.length → (tok (l[i]?.getD (0, 0)).1 = false ∨ tok (l[i]?.getD (0, 0)).2 = false) → toks l = false) := hF
  have HF : Hid ((∀ i, i < l.length → tok (l[i]?.getD (0, 0)).1 = true ∧ tok (l[i]?.getD (0, 0)).2 = true) → toks l = true) := hT
  clear hT hF
  generalize hN : l.length = n at *
  clear hN
  go_enter Try.func208, Try.ntmps208
  go_wp2
  go_loop [3] (fun i => ∃ k : Nat, k ≤ n ∧ i = .int .i64 k ∧ Hid (∀ i, i < k → tok (l[i]?.getD (0, 0)).1 = true ∧ tok (l[i]?.getD (0, 0)).2 = true)) (fun i => n - (intOf i).toNat)
  case atStart => exact ⟨0, Nat.zero_le _, rfl, fun i hi => by omega⟩
  case round =>
    obtain ⟨k, hk, rfl, hall⟩ := hrel
    by_cases hlt : k < n
    · have hck := hc k hlt
      clear hc
      have hx := hck.1
      have hy := hck.2
      clear hck
      cases hA : tok (l[k]?.getD (0, 0)).1
      · go_wp2_with (go_at_call 130; refine (sTermOk_any _ _).mono ?_; rintro e w1 ⟨rfl, rfl⟩)
        go_ret
        exact ⟨ret_bool (HT.out k hlt (.inl hA)).symm, rfl⟩
      · cases hB : tok (l[k]?.getD (0, 0)).2
        · go_wp2_with (go_at_call 130; refine (sTermOk_any _ _).mono ?_; rintro e w1 ⟨rfl, rfl⟩)
          go_ret
          exact ⟨ret_bool (HT.out k hlt (.inr hB)).symm, rfl⟩
        · go_wp2_with (go_at_call 130; refine (sTermOk_any _ _).mono ?_; rintro e w1 ⟨rfl, rfl⟩)
          go_round
          case rel => exact ⟨k + 1, by omega, by go_num, fun i hi => by
            by_cases e : i = k
            · subst e; exact ⟨hA, hB⟩
            · exact hall.out i (by omega)⟩
          case measure => simp [intOf]; omega
    · go_wp2
      go_ret
      obtain rfl : k = n := by omega
      exact ⟨ret_bool (HF.out hall.out).symm, rfl⟩

set_option maxHeartbeats 400000 in
theorem l1pairs_nil (a : Option Addr) (cap : Nat) (w : World) : Calls Try.prog 208 #[.slice a 0 cap] w fun e w' => e = .returned (.bool true) ∧ w' = w := by
  go_enter Try.func208, Try.ntmps208
  go_wp2
  go_loop [3] (fun i => i = .int .i64 0) (fun _ => 0)
  case atStart => exact rfl
  case round =>
    subst hrel
    go_wp2
    go_ret
    exact ⟨rfl, rfl⟩

theorem l1pairs_any (a : Option Addr) (cap : Nat) (l : List (Int × Int)) (w : World) (hn : l.length ≤ 1048576) (hr : PRow w a l) :
    Calls Try.prog 208 #[.slice a l.length cap] w fun e w' => e = .returned (.bool (toks l)) ∧ w' = w := by
  rcases hr with rfl | ⟨b, off, rfl, hb, hc⟩
  · exact l1pairs_nil a cap w
  · exact l1pairs_some b off cap l w hn hc

set_option maxHeartbeats 1000000 in
theorem sAsnOk_any (a0 a1 a2 a3 : Option Addr) (c0 c1 c2 c3 : Nat) (l0 l1 l2 l3 : List (Int × Int)) (w : World)
    (n0 : l0.length ≤ 1048576) (n1 : l1.length ≤ 1048576) (n2 : l2.length ≤ 1048576) (n3 : l3.length ≤ 1048576)
    (r0 : PRow w a0 l0) (r1 : PRow w a1 l1) (r2 : PRow w a2 l2) (r3 : PRow w a3 l3) :
    Calls Try.prog 129 #[.agg #[.slice a0 l0.length c0, .slice a1 l1.length c1, .slice a2 l2.length c2, .slice a3 l3.length c3]] w fun e w' => e = .returned (.bool (asnB l0 l1 l2 l3)) ∧ Below w.heap.size w w' := by
  have L : Below w.heap.size w (w.alloc (.cells #[.slice a0 l0.length c0, .slice a1 l1.length c1, .slice a2 l2.length c2, .slice a3 l3.length c3] 28)) := (Below.refl _ _).alloc (Nat.le_refl _) _
  go_enter Try.func129, Try.ntmps129
  go_wp2_with fail
  refine (l1pairs_any _ _ _ _ n0 (by exact r0.below L (Nat.le_refl _))).mono ?_
  rintro e w1 ⟨rfl, rfl⟩
  cases h0 : toks l0
  · go_wp2
    go_ret
    exact ⟨ret_bool (by simp [asnB, h0]), L⟩
  go_wp2_with fail
  refine (l1pairs_any _ _ _ _ n1 (by exact r1.below L (Nat.le_refl _))).mono ?_
  rintro e w1 ⟨rfl, rfl⟩
  cases h1 : toks l1
  · go_wp2
    go_ret
    exact ⟨ret_bool (by simp [asnB, h1]), L⟩
  go_wp2_with fail
  refine (l1pairs_any _ _ _ _ n2 (by exact r2.below L (Nat.le_refl _))).mono ?_
  rintro e w1 ⟨rfl, rfl⟩
  cases h2 : toks l2
  · go_wp2
    go_ret
    exact ⟨ret_bool (by simp [asnB, h2]), L⟩
  go_wp2_with fail
  refine (l1pairs_any _ _ _ _ n3 (by exact r3.below L (Nat.le_refl _))).mono ?_
  rintro e w1 ⟨rfl, rfl⟩
  cases h3 : toks l3
  · go_wp2
    go_ret
    exact ⟨ret_bool (by simp [asnB, h3]), L⟩
  by_cases m0 : (l0.length : Int) ≤ 12
  rotate_left
  · go_wp2
    go_ret
    exact ⟨ret_bool (by simp [asnB]; omega), L⟩
  by_cases m1 : (l1.length : Int) ≤ 12
  rotate_left
  · go_wp2
    go_ret
    exact ⟨ret_bool (by simp [asnB]; omega), L⟩
  by_cases m2 : (l2.length : Int) ≤ 6
  rotate_left
  · go_wp2
    go_ret
    exact ⟨ret_bool (by simp [asnB]; omega), L⟩
  by_cases m3 : (l3.length : Int) ≤ 6
  rotate_left
  · go_wp2
    go_ret
    exact ⟨ret_bool (by simp [asnB]; omega), L⟩
  go_wp2
  go_ret
  exact ⟨ret_bool (by rw [Bool.eq_iff_iff]; simp [asnB, h0, h1, h2, h3]; omega), L⟩

end Go.Proofs.Ytphchdjbhbmnbaa
