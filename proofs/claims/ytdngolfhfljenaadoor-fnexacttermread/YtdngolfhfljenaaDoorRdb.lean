/-
  The contract of laws.toByteS, and those of TermRead, in package spec and in package impl.
-/
import Derived.Test.YtdngolfhfljenaaDoorTxt
import Derived.Test.YtdngolfhfljenaaDoorByt
import Derived.Laws.BytesArg
import Derived.Laws.MakeOwn
import Derived.Deep.RegionWith
import Derived.Outline
namespace Go.Proofs.YtdngolfhfljenaaDoor
open Go.RowKit

/-- The slice that begins at 'a' reads as the bytes of l. -/
def YRow (w : World) (a : Option Addr) (l : List Int) : Prop :=
  l = [] ∨ ∃ b off, a = some ⟨b, off, none⟩ ∧ b < w.heap.size ∧ ∀ i, i < l.length → w.cell? ⟨b, off + i, none⟩ = some (.int .u8 (l.getD i 0))

theorem YRow.below {w w' : World} {a : Option Addr} {l : List Int} (h : YRow w a l) (hb : Below w.heap.size w w') : YRow w' a l := by
  rcases h with h | ⟨b, off, rfl, hlt, hc⟩
  · exact .inl h
  · refine .inr ⟨b, off, rfl, Nat.lt_of_lt_of_le hlt hb.size, fun i hi => ?_⟩
    rw [hb.cell (p := ⟨b, _, none⟩) hlt]
    exact hc i hi

def yrow (n : Nat) : Array Value := madeCells #[.int .u8 0] n
theorem size_yrow (n : Nat) : (yrow n).size = n := size_madeCells _ _

theorem OwnY.start (w : World) (n : Nat) (l : List Int) : OwnY (w.alloc (.cells (yrow n) 5)) w.heap.size n l 0 := by
  refine ⟨by simp, fun j hj => ⟨?_, by simp⟩, fun i hi => by omega⟩
  rw [World.cell?_alloc_new]
  exact ⟨(yrow n)[j]'(by rw [size_yrow]; exact hj), by simp [size_yrow, hj]⟩

theorem run_make22 (n : Nat) (hn : n ≤ 1048576) (w : World) : (Instr.makeSlice 22 (.int .i64 n) (.int .i64 n)).run Tryd.prog w = .ok (.slice (some ⟨w.heap.size, 0, none⟩) n n) (w.alloc (.cells (yrow n) 5)) := by
  obtain ⟨i0, hi, hz0, hz1, hz2⟩ := Tryd.i5
  have r := run_make (P := Tryd.prog) w 22 5 i0 _ Tryd.underlying22 hi hz0 .i64 .i64 n n (by omega) (by omega) (by rw [hz2]; omega) (by omega)
  rw [hz1] at r
  simpa [yrow, Value.cells] using r

set_option maxHeartbeats 400000 in
theorem toByteS_some (b off cap : Nat) (l : List Int) (w : World) (hn : l.length ≤ 1048576) (hb : b < w.heap.size) (hc : ∀ i, i < l.length → w.cell? ⟨b, off + i, none⟩ = some (.int .u8 (l.getD i 0))) :
    Calls Tryd.prog 29 #[.slice (some ⟨b, off, none⟩) l.length cap] w fun e w' => e = .returned (.slice (some ⟨w.heap.size, 0, none⟩) l.length l.length) ∧ OwnY w' w.heap.size l.length l l.length ∧ Below w.heap.size w w' := by
  have hmk := run_make22 l.length hn
  have hs := OwnY.start w l.length l
  have hbl : Below w.heap.size w (w.alloc (.cells (yrow l.length) 5)) := (Below.refl _ _).alloc (Nat.le_refl _) _
  generalize hN : l.length = n at *
  clear hN
  go_enter Tryd.func29, Tryd.ntmps29
  go_wp2
  go_loopw [4] (fun i wr => ∃ k : Nat, k ≤ n ∧ i = .int .i64 k ∧ OwnY wr w.heap.size n l k ∧ Below w.heap.size w wr) (fun i _ => n - (intOf i).toNat)
  case atStart => exact ⟨0, Nat.zero_le _, rfl, hs, hbl⟩
  case round =>
    clear hs hbl
    obtain ⟨k, hk, rfl, ho, hbw⟩ := hrel
    by_cases hlt : k < n
    · have hx := hbw.cell (p := ⟨b, off + k, none⟩) hb
      rw [hc k hlt] at hx
      clear hc
      obtain ⟨v0, hv0⟩ := (ho.2.1 k hlt).1
      have hf0 := (ho.2.1 k hlt).2
      have hst := ho.step hlt
      have hb2 := Below.set hbw w.heap.size k (Nat.le_refl _) (.int .u8 (l.getD k 0))
      clear ho hbw
      go_wp2
      go_roundw
      case rel => exact ⟨k + 1, by omega, by go_num, hst, hb2⟩
      case measure => simp [intOf]; omega
    · go_wp2
      go_ret
      obtain rfl : k = n := by omega
      exact ⟨rfl, ho, hbw⟩

set_option maxHeartbeats 400000 in
theorem toByteS_nil (a : Option Addr) (cap : Nat) (w : World) :
    Calls Tryd.prog 29 #[.slice a 0 cap] w fun e w' => e = .returned (.slice (some ⟨w.heap.size, 0, none⟩) 0 0) ∧ OwnY w' w.heap.size 0 [] 0 ∧ Below w.heap.size w w' := by
  have hmk : ∀ w : World, (Instr.makeSlice 22 (.int .i64 0) (.int .i64 0)).run Tryd.prog w = .ok (.slice (some ⟨w.heap.size, 0, none⟩) 0 0) (w.alloc (.cells (yrow 0) 5)) := fun w => run_make22 0 (by omega) w
  have hs := OwnY.start w 0 []
  have hbl : Below w.heap.size w (w.alloc (.cells (yrow 0) 5)) := (Below.refl _ _).alloc (Nat.le_refl _) _
  go_enter Tryd.func29, Tryd.ntmps29
  go_wp2
  go_loopw [4] (fun i wr => i = .int .i64 0 ∧ OwnY wr w.heap.size 0 [] 0 ∧ Below w.heap.size w wr) (fun _ _ => 0)
  case atStart => exact ⟨rfl, hs, hbl⟩
  case round =>
    clear hs hbl
    obtain ⟨rfl, ho, hbw⟩ := hrel
    go_wp2
    go_ret
    exact ⟨rfl, ho, hbw⟩

theorem toByteS_any (a : Option Addr) (cap : Nat) (l : List Int) (w : World) (hn : l.length ≤ 1048576) (hr : YRow w a l) :
    Calls Tryd.prog 29 #[.slice a l.length cap] w fun e w' => ∃ b, e = .returned (.slice (some ⟨b, 0, none⟩) l.length l.length) ∧ w.heap.size ≤ b ∧ OwnY w' b l.length l l.length ∧ Below w.heap.size w w' := by
  rcases hr with rfl | ⟨b, off, rfl, hb, hc⟩
  · exact (toByteS_nil a cap w).mono fun e w' ⟨h1, h2, h3⟩ => ⟨_, h1, Nat.le_refl _, h2, h3⟩
  · exact (toByteS_some b off cap l w hn hb hc).mono fun e w' ⟨h1, h2, h3⟩ => ⟨_, h1, Nat.le_refl _, h2, h3⟩

/-- A row of the call's own, made a string. -/
theorem OwnY.str {w : World} {b n c : Nat} {l : List Int} (h : OwnY w b n l n) (hl : l.length = n) : (convert 22 9 (.slice (some ⟨b, 0, none⟩) n c)).run Tryd.prog w = .ok (.string (strOfNums l)) w :=
  run_convert_bytes_arg w 22 5 Tryd.underlying22 Tryd.underlying5 b 0 n c l hl (fun i hi => by rw [Nat.zero_add]; exact h.2.2 i hi) 9 Tryd.underlying9

def rdGo (q : Nat → Bool) : Nat → Nat → Int × Bool
  | 0, _ => (0, false)
  | n + 1, t => if q t = true then ((t : Int), true) else rdGo q n (t + 1)

theorem rdGo_hit (q : Nat → Bool) : ∀ (n t k : Nat), t ≤ k → k < t + n → (∀ i, t ≤ i → i < k → q i = false) → q k = true → rdGo q n t = ((k : Int), true)
  | 0, t, k, h1, h2, _, _ => absurd h1 (by omega)
  | n + 1, t, k, h1, h2, h3, h4 => by
    unfold rdGo
    by_cases e : t = k
    · subst e; rw [h4]; simp
    · rw [h3 t (Nat.le_refl _) (by omega), if_neg (by simp)]
      exact rdGo_hit q n (t + 1) k (by omega) (by omega) (fun i hi hk => h3 i (by omega) hk) h4

theorem rdGo_miss (q : Nat → Bool) : ∀ (n t : Nat), (∀ i, t ≤ i → i < t + n → q i = false) → rdGo q n t = (0, false)
  | 0, _, _ => rfl
  | n + 1, t, h => by
    unfold rdGo
    rw [h t (Nat.le_refl _) (by omega), if_neg (by simp)]
    exact rdGo_miss q n (t + 1) (fun i hi hk => h i (by omega) (by omega))

def rd (q : Nat → Bool) : Int × Bool := rdGo q 16 0
theorem rd_hit {q : Nat → Bool} {k : Nat} (h2 : k < 16) (h3 : ∀ i, i < k → q i = false) (h4 : q k = true) : rd q = ((k : Int), true) := rdGo_hit q 16 0 k (Nat.zero_le _) (by omega) (fun i _ hi => h3 i hi) h4
theorem rd_miss {q : Nat → Bool} (h3 : ∀ i, i < 16 → q i = false) : rd q = (0, false) := rdGo_miss q 16 0 (fun i _ hi => h3 i (by omega))

/-- Is that the text of t? -/
def qB (l : List Int) (t : Nat) : Bool := (strOfNums (tt t)).toList == (strOfNums l).toList

theorem tt_pos (t : Int) : 0 < (tt t).length := by
  unfold tt dg
  split
  · simp
  · split
    · simp
    · split <;> simp

theorem ByteIn.own {w : World} {lo hi n : Nat} {a : Option Addr} {l : List Int} (h : ByteIn w lo hi a n l) (hp : 0 < n) : ∃ g, a = some ⟨g, 0, none⟩ ∧ OwnY w g n l n := by
  obtain ⟨_, h0 | ⟨b, rfl, _, _, h3⟩⟩ := h
  · omega
  · exact ⟨b, rfl, h3⟩

end Go.Proofs.YtdngolfhfljenaaDoor
