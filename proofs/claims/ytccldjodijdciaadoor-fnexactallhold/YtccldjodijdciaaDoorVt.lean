/-
  The contracts of spec.VerdictText and impl.VerdictText.
-/
import Derived.Test.YtccldjodijdciaaDoorChecked
import Derived.Test.YtccldjodijdciaaDoorDBase
import Derived.Laws.IdiomStrings
import Derived.Outline
namespace Go.Proofs.YtccldjodijdciaaDoor
open Go.RowKit

def vw (v : Int) : List Int := if v = 0 then [104, 111, 108, 100, 115] else if v = 1 then [102, 97, 117, 108, 116] else if v = 2 then [112, 111, 115, 116] else if v = 3 then [105, 110, 118, 97, 114, 105, 97, 110, 116] else if v = 4 then [103, 97, 118, 101, 32, 117, 112] else []
theorem vw_le (v : Int) : (vw v).length ≤ 9 := by
  unfold vw
  split
  · decide
  split
  · decide
  split
  · decide
  split
  · decide
  split
  · decide
  · decide
theorem vw_none {v : Int} (h : v < 0 ∨ 4 < v) : vw v = [] := by
  unfold vw
  rw [if_neg (by omega), if_neg (by omega), if_neg (by omega), if_neg (by omega), if_neg (by omega)]

def bl (s : ByteArray) : List Int := s.data.toList.map fun b => (b.toNat : Int)
theorem ownY_str (w : World) (s : ByteArray) (cap : Nat) (e : TypeId) :
    OwnY (w.drew.alloc (.cells (bytesRow s cap) e ((bytesRow s cap).size, (bytesRow s cap).size + 1))) w.heap.size s.size (bl s) s.size := by
  have hc : ∀ j, (w.drew.alloc (.cells (bytesRow s cap) e ((bytesRow s cap).size, (bytesRow s cap).size + 1))).cell? ⟨w.heap.size, j, none⟩ = (bytesRow s cap)[j]? := fun j => World.cell?_alloc_mark w.drew _ _ _ j
  have hf : ∀ j, (w.drew.alloc (.cells (bytesRow s cap) e ((bytesRow s cap).size, (bytesRow s cap).size + 1))).frozen? ⟨w.heap.size, j, none⟩ = (decide ((bytesRow s cap).size ≤ j) && decide (j < (bytesRow s cap).size + 1)) := fun j => World.frozen?_alloc_mark w.drew _ _ _ _ j
  have hsz : s.size ≤ (bytesRow s cap).size := by unfold bytesRow; simp
  have hat : ∀ i, i < s.size → (bytesRow s cap)[i]? = some (.int .u8 ((bl s).getD i 0)) := by
    intro i hi
    have hi' : i < s.data.size := hi
    rw [bytesRow_at s cap i hi']
    have : (bl s).getD i 0 = (s.data[i].toNat : Int) := by
      have hl : i < (bl s).length := by simp [bl]; exact hi'
      rw [List.getD_eq_getElem?_getD, List.getElem?_eq_getElem hl]
      simp [bl]
    rw [this]
  refine ⟨by simp, fun j hj => ⟨⟨_, (hc j).trans (hat j hj)⟩, ?_⟩, fun i hi => (hc i).trans (hat i hi)⟩
  rw [hf, decide_eq_false (by omega)]
  rfl

theorem below_str {B : Nat} {a w : World} (h : Below B a w) (hB : B ≤ w.heap.size) (C : Array Value) (e : TypeId) (x : Nat × Nat) : Below B a (w.drew.alloc (.cells C e x)) := h.drew.alloc hB _

/-- The answer of VerdictText. -/
def VTo (v : Int) (w : World) (e : Ending) (w' : World) : Prop := ∃ a c, e = .returned (.slice a (vw v).length c) ∧ ByteIn w' w.heap.size w'.heap.size a (vw v).length (vw v) ∧ Below w.heap.size w w'
theorem VTo.nil {v : Int} (h : vw v = []) (w : World) : VTo v w (.returned (.slice none 0 0)) w := ⟨none, 0, by rw [h]; rfl, by rw [h]; exact ⟨rfl, .inl rfl⟩, Below.refl _ _⟩
theorem VTo.str {v : Int} {w wz : World} (s : ByteArray) (hs : vw v = bl s) (hn : (bl s).length = s.size) (hb : Below w.heap.size w wz) (cap : Nat) (e : TypeId) :
    VTo v w (.returned (.slice (some ⟨wz.heap.size, 0, none⟩) s.size cap)) (wz.drew.alloc (.cells (bytesRow s cap) e ((bytesRow s cap).size, (bytesRow s cap).size + 1))) := by
  refine ⟨_, _, by rw [hs, hn], ?_, below_str hb hb.size _ _ _⟩
  have h := ownY_str wz s cap e
  rw [hs, hn]
  exact ⟨hn, .inr ⟨_, rfl, hb.size, h.1, h⟩⟩
theorem VTo.strAt {v : Int} {w wz : World} {Z : Nat} (hZ : Z = wz.heap.size) (s : ByteArray) (hs : vw v = bl s) (hn : (bl s).length = s.size) (hb : Below w.heap.size w wz) (cap n : Nat) (hn2 : n = s.size) (e : TypeId) :
    VTo v w (.returned (.slice (some ⟨Z, 0, none⟩) n cap)) (wz.drew.alloc (.cells (bytesRow s cap) e ((bytesRow s cap).size, (bytesRow s cap).size + 1))) := by
  subst hZ hn2
  exact VTo.str s hs hn hb cap e

set_option maxRecDepth 100000 in
set_option maxHeartbeats 1000000 in
theorem sVerdict_any (v : Int) (w : World) :
    Calls Tryd.prog 6 #[.int .i64 v] w (VTo v w) := by
  by_cases h0 : v < 0
  · have HE : Hid (vw v = []) := vw_none (.inl h0)
    go_enter Tryd.func6, Tryd.ntmps6
    go_wp2
    go_ret
    exact VTo.nil HE.out _
  by_cases h1 : 4 < v
  · have HE : Hid (vw v = []) := vw_none (.inr h1)
    go_enter Tryd.func6, Tryd.ntmps6
    go_wp2
    go_ret
    exact VTo.nil HE.out _
  obtain rfl | rfl | rfl | rfl | rfl : v = 0 ∨ v = 1 ∨ v = 2 ∨ v = 3 ∨ v = 4 := by omega
  · go_enter Tryd.func6, Tryd.ntmps6
    go_wp2
    rw [run_bytes_of_string _ 9 22 5 _ Tryd.underlying9 Tryd.underlying22 Tryd.underlying5]
    go_wp2
    go_ret
    exact VTo.strAt (v := 0) (by simp) ⟨#[104, 111, 108, 100, 115]⟩ (by rfl) (by rfl) ((Below.refl _ _).alloc (Nat.le_refl _) _) _ _ (by rfl) _
  · go_enter Tryd.func6, Tryd.ntmps6
    go_wp2
    rw [run_bytes_of_string _ 9 22 5 _ Tryd.underlying9 Tryd.underlying22 Tryd.underlying5]
    go_wp2
    go_ret
    exact VTo.strAt (v := 1) (by simp) ⟨#[102, 97, 117, 108, 116]⟩ (by rfl) (by rfl) ((Below.refl _ _).alloc (Nat.le_refl _) _) _ _ (by rfl) _
  · go_enter Tryd.func6, Tryd.ntmps6
    go_wp2
    rw [run_bytes_of_string _ 9 22 5 _ Tryd.underlying9 Tryd.underlying22 Tryd.underlying5]
    go_wp2
    go_ret
    exact VTo.strAt (v := 2) (by simp) ⟨#[112, 111, 115, 116]⟩ (by rfl) (by rfl) ((Below.refl _ _).alloc (Nat.le_refl _) _) _ _ (by rfl) _
  · go_enter Tryd.func6, Tryd.ntmps6
    go_wp2
    rw [run_bytes_of_string _ 9 22 5 _ Tryd.underlying9 Tryd.underlying22 Tryd.underlying5]
    go_wp2
    go_ret
    exact VTo.strAt (v := 3) (by simp) ⟨#[105, 110, 118, 97, 114, 105, 97, 110, 116]⟩ (by rfl) (by rfl) ((Below.refl _ _).alloc (Nat.le_refl _) _) _ _ (by rfl) _
  · go_enter Tryd.func6, Tryd.ntmps6
    go_wp2
    rw [run_bytes_of_string _ 9 22 5 _ Tryd.underlying9 Tryd.underlying22 Tryd.underlying5]
    go_wp2
    go_ret
    exact VTo.strAt (v := 4) (by simp) ⟨#[103, 97, 118, 101, 32, 117, 112]⟩ (by rfl) (by rfl) ((Below.refl _ _).alloc (Nat.le_refl _) _) _ _ (by rfl) _

set_option maxRecDepth 100000 in
set_option maxHeartbeats 1000000 in
theorem iVerdict_any (v : Int) (w : World) (hc0 : w.cell? ⟨0, 0, none⟩ = some (.string ⟨#[104, 111, 108, 100, 115]⟩)) (hc1 : w.cell? ⟨0, 1, none⟩ = some (.string ⟨#[102, 97, 117, 108, 116]⟩)) (hc2 : w.cell? ⟨0, 2, none⟩ = some (.string ⟨#[112, 111, 115, 116]⟩)) (hc3 : w.cell? ⟨0, 3, none⟩ = some (.string ⟨#[105, 110, 118, 97, 114, 105, 97, 110, 116]⟩)) (hc4 : w.cell? ⟨0, 4, none⟩ = some (.string ⟨#[103, 97, 118, 101, 32, 117, 112]⟩)) :
    Calls Tryd.prog 7 #[.int .i64 v] w (VTo v w) := by
  by_cases h0 : v < 0
  · have HE : Hid (vw v = []) := vw_none (.inl h0)
    go_enter Tryd.func7, Tryd.ntmps7
    go_wp2
    go_ret
    exact VTo.nil HE.out _
  by_cases h1 : 4 < v
  · have HE : Hid (vw v = []) := vw_none (.inr h1)
    go_enter Tryd.func7, Tryd.ntmps7
    go_wp2
    go_ret
    exact VTo.nil HE.out _
  obtain rfl | rfl | rfl | rfl | rfl : v = 0 ∨ v = 1 ∨ v = 2 ∨ v = 3 ∨ v = 4 := by omega
  · have x : ∀ w : World, (Instr.index 31 (.agg #[.string ⟨#[104, 111, 108, 100, 115]⟩, .string ⟨#[102, 97, 117, 108, 116]⟩, .string ⟨#[112, 111, 115, 116]⟩, .string ⟨#[105, 110, 118, 97, 114, 105, 97, 110, 116]⟩, .string ⟨#[103, 97, 118, 101, 32, 117, 112]⟩]) (.int .i64 0)).run Tryd.prog w = .ok (.string ⟨#[104, 111, 108, 100, 115]⟩) w := fun _ => by kernel_rfl
    go_enter Tryd.func7, Tryd.ntmps7
    go_wp2
    rw [run_bytes_of_string _ 9 22 5 _ Tryd.underlying9 Tryd.underlying22 Tryd.underlying5]
    go_wp2
    go_ret
    exact VTo.str (v := 0) ⟨#[104, 111, 108, 100, 115]⟩ (by rfl) (by rfl) (Below.refl _ _) _ _
  · have x : ∀ w : World, (Instr.index 31 (.agg #[.string ⟨#[104, 111, 108, 100, 115]⟩, .string ⟨#[102, 97, 117, 108, 116]⟩, .string ⟨#[112, 111, 115, 116]⟩, .string ⟨#[105, 110, 118, 97, 114, 105, 97, 110, 116]⟩, .string ⟨#[103, 97, 118, 101, 32, 117, 112]⟩]) (.int .i64 1)).run Tryd.prog w = .ok (.string ⟨#[102, 97, 117, 108, 116]⟩) w := fun _ => by kernel_rfl
    go_enter Tryd.func7, Tryd.ntmps7
    go_wp2
    rw [run_bytes_of_string _ 9 22 5 _ Tryd.underlying9 Tryd.underlying22 Tryd.underlying5]
    go_wp2
    go_ret
    exact VTo.str (v := 1) ⟨#[102, 97, 117, 108, 116]⟩ (by rfl) (by rfl) (Below.refl _ _) _ _
  · have x : ∀ w : World, (Instr.index 31 (.agg #[.string ⟨#[104, 111, 108, 100, 115]⟩, .string ⟨#[102, 97, 117, 108, 116]⟩, .string ⟨#[112, 111, 115, 116]⟩, .string ⟨#[105, 110, 118, 97, 114, 105, 97, 110, 116]⟩, .string ⟨#[103, 97, 118, 101, 32, 117, 112]⟩]) (.int .i64 2)).run Tryd.prog w = .ok (.string ⟨#[112, 111, 115, 116]⟩) w := fun _ => by kernel_rfl
    go_enter Tryd.func7, Tryd.ntmps7
    go_wp2
    rw [run_bytes_of_string _ 9 22 5 _ Tryd.underlying9 Tryd.underlying22 Tryd.underlying5]
    go_wp2
    go_ret
    exact VTo.str (v := 2) ⟨#[112, 111, 115, 116]⟩ (by rfl) (by rfl) (Below.refl _ _) _ _
  · have x : ∀ w : World, (Instr.index 31 (.agg #[.string ⟨#[104, 111, 108, 100, 115]⟩, .string ⟨#[102, 97, 117, 108, 116]⟩, .string ⟨#[112, 111, 115, 116]⟩, .string ⟨#[105, 110, 118, 97, 114, 105, 97, 110, 116]⟩, .string ⟨#[103, 97, 118, 101, 32, 117, 112]⟩]) (.int .i64 3)).run Tryd.prog w = .ok (.string ⟨#[105, 110, 118, 97, 114, 105, 97, 110, 116]⟩) w := fun _ => by kernel_rfl
    go_enter Tryd.func7, Tryd.ntmps7
    go_wp2
    rw [run_bytes_of_string _ 9 22 5 _ Tryd.underlying9 Tryd.underlying22 Tryd.underlying5]
    go_wp2
    go_ret
    exact VTo.str (v := 3) ⟨#[105, 110, 118, 97, 114, 105, 97, 110, 116]⟩ (by rfl) (by rfl) (Below.refl _ _) _ _
  · have x : ∀ w : World, (Instr.index 31 (.agg #[.string ⟨#[104, 111, 108, 100, 115]⟩, .string ⟨#[102, 97, 117, 108, 116]⟩, .string ⟨#[112, 111, 115, 116]⟩, .string ⟨#[105, 110, 118, 97, 114, 105, 97, 110, 116]⟩, .string ⟨#[103, 97, 118, 101, 32, 117, 112]⟩]) (.int .i64 4)).run Tryd.prog w = .ok (.string ⟨#[103, 97, 118, 101, 32, 117, 112]⟩) w := fun _ => by kernel_rfl
    go_enter Tryd.func7, Tryd.ntmps7
    go_wp2
    rw [run_bytes_of_string _ 9 22 5 _ Tryd.underlying9 Tryd.underlying22 Tryd.underlying5]
    go_wp2
    go_ret
    exact VTo.str (v := 4) ⟨#[103, 97, 118, 101, 32, 117, 112]⟩ (by rfl) (by rfl) (Below.refl _ _) _ _

end Go.Proofs.YtccldjodijdciaaDoor
