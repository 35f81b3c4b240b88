/-
  The contract of spec.TermText.
-/
import Derived.Test.YtdngolfhfljenaaDoorDig
import Derived.Laws.IdiomStrings
namespace Go.Proofs.YtdngolfhfljenaaDoor
open Go.RowKit

theorem nil_row (w : World) : ByteIn (w.alloc (.cells #[.int .u8 110, .int .u8 105, .int .u8 108] 5 (3, 3 + 1))) w.heap.size (w.heap.size + 1) (some ⟨w.heap.size, 0, none⟩) 3 [110, 105, 108] := by
  refine ⟨rfl, .inr ⟨w.heap.size, rfl, Nat.le_refl _, by omega, by simp, fun j hj => ?_, fun i hi => ?_⟩⟩
  · have : j = 0 ∨ j = 1 ∨ j = 2 := by omega
    rw [World.cell?_alloc_mark, World.frozen?_alloc_mark]
    rcases this with rfl | rfl | rfl <;> exact ⟨⟨_, rfl⟩, rfl⟩
  · have : i = 0 ∨ i = 1 ∨ i = 2 := by omega
    rw [World.cell?_alloc_mark]
    rcases this with rfl | rfl | rfl <;> rfl

set_option maxHeartbeats 400000 in
theorem l1term_nil (w : World) :
    Calls Tryd.prog 46 #[.int .i64 0] w fun e w' => ∃ a c, e = .returned (.slice a 3 c) ∧ ByteIn w' w.heap.size w'.heap.size a 3 [110, 105, 108] ∧ Below w.heap.size w w' := by
  have kc := fun (w : World) (C : Array Value) (n c : Nat) => Lib.run_convert_bytes_const (P := Tryd.prog) w 22 5 C n c Tryd.underlying22 Tryd.underlying5
  have hr := nil_row w
  have hb : Below w.heap.size w (w.alloc (.cells #[.int .u8 110, .int .u8 105, .int .u8 108] 5 (3, 3 + 1))) := (Below.refl _ _).alloc (Nat.le_refl _) _
  go_enter Tryd.func46, Tryd.ntmps46
  go_wp2
  go_ret
  exact ⟨_, _, rfl, by simpa using hr, hb⟩

set_option maxHeartbeats 400000 in
theorem l1term_var (t : Int) (w : World) (h0 : 1 ≤ t) (h1 : t ≤ 5) :
    Calls Tryd.prog 46 #[.int .i64 t] w fun e w' => ∃ a c, e = .returned (.slice a 1 c) ∧ ByteIn w' w.heap.size w'.heap.size a 1 [96 + t] ∧ Below w.heap.size w w' := by
  have hz : (t == 0) = false := by simp; omega
  have ho := lit_owns w [96 + t] 1 rfl (by decide)
  have hb : Below w.heap.size w (w.alloc (.cells (ic [96 + t]).toArray 5)) := (Below.refl _ _).alloc (Nat.le_refl _) _
  obtain ⟨a, c, e, hr⟩ := ByteIn.ofOwns ho
  injection e with e1 e2 e3
  subst e1 e3
  have HR : Hid (ByteIn (w.alloc (.cells (ic [96 + t]).toArray 5)) w.heap.size (w.alloc (.cells (ic [96 + t]).toArray 5)).heap.size (some ⟨w.heap.size, 0, none⟩) 1 [96 + t]) := hr
  have hq : (97 : Int) + t - 1 = 96 + t := by omega
  clear hr ho e2
  go_enter Tryd.func46, Tryd.ntmps46
  go_wp2
  go_ret
  exact ⟨_, _, rfl, HR.out, hb⟩

set_option maxHeartbeats 400000 in
theorem l1term_name (t : Int) (w : World) (h0 : 6 ≤ t) (h1 : t ≤ 15) :
    Calls Tryd.prog 46 #[.int .i64 t] w fun e w' => ∃ a c, e = .returned (.slice a (95 :: dg (t - 5)).length c) ∧ ByteIn w' w.heap.size w'.heap.size a (95 :: dg (t - 5)).length (95 :: dg (t - 5)) ∧ Below w.heap.size w w' := by
  obtain ⟨i0, hi, hz0, hz1, hz2⟩ := Tryd.i5
  have hz : (t == 0) = false := by simp; omega
  have ho := lit_owns w [95] 1 rfl (by decide)
  have hb0 : Below w.heap.size w (w.alloc (.cells (ic [95]).toArray 5)) := (Below.refl _ _).alloc (Nat.le_refl _) _
  go_enter Tryd.func46, Tryd.ntmps46
  go_wp2_with fail
  refine (digits_any (t - 5) _ (by omega) (by omega)).mono ?_
  rintro e w1 ⟨v, rfl, hown, hb⟩
  have hd : 0 < (dg (t - 5)).length ∧ (dg (t - 5)).length ≤ 2 := by unfold dg; split <;> simp
  obtain ⟨ds, hds⟩ : ∃ ds, dg (t - 5) = ds := ⟨_, rfl⟩
  have HD : Hid (dg (t - 5) = ds) := hds
  rw [hds] at hown hd
  clear hds
  have ho1 : w1.ownsRow w.heap.size 5 1 (.slice (some ⟨w.heap.size, 0, none⟩) 1 1) 1 (ic [95]) := ho.kept ⟨hb.os, hb.tape, hb.output, hb.size, fun k hk _ => hb.block k hk⟩ (row := none) (by simp [Value.ownBlock])
  have hb1 := hb0.trans (hb.mono hb0.size)
  obtain ⟨g, cap, hv, hnw⟩ : ∃ g cap, v = .slice (some ⟨g, 0, none⟩) ds.length cap ∧ ∀ j u, (ic ds)[j]? = some u → w1.cell? ((⟨g, 0, none⟩ : Addr).add j) = some u := by
    rcases hown.2 with ⟨_, h⟩ | ⟨g, cap, cur, hv, _⟩
    · omega
    · exact ⟨g, cap, hv, fun j u hu => by subst hv; exact hown.cells rfl j u hu⟩
  subst hv
  have hs := hb.size
  clear ho hb0 hown hb
  have HN : Hid (∀ j u, (ic ds)[j]? = some u → w1.cell? ((⟨g, 0, none⟩ : Addr).add j) = some u) := hnw
  clear hnw
  go_wp2_with (at_builtin; refine wpList_append_own _ rfl _ _ 22 rfl w.heap.size 5 i0 (.int .u8 0) 1 1 Tryd.underlying22 hi hz0 hz1 hz2 rfl (by decide) _ _ _ rfl ho1 ⟨g, 0, none⟩ ds.length cap (ic ds) rfl (ic_length ds) ?c1 ?c2 ?c3 ?c4 ?c5 ?_)
  case c1 => exact HN.out
  case c2 => intro u hu; obtain ⟨x, _, rfl⟩ := List.mem_map.1 hu; rfl
  case c3 => unfold maxLen; omega
  case c4 => omega
  case c5 => exact hb1.size
  intro v' w2 hown' hg hiff
  have hb2 := hb1.grown hg hb1.size (by intro q hq; exact (ho1.lt q hq).1)
  have hw : w2.ownsRow w.heap.size 5 1 v' (95 :: ds).length (ic (95 :: ds)) := by simpa [ic, Nat.add_comm] using hown'
  obtain ⟨a, c, rfl, hr⟩ := ByteIn.ofOwns hw
  have HR : Hid (ByteIn w2 w.heap.size w2.heap.size a (95 :: ds).length (95 :: ds)) := hr
  clear hiff hg hown' hw ho1 hr hb1
  go_wp2
  go_ret
  exact ⟨a, c, by rw [HD.out]; rfl, by rw [HD.out]; exact HR.out, hb2⟩

theorem l1term_any (t : Int) (w : World) (h0 : 0 ≤ t) (h1 : t ≤ 15) :
    Calls Tryd.prog 46 #[.int .i64 t] w fun e w' => ∃ a c, e = .returned (.slice a (tt t).length c) ∧ ByteIn w' w.heap.size w'.heap.size a (tt t).length (tt t) ∧ Below w.heap.size w w' := by
  by_cases c0 : t = 0
  · subst c0; exact l1term_nil w
  · by_cases c1 : t ≤ 5
    · have e : tt t = [96 + t] := by simp [tt, c0, c1]
      rw [e]; exact l1term_var t w (by omega) c1
    · have e : tt t = 95 :: dg (t - 5) := by simp [tt, c0, c1]
      rw [e]; exact l1term_name t w (by omega) h1

end Go.Proofs.YtdngolfhfljenaaDoor
