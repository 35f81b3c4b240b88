/-
  The contracts of TermText, in package spec and in package impl: both write one text a term.
-/
import Derived.Test.YtdngolfhfljenaaDoorChecked
import Derived.Test.YtdngolfhfljenaaDoorBase
import Derived.Lib.SlBytesConst
import Derived.Laws.AppendOwn
import Derived.Deep.AppendSrc
import Derived.Outline
namespace Go.Proofs.YtdngolfhfljenaaDoor
open Go.RowKit

def dg (n : Int) : List Int := if n < 10 then [48 + n] else [49, 48]
/-- The text of a term. -/
def tt (t : Int) : List Int := if t = 0 then [110, 105, 108] else if t ≤ 5 then [96 + t] else 95 :: dg (t - 5)

theorem Tryd.i5 : ∃ i, Tryd.prog.info? 5 = some i ∧ i.zero = some (.int .u8 0) ∧ i.size = 1 ∧ i.bytes = 1 := by
  have h : (Tryd.prog.info? 5).map (fun i => (i.zero, i.size, i.bytes)) = some (some (.int .u8 0), 1, 1) := by kernel_rfl
  cases hi : Tryd.prog.info? 5 with
  | none => rw [hi] at h; simp at h
  | some i =>
    rw [hi] at h
    simp only [Option.map_some, Option.some.injEq, Prod.mk.injEq] at h
    exact ⟨i, rfl, h.1, h.2.1, h.2.2⟩

theorem lit_owns (w : World) (l : List Int) (n : Nat) (hl : l.length = n) (hm : n ≤ maxLen) : (w.alloc (.cells (ic l).toArray 5)).ownsRow w.heap.size 5 1 (.slice (some ⟨w.heap.size, 0, none⟩) n n) n (ic l) := by
  have h := World.ownsRow_lit (base := w.heap.size) (e := 5) (size := 1) w (ic l).toArray n (Nat.le_refl _) hm (by simp [ic, hl])
  simpa using h

theorem owns_low {w : World} {base base' n : Nat} {v : Value} {xs : List Value} (h : w.ownsRow base 5 1 v n xs) (hb : base' ≤ base) : w.ownsRow base' 5 1 v n xs := by
  refine ⟨h.1, ?_⟩
  rcases h.2 with h2 | ⟨g, cap, cur, h3, h4, h5⟩
  · exact .inl h2
  · exact .inr ⟨g, cap, cur, h3, Nat.le_trans hb h4, h5⟩

set_option maxHeartbeats 400000 in
theorem digits_small (n : Int) (w : World) (h0 : 0 ≤ n) (h1 : n < 10) :
    Calls Tryd.prog 57 #[.int .i64 n] w fun e w' => ∃ v, e = .returned v ∧ w'.ownsRow w.heap.size 5 1 v 1 (ic [48 + n]) ∧ Below w.heap.size w w' := by
  have ho := lit_owns w [48 + n] 1 rfl (by decide)
  have hb : Below w.heap.size w (w.alloc (.cells (ic [48 + n]).toArray 5)) := (Below.refl _ _).alloc (Nat.le_refl _) _
  go_enter Tryd.func57, Tryd.ntmps57
  go_wp2
  go_ret
  exact ⟨_, rfl, ho, hb⟩

set_option maxHeartbeats 400000 in
theorem digits_ten (w : World) :
    Calls Tryd.prog 57 #[.int .i64 10] w fun e w' => ∃ v, e = .returned v ∧ w'.ownsRow w.heap.size 5 1 v 2 (ic [49, 48]) ∧ Below w.heap.size w w' := by
  obtain ⟨i0, hi, hz0, hz1, hz2⟩ := Tryd.i5
  go_enter Tryd.func57, Tryd.ntmps57
  go_wp2_with fail
  refine (digits_small 1 w (by omega) (by omega)).mono ?_
  rintro e w1 ⟨v, rfl, hown, hb⟩
  have hs := hb.size
  go_wp2_with (at_builtin; refine wpList_append_own _ rfl _ _ 22 rfl w.heap.size 5 i0 (.int .u8 0) 1 1 Tryd.underlying22 hi hz0 hz1 hz2 rfl (by decide) _ _ _ rfl (hown.alloc _) ⟨w1.heap.size, 0, none⟩ 1 1 [.int .u8 48] rfl rfl ?c1 ?c2 ?c3 ?c4 ?c5 ?_)
  case c1 =>
    intro j u hj
    match j, hj with
    | 0, hj => simp at hj; subst hj; simp [Addr.add]
  case c2 => intro u hu; simp at hu; subst hu; rfl
  case c3 => decide
  case c4 => omega
  case c5 => simp; omega
  intro v' w2 hown' hg hiff
  have hb2 := (hb.alloc hb.size _).grown hg (Nat.le_trans hb.size (by simp)) (by intro q hq; exact (hown.lt q hq).1)
  clear hiff hg hown hb
  go_wp2
  go_ret
  exact ⟨_, rfl, hown', hb2⟩

theorem digits_any (n : Int) (w : World) (h0 : 0 ≤ n) (h1 : n ≤ 10) :
    Calls Tryd.prog 57 #[.int .i64 n] w fun e w' => ∃ v, e = .returned v ∧ w'.ownsRow w.heap.size 5 1 v (dg n).length (ic (dg n)) ∧ Below w.heap.size w w' := by
  by_cases h : n < 10
  · have e : dg n = [48 + n] := by simp [dg, h]
    rw [e]; exact digits_small n w h0 h
  · obtain rfl : n = 10 := by omega
    exact digits_ten w

end Go.Proofs.YtdngolfhfljenaaDoor
