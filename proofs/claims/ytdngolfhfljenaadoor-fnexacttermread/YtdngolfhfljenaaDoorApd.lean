/-
  The contract of impl.TermText, by way of strconv.AppendInt at numbers below a hundred.
-/
import Derived.Test.YtdngolfhfljenaaDoorTrm
import Derived.Deep.AppendSrc
namespace Go.Proofs.YtdngolfhfljenaaDoor
open Go.RowKit

def smS (n : Int) : ByteArray := if n < 10 then ⟨#[48 + n.toNat.toUInt8]⟩ else ⟨#[49, 48]⟩

theorem smS_cells (n : Int) (h0 : 1 ≤ n) (h1 : n ≤ 10) : byteCells (smS n) = ic (dg n) ∧ (smS n).size = (dg n).length := by
  obtain rfl | rfl | rfl | rfl | rfl | rfl | rfl | rfl | rfl | rfl : n = 1 ∨ n = 2 ∨ n = 3 ∨ n = 4 ∨ n = 5 ∨ n = 6 ∨ n = 7 ∨ n = 8 ∨ n = 9 ∨ n = 10 := by omega
  all_goals exact ⟨rfl, rfl⟩

set_option maxRecDepth 100000 in
set_option maxHeartbeats 1000000 in
theorem small_any (n : Int) (w : World) (h0 : 1 ≤ n) (h1 : n ≤ 10) : Calls Tryd.prog 64 #[.int .i64 n] w fun e w' => e = .returned (.string (smS n)) ∧ w' = w := by
  obtain rfl | rfl | rfl | rfl | rfl | rfl | rfl | rfl | rfl | rfl : n = 1 ∨ n = 2 ∨ n = 3 ∨ n = 4 ∨ n = 5 ∨ n = 6 ∨ n = 7 ∨ n = 8 ∨ n = 9 ∨ n = 10 := by omega
  all_goals
    go_enter Tryd.func64, Tryd.ntmps64
    go_wp2
    go_ret
    exact ⟨rfl, rfl⟩

theorem append_str {P : Program} (w : World) (t tx ty e : TypeId) (i : TypeInfo) (ht : P.underlying t = some (.slice e)) (htx : P.underlying tx = some .string) (hi : P.info? e = some i) (hz : i.zero = some (.int .u8 0)) (hs1 : i.size = 1) (hby : i.bytes = 1)
    (Z : Nat) (x0 : Value) (hc : w.cell? ⟨Z, 0, none⟩ = some x0) (s : ByteArray) (hp : 0 < s.size) (hq : s.size ≤ 100) :
    ∃ v' w', (Builtin.append_ #[t, tx] ty #[.slice (some ⟨Z, 0, none⟩) 1 1, .string s]).run P w = .ok v' w' ∧ w'.ownsRow w.heap.size e 1 v' (1 + s.size) ([x0] ++ byteCells s) ∧ w.grownBy w' none := by
  have hold : (Builtin.firstCells i.size 1 (.slice (some ⟨Z, 0, none⟩) 1 1)).run P w.drew = .ok [x0].toArray w.drew := by
    rw [hs1]
    exact run_firstCells_some w.drew 1 1 ⟨Z, 0, none⟩ 1 1 [x0] rfl (by
      intro j u hj
      match j, hj with
      | 0, hj => simp at hj; subst hj; simpa [Addr.add] using hc)
  have hsrc : Src P i.size tx (.string s) s.size (byteCells s) w := by rw [hs1]; exact Src.ofString w htx s
  have hr := run_append_grow_src (P := P) w t tx ty e i (.int .u8 0) ht hi hz (some ⟨Z, 0, none⟩) 1 1 [x0] hold (.string s) s.size (byteCells s) hsrc (by omega) (by omega) (by
    rw [hby]
    exact growslice_fits (need := 1 + s.size) (old := 1) (bytes := 1) (by omega) (by omega))
  have hge := grownCap_ge w (1 + s.size) 1 e
  have hcm : grownCap w (1 + s.size) 1 e ≤ maxLen := grownCap_le_maxLen w (1 + s.size) 1 e (by unfold maxLen; omega)
  have hlen : ([x0] ++ byteCells s).length = (1 + s.size) * 1 := by rw [List.length_append, byteCells_length]; simp
  refine ⟨_, _, hr, ⟨hlen, .inr ⟨w.heap.size, _, _, rfl, Nat.le_refl _, heap_alloc_new w.drew _, hge, hcm, ?_, ?_⟩⟩, ⟨rfl, rfl, rfl, by simp, fun k hk _ => Below.heap_alloc w.drew _ k hk⟩⟩
  · simp only [Array.size_append, List.size_toArray, size_zeroCells, hlen]
    simp [Value.cells]
    omega
  · simp only [Array.toList_append]
    rw [← hlen]
    exact List.take_left

theorem wpList_append_run {P : Program} {w : World} {ops : Array Oper} {rest : List Oper} {o : Oper} {a : Act} {Q : Exit → Act → World → Prop} (hgd : o.guard = none) (s x : Operand) (t tx : TypeId)
    (ho : o.op = .call { callee := .builtin .append, args := #[s, x], argTypes := #[t, tx] }) (v y v' : Value) (w' : World) (hs : a.eval s = v) (hx : a.eval x = y)
    (hrun : (Builtin.append_ #[t, tx] o.type #[v, y]).run P w = .ok v' w') (h : wpList P ops Q rest (a.put o.dst v') w') : wpList P ops Q (o :: rest) a w := by
  refine wpList_plain hgd fun K hK => ?_
  unfold Oper.wp
  simp [execOp, ho, resolve, invoke, builtin, hs, hx, hrun, Result.andThen]
  exact hK _ _ h

set_option maxRecDepth 100000 in
set_option maxHeartbeats 1000000 in
theorem appendUint_any (Z : Nat) (n : Int) (w : World) (h0 : 1 ≤ n) (h1 : n ≤ 10) (hc : w.cell? ⟨Z, 0, none⟩ = some (.int .u8 95)) :
    Calls Tryd.prog 62 #[.slice (some ⟨Z, 0, none⟩) 1 1, .int .u64 n, .int .i64 10] w fun e w' => ∃ v, e = .returned v ∧ w'.ownsRow w.heap.size 5 1 v (95 :: dg n).length (ic (95 :: dg n)) ∧ Below w.heap.size w w' := by
  obtain ⟨i0, hi, hz0, hz1, hz2⟩ := Tryd.i5
  obtain ⟨e1, e2⟩ := smS_cells n h0 h1
  have hd : 0 < (dg n).length ∧ (dg n).length ≤ 2 := by unfold dg; split <;> simp
  obtain ⟨v', w2, hrun, hown, hg⟩ := append_str (P := Tryd.prog) w 22 9 22 5 i0 Tryd.underlying22 Tryd.underlying9 hi hz0 hz1 hz2 Z (.int .u8 95) hc (smS n) (by omega) (by omega)
  have hw : w2.ownsRow w.heap.size 5 1 v' (95 :: dg n).length (ic (95 :: dg n)) := by
    rw [e1, e2] at hown
    simpa [ic, Nat.add_comm] using hown
  have hb := (Below.refl w.heap.size w).grown hg (Nat.le_refl _) (by intro k hk; cases hk)
  have HR := (show Hid ((Builtin.append_ #[22, 9] 22 #[.slice (some ⟨Z, 0, none⟩) 1 1, .string (smS n)]).run Tryd.prog w = .ok v' w2) from hrun)
  have HW : Hid (w2.ownsRow w.heap.size 5 1 v' (95 :: dg n).length (ic (95 :: dg n))) := hw
  clear hrun hown hg hw e1 e2 hd hi hz0 hz1 hz2
  go_enter Tryd.func62, Tryd.ntmps62
  go_wp2_with fail
  refine (small_any n w h0 h1).mono ?_
  rintro e w1 ⟨rfl, rfl⟩
  go_wp2_with (at_builtin; refine wpList_append_run rfl _ _ 22 9 rfl (.slice (some ⟨Z, 0, none⟩) 1 1) (.string (smS n)) v' w2 rfl rfl HR.out ?_)
  go_wp2
  go_ret
  exact ⟨v', rfl, HW.out, hb⟩

end Go.Proofs.YtdngolfhfljenaaDoor
