/-
  Plain lemmas and contracts of functions for the other texts of this seat: VRow, Bh, Fi, Wt0, Wti, Rm.
-/
import Derived.Test.YtphchdjbhbmnbaaGac
import Derived.Deep.RegionLaw
import Derived.Deep.AppendLies
import Derived.Outline
import Derived.Test.YtphchdjbhbmnbaaGab
import Derived.Deep.RegionHeld3
import Derived.Deep.DeepCutAuto
namespace Go.Proofs.Ytphchdjbhbmnbaa
open Go.RowKit

/-- Block b holds the four values V 0 .. V 3. -/
def VRow (w : World) (b : Nat) (V : Nat → Value) : Prop := b < w.heap.size ∧ ∀ j, j < 4 → w.cell? ⟨b, j, none⟩ = some (V j) ∧ w.frozen? ⟨b, j, none⟩ = false

theorem VRow.below {B : Nat} {w w' : World} {b : Nat} {V : Nat → Value} (h : VRow w b V) (hb : Below B w w') (hB : b < B) : VRow w' b V :=
  ⟨Nat.lt_of_lt_of_le h.1 hb.size, fun j hj => by rw [hb.cell (p := ⟨b, j, none⟩) hB, hb.frozen (p := ⟨b, j, none⟩) hB]; exact h.2 j hj⟩

theorem VRow.grown {w w' : World} {b : Nat} {V : Nat → Value} {row : Option Nat} (h : VRow w b V) (hg : w.grownBy w' row) (hr : some b ≠ row) : VRow w' b V :=
  ⟨Nat.lt_of_lt_of_le h.1 hg.size, fun j hj => by rw [hg.cell_far ⟨b, j, none⟩ h.1 hr, hg.frozen_far ⟨b, j, none⟩ h.1 hr]; exact h.2 j hj⟩

theorem VRow.put {w : World} {b : Nat} {V : Nat → Value} (h : VRow w b V) (i : Nat) (v : Value) : VRow (w.setCell ⟨b, i, none⟩ v) b (fun j => if j = i then v else V j) := by
  refine ⟨by simpa using h.1, fun j hj => ⟨?_, by simpa using (h.2 j hj).2⟩⟩
  rw [cell_set (h.2 j hj).1]
  by_cases e : i = j
  · simp [e]
  · simp [e, show ¬ j = i from fun x => e x.symm]

theorem VRow.congr {w : World} {b : Nat} {V U : Nat → Value} (h : VRow w b V) (e : ∀ j, j < 4 → V j = U j) : VRow w b U := ⟨h.1, fun j hj => by rw [← e j hj]; exact h.2 j hj⟩

theorem VRow.new (w : World) (v0 v1 v2 v3 : Value) (t : TypeId) (V : Nat → Value) (e0 : V 0 = v0) (e1 : V 1 = v1) (e2 : V 2 = v2) (e3 : V 3 = v3) : VRow (w.alloc (.cells #[v0, v1, v2, v3] t)) w.heap.size V := by
  refine ⟨by simp, fun j hj => ⟨?_, by simp⟩⟩
  rw [World.cell?_alloc_new]
  match j, hj with
  | 0, _ => rw [e0]; rfl
  | 1, _ => rw [e1]; rfl
  | 2, _ => rw [e2]; rfl
  | 3, _ => rw [e3]; rfl

theorem Out.grown {lo hi : Nat} {a w w' : World} {row : Option Nat} (h : Out lo hi a w) (hg : w.grownBy w' row) (hr : ∀ k, row = some k → a.heap.size ≤ k) : Out lo hi a w' :=
  ⟨hg.os.trans h.os, hg.tape.trans h.tape, hg.output.trans h.output, Nat.le_trans h.size hg.size, fun k hk hk' => (hg.block k (Nat.lt_of_lt_of_le hk h.size) (fun e => by have := hr k e.symm; omega)).trans (h.block k hk hk')⟩

set_option maxHeartbeats 400000 in
theorem vreplaced_any (x t b : Int) (w : World) : Calls Try.prog 136 #[.int .i64 x, .int .i64 t, .int .i64 b] w fun e w' => e = .returned (.int .i64 (sw t b x)) ∧ w' = w := by
  cases h : (x == t)
  · go_enter Try.func136, Try.ntmps136
    go_wp2
    go_ret
    exact ⟨ret_int (by simp at h; simp [sw, h]), rfl⟩
  · go_enter Try.func136, Try.ntmps136
    go_wp2
    go_ret
    exact ⟨ret_int (by simp at h; simp [sw, h]), rfl⟩

set_option maxHeartbeats 400000 in
theorem asnOf_any (a0 a1 a2 a3 : Option Addr) (n0 n1 n2 n3 c0 c1 c2 c3 : Nat) (w : World) :
    Calls Try.prog 137 #[.agg #[.slice a0 n0 c0, .slice a1 n1 c1, .slice a2 n2 c2, .slice a3 n3 c3]] w fun e w' => e = .returned (.agg #[.slice a0 n0 c0, .slice a1 n1 c1, .slice a2 n2 c2, .slice a3 n3 c3]) ∧ Below w.heap.size w w' := by
  go_enter Try.func137, Try.ntmps137
  go_wp2
  exact bodyPost_ret (v := .agg #[.slice a0 n0 c0, .slice a1 n1 c1, .slice a2 n2 c2, .slice a3 n3 c3]) (by simp [results, Try.results137, go_sem]) rfl ⟨rfl, ((Below.refl _ _).alloc (Nat.le_refl _) _).alloc (by simp) _⟩

theorem idxK (b0 b1 b2 b3 : Nat) (c0 c1 c2 c3 : Nat) (l0 l1 l2 l3 : List (Int × Int)) (k : Nat) (hk : k < 4) (w : World) : (Instr.index 88 (.agg #[.slice (some ⟨b0, 0, none⟩) l0.length c0, .slice (some ⟨b1, 0, none⟩) l1.length c1, .slice (some ⟨b2, 0, none⟩) l2.length c2, .slice (some ⟨b3, 0, none⟩) l3.length c3]) (.int .i64 k)).run Try.prog w = .ok (.slice (some ⟨kindB b0 b1 b2 b3 k, 0, none⟩) (kindL l0 l1 l2 l3 k).length (kindB c0 c1 c2 c3 k)) w := by
  match k, hk with
  | 0, _ => exact idx0 _ _ _ _ _ _ _ _ _ _ _ _ w
  | 1, _ => exact idx1 _ _ _ _ _ _ _ _ _ _ _ _ w
  | 2, _ => exact idx2 _ _ _ _ _ _ _ _ _ _ _ _ w
  | 3, _ => exact idx3 _ _ _ _ _ _ _ _ _ _ _ _ w

theorem kindB_lt {b0 b1 b2 b3 X : Nat} (h0 : b0 < X) (h1 : b1 < X) (h2 : b2 < X) (h3 : b3 < X) (k : Int) : kindB b0 b1 b2 b3 k < X := by
  unfold kindB
  split
  · exact h0
  · split
    · exact h1
    · split
      · exact h2
      · exact h3

theorem news2 (w : World) (o : Obj) (x y : Int) (t : TypeId) : ∀ j u, (pc [(x, y)])[j]? = some u → (((w.alloc o).alloc (.cells #[.int .i64 x, .int .i64 y] t)).drew).cell? ((⟨w.heap.size + 1, 0, none⟩ : Addr).add j) = some u := by
  intro j u hj
  match j, hj with
  | 0, hj => simp [pc] at hj; subst hj; simp [addr_add]
  | 1, hj => simp [pc] at hj; subst hj; simp [addr_add]
  | j + 2, hj => simp [pc] at hj

end Go.Proofs.Ytphchdjbhbmnbaa
namespace Go.Proofs.Ytphchdjbhbmnbaa
open Go.RowKit

theorem PRow.news {w : World} {a : Addr} {l : List (Int × Int)} (h : PRow w (some a) l) : ∀ j u, (pc l)[j]? = some u → w.cell? (a.add j) = some u := by
  rcases h with rfl | ⟨b, off, e, hlt, hc⟩
  · intro j u hu; simp [pc] at hu
  · injection e with e; subst e
    intro j u hu
    rw [addr_add]
    obtain ⟨i, hi, ⟨rfl, rfl⟩ | ⟨rfl, rfl⟩⟩ := pc_inv hu
    · exact (hc i hi).1
    · exact (hc i hi).2

theorem PRow.empty {w : World} {l : List (Int × Int)} (h : PRow w none l) : l = [] := by
  rcases h with h | ⟨b, off, e, _⟩
  · exact h
  · cases e

theorem RowIn.ofOwns0 {w : World} {base n : Nat} {v : Value} {l : List (Int × Int)} (h : w.ownsRow base 69 2 v n (pc l)) : ∃ a cap, v = .slice a n cap ∧ RowIn w base w.heap.size a n l ∧ (a = none → cap = 0) := by
  rcases h.2 with ⟨rfl, rfl⟩ | ⟨g, cap, cur, rfl, _⟩
  · exact ⟨none, 0, rfl, ⟨by have := h.1; rw [pc_length] at this; omega, .inl rfl⟩, fun _ => rfl⟩
  · obtain ⟨hl, hb, ho⟩ := Own.ofOwns h
    exact ⟨_, _, rfl, RowIn.ofOwn ho hl hb ho.1, fun e => by cases e⟩

theorem wpList_append_src {ops : Array Oper} {rest : List Oper} {o : Oper} {a : Act} {w : World} {Q : Exit → Act → World → Prop} (hgd : o.guard = none) (s x : Operand)
    (ho : o.op = Op.call { callee := Callee.builtin Builtin.append, args := #[s, x], argTypes := #[26, 26] })
    (base : Nat) (v : Value) (n : Nat) (l : List (Int × Int)) (hs : a.eval s = v) (hown : w.ownsRow base 69 2 v n (pc l))
    (a2 : Option Addr) (m c2 : Nat) (k : List (Int × Int)) (hk : k.length = m) (hx : a.eval x = .slice a2 m c2) (hr : PRow w a2 k) (hc : a2 = none → c2 = 0)
    (hn : n + m ≤ 4194304) (hbase : base ≤ w.heap.size)
    (h : ∀ v' w', w'.ownsRow base 69 2 v' (n + m) (pc (l ++ k)) → w.grownBy w' v.ownBlock → wpList Try.prog ops Q rest (a.put o.dst v') w') : wpList Try.prog ops Q (o :: rest) a w := by
  obtain ⟨i0, hi, hz0, hz1, hz2⟩ := Try.i57
  subst hk
  cases a2 with
  | none =>
    obtain rfl := hr.empty
    rw [hc rfl] at hx
    refine wpList_append_own_none hgd s x 26 ho base 69 i0 2 Try.underlying26 hi v n (pc l) hs hown hx ?_
    refine h v w ?_ ⟨rfl, rfl, rfl, Nat.le_refl _, fun _ _ _ => rfl⟩
    simpa using hown
  | some p =>
    refine wpList_append_own w hgd s x 26 ho base 69 i0 (.agg #[.int .i64 0, .int .i64 0]) 2 16 Try.underlying26 hi hz0 hz1 hz2 rfl (by decide) v n (pc l) hs hown p k.length c2 (pc k) hx (pc_length k) hr.news pc_one (by unfold maxLen; omega) (by omega) hbase ?_
    intro v' w' h1 h2 _
    rw [← pc_append] at h1
    exact h v' w' h1 h2

set_option maxHeartbeats 1000000 in
theorem behind_any (a1 a2 : Option Addr) (n1 n2 c1 c2 : Nat) (l k : List (Int × Int)) (w : World) (e1 : l.length = n1) (e2 : k.length = n2) (hn : n1 + n2 ≤ 4194304) (r1 : PRow w a1 l) (r2 : PRow w a2 k) (z1 : a1 = none → c1 = 0) (z2 : a2 = none → c2 = 0) :
    Calls Try.prog 139 #[.slice a1 n1 c1, .slice a2 n2 c2] w fun e w' => ∃ a c, e = .returned (.slice a (n1 + n2) c) ∧ RowIn w' w.heap.size w'.heap.size a (n1 + n2) (l ++ k) ∧ (a = none → c = 0) ∧ Below w.heap.size w w' := by
  have hnil := World.ownsRow_nil w w.heap.size 69 2
  go_enter Try.func139, Try.ntmps139
  go_wp2_with (at_builtin; refine wpList_append_src rfl _ _ rfl w.heap.size _ 0 [] rfl hnil a1 n1 c1 l e1 rfl r1 z1 (by omega) (Nat.le_refl _) ?_)
  intro v1 w1 h1 g1
  have hb := (Below.refl w.heap.size w).grown g1 (Nat.le_refl _) (by intro k hk; simp [Value.ownBlock] at hk)
  try rw [Nat.zero_add] at h1
  try rw [List.nil_append] at h1
  replace r2 := r2.below hb (Nat.le_refl _)
  clear g1 hnil r1
  go_wp2_with (at_builtin; refine wpList_append_src rfl _ _ rfl w.heap.size v1 n1 l rfl h1 a2 n2 c2 k e2 rfl r2 z2 (by omega) hb.size ?_)
  intro v2 w2 h2 g2
  have hb2 := hb.grown g2 hb.size (by intro q hq; exact (h1.lt q hq).1)
  obtain ⟨a, c, rfl, hr, hz⟩ := RowIn.ofOwns0 h2
  clear g2 h1 h2 hb
  go_wp2
  go_ret
  exact ⟨a, c, rfl, hr, hz, hb2⟩

set_option maxHeartbeats 400000 in
theorem copy_any (a1 : Option Addr) (n1 c1 : Nat) (l : List (Int × Int)) (w : World) (e1 : l.length = n1) (hn : n1 ≤ 4194304) (r1 : PRow w a1 l) (z1 : a1 = none → c1 = 0) :
    Calls Try.prog 144 #[.slice a1 n1 c1] w fun e w' => ∃ a c, e = .returned (.slice a n1 c) ∧ RowIn w' w.heap.size w'.heap.size a n1 l ∧ (a = none → c = 0) ∧ Below w.heap.size w w' := by
  go_enter Try.func144, Try.ntmps144
  go_wp2_with fail
  refine (behind_any none a1 0 n1 0 c1 [] l w rfl e1 (by omega) (.inl rfl) r1 (fun _ => rfl) z1).mono ?_
  rintro e w1 ⟨a, c, rfl, hr, hz, hb⟩
  try rw [Nat.zero_add] at hr
  try rw [List.nil_append] at hr
  try rw [Nat.zero_add]
  go_wp2
  go_ret
  exact ⟨a, c, rfl, hr, hz, hb⟩

end Go.Proofs.Ytphchdjbhbmnbaa
namespace Go.Proofs.Ytphchdjbhbmnbaa
open Go.RowKit

/-- What is known of the four slices when those ahead of kind k are done; the others are still those of I. -/
def FilI (I : Nat → Value) (L : Nat → List (Int × Int)) (lo : Nat) (w : World) (V : Nat → Value) (H : Nat → Nat) (k : Nat) : Prop :=
  lo ≤ H 0 ∧ H k ≤ w.heap.size ∧ (∀ j, j < k → H j ≤ H (j + 1)) ∧ (∀ j, j < k → ∃ a c, V j = .slice a (L j).length c ∧ RowIn w (H j) (H (j + 1)) a (L j).length (L j) ∧ (a = none → c = 0)) ∧ ∀ j, k ≤ j → j < 4 → V j = I j

theorem FilI.lo_le {I : Nat → Value} {L : Nat → List (Int × Int)} {lo : Nat} {w : World} {V : Nat → Value} {H : Nat → Nat} {k : Nat} (h : FilI I L lo w V H k) : ∀ j, j ≤ k → lo ≤ H j := by
  intro j hj
  obtain ⟨h1, _, h3, _, _⟩ := h
  induction j with
  | zero => exact h1
  | succ j ih => exact Nat.le_trans (ih (by omega)) (h3 j (by omega))

theorem FilI.start (I : Nat → Value) (L : Nat → List (Int × Int)) (w : World) : FilI I L w.heap.size w I (fun _ => w.heap.size) 0 :=
  ⟨Nat.le_refl _, Nat.le_refl _, fun j hj => by omega, fun j hj => by omega, fun _ _ _ => rfl⟩

/-- One kind more is done. -/
theorem FilI.step {I : Nat → Value} {L : Nat → List (Int × Int)} {lo b : Nat} {w w' : World} {V : Nat → Value} {H : Nat → Nat} {k : Nat} (h : FilI I L lo w V H k) (hb : b < lo) (ho : Out b (b + 1) w w') {a : Option Addr} {c : Nat}
    (hr : RowIn w' w.heap.size w'.heap.size a (L k).length (L k)) (hz : a = none → c = 0) : FilI I L lo w' (fun j => if j = k then .slice a (L k).length c else V j) (fun j => if j ≤ k then H j else w'.heap.size) (k + 1) := by
  have hl := h.lo_le
  obtain ⟨h1, h2, h3, h4, h5⟩ := h
  have hs := ho.size
  refine ⟨by simpa using h1, ?_, fun j hj => ?_, fun j hj => ?_, fun j hj hj4 => ?_⟩
  · dsimp only; rw [if_neg (by omega)]; exact Nat.le_refl _
  · dsimp only
    by_cases e : j = k
    · subst e; rw [if_pos (Nat.le_refl _), if_neg (by omega)]; omega
    · rw [if_pos (by omega), if_pos (by omega)]; exact h3 j (by omega)
  · dsimp only
    by_cases e : j = k
    · subst e
      refine ⟨a, c, by rw [if_pos rfl], ?_, hz⟩
      rw [if_pos (Nat.le_refl _), if_neg (by omega)]
      exact hr.mono h2 (Nat.le_refl _)
    · obtain ⟨a', c', e1, e2, e3⟩ := h4 j (by omega)
      refine ⟨a', c', by rw [if_neg e, e1], ?_, e3⟩
      rw [if_pos (by omega), if_pos (by omega)]
      exact e2.out ho (.inr (by have := hl j (by omega); omega))
  · dsimp only; rw [if_neg (by omega)]; exact h5 j (by omega) hj4

/-- All four are done. -/
theorem FilI.done {I : Nat → Value} {L : Nat → List (Int × Int)} {lo b : Nat} {w : World} {V : Nat → Value} {H : Nat → Nat} (h : FilI I L lo w V H 4) (hv : VRow w b V) :
    ∃ a0 a1 a2 a3 c0 c1 c2 c3, w.cell? ⟨b, 0, none⟩ = some (.slice a0 (L 0).length c0) ∧ w.cell? ⟨b, 1, none⟩ = some (.slice a1 (L 1).length c1) ∧ w.cell? ⟨b, 2, none⟩ = some (.slice a2 (L 2).length c2) ∧ w.cell? ⟨b, 3, none⟩ = some (.slice a3 (L 3).length c3) ∧ (a0 = none → c0 = 0) ∧ (a1 = none → c1 = 0) ∧ (a2 = none → c2 = 0) ∧ (a3 = none → c3 = 0) ∧
      Four w lo w.heap.size a0 a1 a2 a3 (L 0).length (L 1).length (L 2).length (L 3).length (L 0) (L 1) (L 2) (L 3) := by
  have hlo := h.lo_le
  obtain ⟨h1, h2, h3, h4, h5⟩ := h
  obtain ⟨a0, c0, e0, r0, z0⟩ := h4 0 (by omega)
  obtain ⟨a1, c1, e1, r1, z1⟩ := h4 1 (by omega)
  obtain ⟨a2, c2, e2, r2, z2⟩ := h4 2 (by omega)
  obtain ⟨a3, c3, e3, r3, z3⟩ := h4 3 (by omega)
  have m0 := h3 0 (by omega); have m1 := h3 1 (by omega); have m2 := h3 2 (by omega); have m3 := h3 3 (by omega)
  have q0 := hlo 0 (by omega); have q1 := hlo 1 (by omega); have q2 := hlo 2 (by omega); have q3 := hlo 3 (by omega)
  simp only [Nat.reduceAdd] at r0 r1 r2 r3 m0 m1 m2 m3
  refine ⟨a0, a1, a2, a3, c0, c1, c2, c3, by rw [(hv.2 0 (by omega)).1, e0], by rw [(hv.2 1 (by omega)).1, e1], by rw [(hv.2 2 (by omega)).1, e2], by rw [(hv.2 3 (by omega)).1, e3], z0, z1, z2, z3, ?_⟩
  exact ⟨H 0, H 1, H 1, H 2, H 2, H 3, H 3, H 4, ⟨q0, by omega, r0⟩, ⟨q1, by omega, r1⟩, ⟨q2, by omega, r2⟩, ⟨q3, h2, r3⟩, by omega, by omega, by omega, by omega, by omega, by omega⟩

end Go.Proofs.Ytphchdjbhbmnbaa
namespace Go.Proofs.Ytphchdjbhbmnbaa
open Go.RowKit

/-- A slice's room: none without an address, and enough. -/
def CapZ (a : Option Addr) (n c : Nat) : Prop := (a = none → c = 0) ∧ n ≤ c

theorem RowIn.ofOwnsC {w : World} {base n : Nat} {v : Value} {l : List (Int × Int)} (h : w.ownsRow base 69 2 v n (pc l)) : ∃ a cap, v = .slice a n cap ∧ RowIn w base w.heap.size a n l ∧ CapZ a n cap := by
  have h0 := h
  rcases h.2 with ⟨rfl, rfl⟩ | ⟨g, cap, cur, rfl, _, _, hcap, _⟩
  · exact ⟨none, 0, rfl, ⟨by have := h.1; rw [pc_length] at this; omega, .inl rfl⟩, ⟨fun _ => rfl, Nat.le_refl _⟩⟩
  · obtain ⟨hl, hb, ho⟩ := Own.ofOwns h0
    exact ⟨_, _, rfl, RowIn.ofOwn ho hl hb ho.1, ⟨(fun e => by cases e), hcap⟩⟩

set_option maxHeartbeats 1000000 in
theorem behind_cap (a1 a2 : Option Addr) (n1 n2 c1 c2 : Nat) (l k : List (Int × Int)) (w : World) (e1 : l.length = n1) (e2 : k.length = n2) (hn : n1 + n2 ≤ 4194304) (r1 : PRow w a1 l) (r2 : PRow w a2 k) (z1 : a1 = none → c1 = 0) (z2 : a2 = none → c2 = 0) :
    Calls Try.prog 139 #[.slice a1 n1 c1, .slice a2 n2 c2] w fun e w' => ∃ a c, e = .returned (.slice a (n1 + n2) c) ∧ RowIn w' w.heap.size w'.heap.size a (n1 + n2) (l ++ k) ∧ CapZ a (n1 + n2) c ∧ Below w.heap.size w w' := by
  have hnil := World.ownsRow_nil w w.heap.size 69 2
  go_enter Try.func139, Try.ntmps139
  go_wp2_with (at_builtin; refine wpList_append_src rfl _ _ rfl w.heap.size _ 0 [] rfl hnil a1 n1 c1 l e1 rfl r1 z1 (by omega) (Nat.le_refl _) ?_)
  intro v1 w1 h1 g1
  have hb := (Below.refl w.heap.size w).grown g1 (Nat.le_refl _) (by intro k hk; simp [Value.ownBlock] at hk)
  try rw [Nat.zero_add] at h1
  try rw [List.nil_append] at h1
  replace r2 := r2.below hb (Nat.le_refl _)
  clear g1 hnil r1
  go_wp2_with (at_builtin; refine wpList_append_src rfl _ _ rfl w.heap.size v1 n1 l rfl h1 a2 n2 c2 k e2 rfl r2 z2 (by omega) hb.size ?_)
  intro v2 w2 h2 g2
  have hb2 := hb.grown g2 hb.size (by intro q hq; exact (h1.lt q hq).1)
  obtain ⟨a, c, rfl, hr, hz⟩ := RowIn.ofOwnsC h2
  clear g2 h1 h2 hb
  go_wp2
  go_ret
  exact ⟨a, c, rfl, hr, hz, hb2⟩

set_option maxHeartbeats 400000 in
theorem copy_cap (a1 : Option Addr) (n1 c1 : Nat) (l : List (Int × Int)) (w : World) (e1 : l.length = n1) (hn : n1 ≤ 4194304) (r1 : PRow w a1 l) (z1 : a1 = none → c1 = 0) :
    Calls Try.prog 144 #[.slice a1 n1 c1] w fun e w' => ∃ a c, e = .returned (.slice a n1 c) ∧ RowIn w' w.heap.size w'.heap.size a n1 l ∧ CapZ a n1 c ∧ Below w.heap.size w w' := by
  go_enter Try.func144, Try.ntmps144
  go_wp2_with fail
  refine (behind_cap none a1 0 n1 0 c1 [] l w rfl e1 (by omega) (.inl rfl) r1 (fun _ => rfl) z1).mono ?_
  rintro e w1 ⟨a, c, rfl, hr, hz, hb⟩
  try rw [Nat.zero_add] at hr
  try rw [List.nil_append] at hr
  try rw [Nat.zero_add] at hz
  try rw [Nat.zero_add]
  go_wp2
  go_ret
  exact ⟨a, c, rfl, hr, hz, hb⟩

theorem PRow.take {w : World} {a : Option Addr} {l : List (Int × Int)} (h : PRow w a l) (i : Nat) : PRow w a (l.take i) := by
  rcases h with rfl | ⟨b, off, rfl, hlt, hc⟩
  · exact .inl (by simp)
  · refine .inr ⟨b, off, rfl, hlt, fun j hj => ?_⟩
    rw [List.length_take] at hj
    have := hc j (by omega)
    rw [List.getD_eq_getElem?_getD, List.getElem?_take, if_pos (by omega), ← List.getD_eq_getElem?_getD]
    exact this

theorem PRow.drop {w : World} {b off : Nat} {l : List (Int × Int)} (h : PRow w (some ⟨b, off, none⟩) l) (i : Nat) : PRow w (some ⟨b, off + i * 2, none⟩) (l.drop i) := by
  rcases h with rfl | ⟨b', off', e, hlt, hc⟩
  · exact .inl (by simp)
  · injection e with e; injection e with e1 e2; subst e1; subst e2
    refine .inr ⟨b, off + i * 2, rfl, hlt, fun j hj => ?_⟩
    rw [List.length_drop] at hj
    have := hc (i + j) (by omega)
    rw [List.getD_eq_getElem?_getD, List.getElem?_drop, ← List.getD_eq_getElem?_getD]
    rw [show off + i * 2 + j * 2 = off + (i + j) * 2 by omega]
    exact this

/-- l[:i] -/
theorem cut_hi (b off n c i : Nat) (hi : i ≤ c) (w : World) : (Instr.slice 26 (.slice (some ⟨b, off, none⟩) n c) none (some (.int .i64 i)) none).run Try.prog w = .ok (.slice (some ⟨b, off, none⟩) i c) w := by
  have h1 : (i : Int) ≤ c := by omega
  have h0 : (0 : Int) ≤ i := by omega
  rw [run_slice_h (P := Try.prog) (w := w) 26 (some ⟨b, off, none⟩) n c (by kernel_rfl) .i64 i h0 h1]
  simp [sliced, go_sem]

/-- The address of l[k:]. -/
def dropA (b off c k : Nat) : Addr := if c = k then ⟨b, off, none⟩ else ⟨b, off + k * 2, none⟩
theorem cut_lo (b off n c k : Nat) (hk : k ≤ n) (w : World) : (Instr.slice 26 (.slice (some ⟨b, off, none⟩) n c) (some (.int .i64 k)) none none).run Try.prog w = .ok (.slice (some (dropA b off c k)) (n - k) (c - k)) w := by
  have h1 : (k : Int) ≤ n := by omega
  have h0 : (0 : Int) ≤ k := by omega
  rw [run_slice_l (P := Try.prog) (w := w) 26 (some ⟨b, off, none⟩) n c (by kernel_rfl) .i64 k h0 h1]
  unfold dropA
  by_cases e : c = k
  · simp [sliced, go_sem, e]
  · simp [sliced, go_sem, addr_add, e]

theorem drop_row {w : World} {b off c : Nat} {l : List (Int × Int)} (h : PRow w (some ⟨b, off, none⟩) l) (k : Nat) (hc : l.length ≤ c) : PRow w (some (dropA b off c k)) (l.drop k) := by
  unfold dropA
  by_cases e : c = k
  · exact .inl (by simp; omega)
  · rw [if_neg e]; exact h.drop k

/-- What is known of the four slices when those ahead of kind k are done; room, too. -/
def FilC (L : Nat → List (Int × Int)) (lo : Nat) (w : World) (V : Nat → Value) (H : Nat → Nat) (k : Nat) : Prop :=
  lo ≤ H 0 ∧ H k ≤ w.heap.size ∧ (∀ j, j < k → H j ≤ H (j + 1)) ∧ (∀ j, j < k → ∃ a c, V j = .slice a (L j).length c ∧ RowIn w (H j) (H (j + 1)) a (L j).length (L j) ∧ CapZ a (L j).length c)

theorem FilC.lo_le {L : Nat → List (Int × Int)} {lo : Nat} {w : World} {V : Nat → Value} {H : Nat → Nat} {k : Nat} (h : FilC L lo w V H k) : ∀ j, j ≤ k → lo ≤ H j := by
  intro j hj
  obtain ⟨h1, _, h3, _⟩ := h
  induction j with
  | zero => exact h1
  | succ j ih => exact Nat.le_trans (ih (by omega)) (h3 j (by omega))

theorem FilC.start (L : Nat → List (Int × Int)) (V : Nat → Value) (w : World) : FilC L w.heap.size w V (fun _ => w.heap.size) 0 :=
  ⟨Nat.le_refl _, Nat.le_refl _, fun j hj => by omega, fun j hj => by omega⟩

/-- One kind more is done. -/
theorem FilC.step {L : Nat → List (Int × Int)} {lo b : Nat} {w w' : World} {V : Nat → Value} {H : Nat → Nat} {k : Nat} (h : FilC L lo w V H k) (hb : b < lo) (ho : Out b (b + 1) w w') {a : Option Addr} {c : Nat}
    (hr : RowIn w' w.heap.size w'.heap.size a (L k).length (L k)) (hz : CapZ a (L k).length c) : FilC L lo w' (fun j => if j = k then .slice a (L k).length c else V j) (fun j => if j ≤ k then H j else w'.heap.size) (k + 1) := by
  have hl := h.lo_le
  obtain ⟨h1, h2, h3, h4⟩ := h
  have hs := ho.size
  refine ⟨by simpa using h1, ?_, fun j hj => ?_, fun j hj => ?_⟩
  · dsimp only; rw [if_neg (by omega)]; exact Nat.le_refl _
  · dsimp only
    by_cases e : j = k
    · subst e; rw [if_pos (Nat.le_refl _), if_neg (by omega)]; omega
    · rw [if_pos (by omega), if_pos (by omega)]; exact h3 j (by omega)
  · dsimp only
    by_cases e : j = k
    · subst e
      refine ⟨a, c, by rw [if_pos rfl], ?_, hz⟩
      rw [if_pos (Nat.le_refl _), if_neg (by omega)]
      exact hr.mono h2 (Nat.le_refl _)
    · obtain ⟨a', c', e1, e2, e3⟩ := h4 j (by omega)
      refine ⟨a', c', by rw [if_neg e, e1], ?_, e3⟩
      rw [if_pos (by omega), if_pos (by omega)]
      exact e2.out ho (.inr (by have := hl j (by omega); omega))

/-- All four are done. -/
theorem FilC.done {L : Nat → List (Int × Int)} {lo b : Nat} {w : World} {V : Nat → Value} {H : Nat → Nat} (h : FilC L lo w V H 4) (hv : VRow w b V) :
    ∃ a0 a1 a2 a3 c0 c1 c2 c3, w.cell? ⟨b, 0, none⟩ = some (.slice a0 (L 0).length c0) ∧ w.cell? ⟨b, 1, none⟩ = some (.slice a1 (L 1).length c1) ∧ w.cell? ⟨b, 2, none⟩ = some (.slice a2 (L 2).length c2) ∧ w.cell? ⟨b, 3, none⟩ = some (.slice a3 (L 3).length c3) ∧ CapZ a0 (L 0).length c0 ∧ CapZ a1 (L 1).length c1 ∧ CapZ a2 (L 2).length c2 ∧ CapZ a3 (L 3).length c3 ∧
      Four w lo w.heap.size a0 a1 a2 a3 (L 0).length (L 1).length (L 2).length (L 3).length (L 0) (L 1) (L 2) (L 3) := by
  have hlo := h.lo_le
  obtain ⟨h1, h2, h3, h4⟩ := h
  obtain ⟨a0, c0, e0, r0, z0⟩ := h4 0 (by omega)
  obtain ⟨a1, c1, e1, r1, z1⟩ := h4 1 (by omega)
  obtain ⟨a2, c2, e2, r2, z2⟩ := h4 2 (by omega)
  obtain ⟨a3, c3, e3, r3, z3⟩ := h4 3 (by omega)
  have m0 := h3 0 (by omega); have m1 := h3 1 (by omega); have m2 := h3 2 (by omega); have m3 := h3 3 (by omega)
  have q0 := hlo 0 (by omega); have q1 := hlo 1 (by omega); have q2 := hlo 2 (by omega); have q3 := hlo 3 (by omega)
  simp only [Nat.reduceAdd] at r0 r1 r2 r3 m0 m1 m2 m3
  refine ⟨a0, a1, a2, a3, c0, c1, c2, c3, by rw [(hv.2 0 (by omega)).1, e0], by rw [(hv.2 1 (by omega)).1, e1], by rw [(hv.2 2 (by omega)).1, e2], by rw [(hv.2 3 (by omega)).1, e3], z0, z1, z2, z3, ?_⟩
  exact ⟨H 0, H 1, H 1, H 2, H 2, H 3, H 3, H 4, ⟨q0, by omega, r0⟩, ⟨q1, by omega, r1⟩, ⟨q2, by omega, r2⟩, ⟨q3, h2, r3⟩, by omega, by omega, by omega, by omega, by omega, by omega⟩

end Go.Proofs.Ytphchdjbhbmnbaa
namespace Go.Proofs.Ytphchdjbhbmnbaa
open Go.RowKit
set_option linter.unusedVariables false

def wthL (l : List (Int × Int)) (kind : Int) (j : Nat) (i : Int) : List (Int × Int) := if kind = j then l.take i.toNat ++ l.drop (i.toNat + 1) else l
def wthB (l0 l1 l2 l3 : List (Int × Int)) (kind i : Int) : Bool := asnB l0 l1 l2 l3 && (decide (0 ≤ kind ∧ kind ≤ 3) && decide (0 ≤ i ∧ i < (kindL l0 l1 l2 l3 kind).length))
def kindO (a0 a1 a2 a3 : Option Addr) (k : Int) : Option Addr := if k = 0 then a0 else if k = 1 then a1 else if k = 2 then a2 else a3

theorem kind_prow {w : World} {a0 a1 a2 a3 : Option Addr} {c0 c1 c2 c3 : Nat} {l0 l1 l2 l3 : List (Int × Int)} (r0 : PRow w a0 l0) (r1 : PRow w a1 l1) (r2 : PRow w a2 l2) (r3 : PRow w a3 l3) (n0 : l0.length ≤ 1048576) (n1 : l1.length ≤ 1048576) (n2 : l2.length ≤ 1048576) (n3 : l3.length ≤ 1048576) (z0 : CapZ a0 l0.length c0) (z1 : CapZ a1 l1.length c1) (z2 : CapZ a2 l2.length c2) (z3 : CapZ a3 l3.length c3) (k : Int) :
    PRow w (kindO a0 a1 a2 a3 k) (kindL l0 l1 l2 l3 k) ∧ (kindL l0 l1 l2 l3 k).length ≤ 1048576 ∧ CapZ (kindO a0 a1 a2 a3 k) (kindL l0 l1 l2 l3 k).length (kindB c0 c1 c2 c3 k) := by
  unfold kindO kindL kindB
  split
  · exact ⟨r0, n0, z0⟩
  · split
    · exact ⟨r1, n1, z1⟩
    · split
      · exact ⟨r2, n2, z2⟩
      · exact ⟨r3, n3, z3⟩

theorem wth_at (l0 l1 l2 l3 : List (Int × Int)) (kind i : Int) (q : Nat) (hq : q < 4) : (if kind = q then (kindL l0 l1 l2 l3 q).take i.toNat ++ (kindL l0 l1 l2 l3 q).drop (i.toNat + 1) else kindL l0 l1 l2 l3 q) = wthL (kindL l0 l1 l2 l3 q) kind q i := rfl

theorem PRow.out2 {lo hi : Nat} {w w' : World} {a : Option Addr} {l : List (Int × Int)} (h : PRow w a l) (ho : Out lo hi w w') (hr : ∀ p, a = some p → l ≠ [] → p.block < lo) : PRow w' a l := by
  by_cases e : l = []
  · exact .inl e
  · rcases h with h | ⟨b, off, rfl, hlt, hc⟩
    · exact .inl h
    · have hb := hr _ rfl e
      have e : ∀ o, w'.cell? ⟨b, o, none⟩ = w.cell? ⟨b, o, none⟩ := fun o => World.cell?_of_block (w := w) (ho.block b hlt (.inl hb))
      refine .inr ⟨b, off, rfl, Nat.lt_of_lt_of_le hlt ho.size, fun i hi => ?_⟩
      rw [e, e]; exact hc i hi
theorem VRow.out3 {lo hi : Nat} {w w' : World} {b : Nat} {V : Nat → Value} (h : VRow w b V) (ho : Out lo hi w w') (hr : b < lo ∨ hi ≤ b) : VRow w' b V :=
  ⟨Nat.lt_of_lt_of_le h.1 ho.size, fun j hj => by
    rw [World.cell?_of_block (w := w) (ho.block b h.1 hr), World.frozen?_of_block (w := w) (ho.block b h.1 hr)]; exact h.2 j hj⟩
theorem PRow.lt {w : World} {a : Option Addr} {l : List (Int × Int)} (h : PRow w a l) : ∀ p, a = some p → l ≠ [] → p.block < w.heap.size := by
  intro p hp hl
  rcases h with h | ⟨b, off, rfl, hlt, _⟩
  · exact absurd h hl
  · cases hp; exact hlt

set_option maxRecDepth 20000 in
set_option maxHeartbeats 8000000 in
theorem iWithout_any (a0 a1 a2 a3 : Option Addr) (c0 c1 c2 c3 : Nat) (l0 l1 l2 l3 : List (Int × Int)) (kind i : Int) (w : World) (n0 : l0.length ≤ 1048576) (n1 : l1.length ≤ 1048576) (n2 : l2.length ≤ 1048576) (n3 : l3.length ≤ 1048576) (r0 : PRow w a0 l0) (r1 : PRow w a1 l1) (r2 : PRow w a2 l2) (r3 : PRow w a3 l3) (z0 : CapZ a0 l0.length c0) (z1 : CapZ a1 l1.length c1) (z2 : CapZ a2 l2.length c2) (z3 : CapZ a3 l3.length c3) :
    Calls Try.prog 58 #[.agg #[.slice a0 l0.length c0, .slice a1 l1.length c1, .slice a2 l2.length c2, .slice a3 l3.length c3], .int .i64 kind, .int .i64 i] w fun e w' => ∃ p0 p1 p2 p3 q0 q1 q2 q3, e = .returned (.tuple #[.agg #[.slice p0 (okL (wthB l0 l1 l2 l3 kind i) (wthL l0 kind 0 i)).length q0, .slice p1 (okL (wthB l0 l1 l2 l3 kind i) (wthL l1 kind 1 i)).length q1, .slice p2 (okL (wthB l0 l1 l2 l3 kind i) (wthL l2 kind 2 i)).length q2, .slice p3 (okL (wthB l0 l1 l2 l3 kind i) (wthL l3 kind 3 i)).length q3], .bool (wthB l0 l1 l2 l3 kind i)]) ∧ Four w' w.heap.size w'.heap.size p0 p1 p2 p3 (okL (wthB l0 l1 l2 l3 kind i) (wthL l0 kind 0 i)).length (okL (wthB l0 l1 l2 l3 kind i) (wthL l1 kind 1 i)).length (okL (wthB l0 l1 l2 l3 kind i) (wthL l2 kind 2 i)).length (okL (wthB l0 l1 l2 l3 kind i) (wthL l3 kind 3 i)).length (okL (wthB l0 l1 l2 l3 kind i) (wthL l0 kind 0 i)) (okL (wthB l0 l1 l2 l3 kind i) (wthL l1 kind 1 i)) (okL (wthB l0 l1 l2 l3 kind i) (wthL l2 kind 2 i)) (okL (wthB l0 l1 l2 l3 kind i) (wthL l3 kind 3 i)) ∧ (CapZ p0 (okL (wthB l0 l1 l2 l3 kind i) (wthL l0 kind 0 i)).length q0 ∧ CapZ p1 (okL (wthB l0 l1 l2 l3 kind i) (wthL l1 kind 1 i)).length q1 ∧ CapZ p2 (okL (wthB l0 l1 l2 l3 kind i) (wthL l2 kind 2 i)).length q2 ∧ CapZ p3 (okL (wthB l0 l1 l2 l3 kind i) (wthL l3 kind 3 i)).length q3) ∧ Below w.heap.size w w' := by
  have A0 := (Box.new w (.slice a0 l0.length c0) (.slice a1 l1.length c1) (.slice a2 l2.length c2) (.slice a3 l3.length c3) 28).alloc (.cells #[.slice none 0 0, .slice none 0 0, .slice none 0 0, .slice none 0 0] 28)
  have R0 := Box.new (w.alloc (.cells #[.slice a0 l0.length c0, .slice a1 l1.length c1, .slice a2 l2.length c2, .slice a3 l3.length c3] 28)) (.slice none 0 0) (.slice none 0 0) (.slice none 0 0) (.slice none 0 0) 28
  rw [World.size_alloc] at R0
  have L0 : Below w.heap.size w ((w.alloc (.cells #[.slice a0 l0.length c0, .slice a1 l1.length c1, .slice a2 l2.length c2, .slice a3 l3.length c3] 28)).alloc (.cells #[.slice none 0 0, .slice none 0 0, .slice none 0 0, .slice none 0 0] 28)) := ((Below.refl _ _).alloc (Nat.le_refl _) _).alloc (by simp) _
  have KR := kind_prow r0 r1 r2 r3 n0 n1 n2 n3 z0 z1 z2 z3
  have HK : Hid (∀ k : Int, PRow w (kindO a0 a1 a2 a3 k) (kindL l0 l1 l2 l3 k) ∧ (kindL l0 l1 l2 l3 k).length ≤ 1048576 ∧ CapZ (kindO a0 a1 a2 a3 k) (kindL l0 l1 l2 l3 k).length (kindB c0 c1 c2 c3 k)) := KR
  clear KR
  replace r0 := r0.below L0 (Nat.le_refl _); replace r1 := r1.below L0 (Nat.le_refl _); replace r2 := r2.below L0 (Nat.le_refl _); replace r3 := r3.below L0 (Nat.le_refl _)
  go_enter Try.func58, Try.ntmps58
  go_wp2_with fail
  refine (iAsnOk_any _ _ _ _ _ _ _ _ _ _ _ _ _ n0 n1 n2 n3 (by exact r0) (by exact r1) (by exact r2) (by exact r3)).mono ?_
  rintro e w1 ⟨rfl, hb⟩
  replace A0 := A0.below hb A0.lt; replace R0 := R0.below hb R0.lt; replace L0 := L0.trans (hb.mono L0.size)
  clear hb r0 r1 r2 r3
  have A0c0 := A0.c0; have A0c1 := A0.c1; have A0c2 := A0.c2; have A0c3 := A0.c3
  cases h1 : asnB l0 l1 l2 l3
  · have HE : Hid ((wthB l0 l1 l2 l3 kind i) = false) := by show (wthB l0 l1 l2 l3 kind i) = false; unfold wthB; rw [h1]; rfl
    obtain ⟨F, FO⟩ := R0.fill (.slice none 0 0) (.slice none 0 0) (.slice none 0 0) (.slice none 0 0)
    have j0' := R0.c0; have j1' := R0.c1; have j2' := R0.c2; have j3' := R0.c3
    have g0 := R0.f0; have g1 := R0.f1; have g2 := R0.f2; have g3 := R0.f3
    go_wp2
    have i0 := F.c0; have i1 := F.c1; have i2 := F.c2; have i3 := F.c3
    refine bodyPost_ret (v := .tuple #[.agg #[.slice none 0 0, .slice none 0 0, .slice none 0 0, .slice none 0 0], .bool false]) ?_ rfl ⟨none, none, none, none, 0, 0, 0, 0, by rw [HE.out]; rfl, ?_, ?_, ?_⟩
    · simp [results, Try.results58, go_sem, i0, i1, i2, i3]
    · rw [HE.out]; exact (Four.none _ w.heap.size).mono (Nat.le_refl _) (by have := FO.size; have := L0.size; omega)
    · rw [HE.out]; exact ⟨⟨fun _ => rfl, Nat.le_refl _⟩, ⟨fun _ => rfl, Nat.le_refl _⟩, ⟨fun _ => rfl, Nat.le_refl _⟩, ⟨fun _ => rfl, Nat.le_refl _⟩⟩
    · exact L0.trans (FO.below (by omega) L0.size)
  have H1 : Hid (asnB l0 l1 l2 l3 = true) := h1
  clear h1
  go_wp2_with fail
  refine (kindOk_any _ _).mono ?_
  rintro e w2 ⟨rfl, rfl⟩
  cases hk : kok kind
  · have HE : Hid ((wthB l0 l1 l2 l3 kind i) = false) := by show (wthB l0 l1 l2 l3 kind i) = false; unfold wthB; rw [H1.out, decide_eq_false (by simp [kok] at hk; omega)]; rfl
    obtain ⟨F, FO⟩ := R0.fill (.slice none 0 0) (.slice none 0 0) (.slice none 0 0) (.slice none 0 0)
    have j0' := R0.c0; have j1' := R0.c1; have j2' := R0.c2; have j3' := R0.c3
    have g0 := R0.f0; have g1 := R0.f1; have g2 := R0.f2; have g3 := R0.f3
    go_wp2
    have i0 := F.c0; have i1 := F.c1; have i2 := F.c2; have i3 := F.c3
    refine bodyPost_ret (v := .tuple #[.agg #[.slice none 0 0, .slice none 0 0, .slice none 0 0, .slice none 0 0], .bool false]) ?_ rfl ⟨none, none, none, none, 0, 0, 0, 0, by rw [HE.out]; rfl, ?_, ?_, ?_⟩
    · simp [results, Try.results58, go_sem, i0, i1, i2, i3]
    · rw [HE.out]; exact (Four.none _ w.heap.size).mono (Nat.le_refl _) (by have := FO.size; have := L0.size; omega)
    · rw [HE.out]; exact ⟨⟨fun _ => rfl, Nat.le_refl _⟩, ⟨fun _ => rfl, Nat.le_refl _⟩, ⟨fun _ => rfl, Nat.le_refl _⟩, ⟨fun _ => rfl, Nat.le_refl _⟩⟩
    · exact L0.trans (FO.below (by omega) L0.size)
  obtain ⟨kd0, kd3⟩ : 0 ≤ kind ∧ kind < 4 := by simpa [kok] using hk
  clear hk
  obtain ⟨kk, rfl⟩ := Int.eq_ofNat_of_zero_le kd0
  have kk4 : kk < 4 := by omega
  have zR := R0.lt
  go_wp2_with fail
  clear A0c0 A0c1 A0c2 A0c3
  refine (listsOf_any _ _ _ _ _ ⟨_, _, _, rfl⟩ ⟨_, _, _, rfl⟩ ⟨_, _, _, rfl⟩ ⟨_, _, _, rfl⟩).mono ?_
  rintro e wx ⟨rfl, hb⟩
  replace A0 := A0.below hb A0.lt; replace R0 := R0.below hb R0.lt; replace L0 := L0.trans (hb.mono L0.size)
  have zx := hb.size
  clear hb
  have V1 := VRow.new wx (.slice a0 l0.length c0) (.slice a1 l1.length c1) (.slice a2 l2.length c2) (.slice a3 l3.length c3) 88 (fun j => .slice (kindO a0 a1 a2 a3 j) (kindL l0 l1 l2 l3 j).length (kindB c0 c1 c2 c3 j)) rfl rfl rfl rfl
  have al : Below wx.heap.size wx (wx.alloc (.cells #[.slice a0 l0.length c0, .slice a1 l1.length c1, .slice a2 l2.length c2, .slice a3 l3.length c3] 88)) := (Below.refl _ _).alloc (Nat.le_refl _) _
  replace A0 := A0.below al A0.lt; replace R0 := R0.below al R0.lt; replace L0 := L0.trans (al.mono L0.size)
  clear al
  have za : (wx.alloc (.cells #[.slice a0 l0.length c0, .slice a1 l1.length c1, .slice a2 l2.length c2, .slice a3 l3.length c3] 88)).heap.size = wx.heap.size + 1 := by simp
  have hcK := (V1.2 kk kk4).1
  have hk4 : (kk : Int) < 4 := by omega
  obtain ⟨rK, nK, zK⟩ := HK.out kk
  by_cases hi0 : i < 0
  · have HE : Hid ((wthB l0 l1 l2 l3 (kk : Int) i) = false) := by show (wthB l0 l1 l2 l3 (kk : Int) i) = false; unfold wthB; rw [decide_eq_false (p := 0 ≤ i ∧ _) (by omega)]; simp
    obtain ⟨F, FO⟩ := R0.fill (.slice none 0 0) (.slice none 0 0) (.slice none 0 0) (.slice none 0 0)
    have j0' := R0.c0; have j1' := R0.c1; have j2' := R0.c2; have j3' := R0.c3
    have g0 := R0.f0; have g1 := R0.f1; have g2 := R0.f2; have g3 := R0.f3
    go_wp2
    have i0 := F.c0; have i1 := F.c1; have i2 := F.c2; have i3 := F.c3
    refine bodyPost_ret (v := .tuple #[.agg #[.slice none 0 0, .slice none 0 0, .slice none 0 0, .slice none 0 0], .bool false]) ?_ rfl ⟨none, none, none, none, 0, 0, 0, 0, by rw [HE.out]; rfl, ?_, ?_, ?_⟩
    · simp [results, Try.results58, go_sem, i0, i1, i2, i3]
    · rw [HE.out]; exact (Four.none _ w.heap.size).mono (Nat.le_refl _) (by have := FO.size; have := L0.size; omega)
    · rw [HE.out]; exact ⟨⟨fun _ => rfl, Nat.le_refl _⟩, ⟨fun _ => rfl, Nat.le_refl _⟩, ⟨fun _ => rfl, Nat.le_refl _⟩, ⟨fun _ => rfl, Nat.le_refl _⟩⟩
    · exact L0.trans (FO.below (by omega) L0.size)
  by_cases hi1 : ((kindL l0 l1 l2 l3 kk).length : Int) ≤ i
  · have HE : Hid ((wthB l0 l1 l2 l3 (kk : Int) i) = false) := by show (wthB l0 l1 l2 l3 (kk : Int) i) = false; unfold wthB; rw [decide_eq_false (p := 0 ≤ i ∧ _) (by omega)]; simp
    obtain ⟨F, FO⟩ := R0.fill (.slice none 0 0) (.slice none 0 0) (.slice none 0 0) (.slice none 0 0)
    have j0' := R0.c0; have j1' := R0.c1; have j2' := R0.c2; have j3' := R0.c3
    have g0 := R0.f0; have g1 := R0.f1; have g2 := R0.f2; have g3 := R0.f3
    go_wp2
    have i0 := F.c0; have i1 := F.c1; have i2 := F.c2; have i3 := F.c3
    refine bodyPost_ret (v := .tuple #[.agg #[.slice none 0 0, .slice none 0 0, .slice none 0 0, .slice none 0 0], .bool false]) ?_ rfl ⟨none, none, none, none, 0, 0, 0, 0, by rw [HE.out]; rfl, ?_, ?_, ?_⟩
    · simp [results, Try.results58, go_sem, i0, i1, i2, i3]
    · rw [HE.out]; exact (Four.none _ w.heap.size).mono (Nat.le_refl _) (by have := FO.size; have := L0.size; omega)
    · rw [HE.out]; exact ⟨⟨fun _ => rfl, Nat.le_refl _⟩, ⟨fun _ => rfl, Nat.le_refl _⟩, ⟨fun _ => rfl, Nat.le_refl _⟩, ⟨fun _ => rfl, Nat.le_refl _⟩⟩
    · exact L0.trans (FO.below (by omega) L0.size)
  obtain ⟨i, rfl⟩ := Int.eq_ofNat_of_zero_le (show 0 ≤ i by omega)
  have HE : Hid ((wthB l0 l1 l2 l3 (kk : Int) (i : Int)) = true) := by show (wthB l0 l1 l2 l3 (kk : Int) (i : Int)) = true; unfold wthB; rw [H1.out, decide_eq_true (by omega), decide_eq_true (by omega)]; rfl
  have hil : i < (kindL l0 l1 l2 l3 kk).length := by omega
  obtain ⟨bK, oK, eK⟩ : ∃ b off, (kindO a0 a1 a2 a3 kk) = some ⟨b, off, none⟩ := by
    rcases rK with h | ⟨b, off, h, _⟩
    · rw [h] at hil; simp at hil
    · exact ⟨b, off, h⟩
  have HX : Hid (∀ w : World, (Instr.slice 26 (.slice (kindO a0 a1 a2 a3 kk) (kindL l0 l1 l2 l3 kk).length (kindB c0 c1 c2 c3 kk)) none (some (.int .i64 (i : Int))) none).run Try.prog w = .ok (.slice (some ⟨bK, oK, none⟩) i (kindB c0 c1 c2 c3 kk)) w) := fun w => by rw [eK]; exact cut_hi bK oK _ _ i (by have := zK.2; omega) w
  have HY : Hid (∀ w : World, (Instr.slice 26 (.slice (kindO a0 a1 a2 a3 kk) (kindL l0 l1 l2 l3 kk).length (kindB c0 c1 c2 c3 kk)) (some (.int .i64 ((i : Int) + 1))) none none).run Try.prog w = .ok (.slice (some (dropA bK oK (kindB c0 c1 c2 c3 kk) (i + 1))) ((kindL l0 l1 l2 l3 kk).length - (i + 1)) ((kindB c0 c1 c2 c3 kk) - (i + 1))) w) := fun w => by rw [eK]; exact cut_lo bK oK _ _ (i + 1) (by omega) w
  have hbn : decide ((kindL l0 l1 l2 l3 kk).length ≤ i) = false := by simp; omega
  have hbz : decide ((i : Int) < 0) = false := by simp
  have hbm : decide ((((kindL l0 l1 l2 l3 kk).length : Nat) : Int) ≤ (i : Int)) = false := by simp; omega
  go_wp2
  have V3 := V1.below ((Below.refl _ _).alloc (Nat.le_refl _) (.cells #[.slice none 0 0, .slice none 0 0, .slice none 0 0, .slice none 0 0] 88)) V1.1
  have O3 := VRow.new (wx.alloc (.cells #[.slice a0 l0.length c0, .slice a1 l1.length c1, .slice a2 l2.length c2, .slice a3 l3.length c3] 88)) (.slice none 0 0) (.slice none 0 0) (.slice none 0 0) (.slice none 0 0) 88 (fun _ => .slice none 0 0) rfl rfl rfl rfl
  rw [za] at O3
  have al : Below (wx.alloc (.cells #[.slice a0 l0.length c0, .slice a1 l1.length c1, .slice a2 l2.length c2, .slice a3 l3.length c3] 88)).heap.size (wx.alloc (.cells #[.slice a0 l0.length c0, .slice a1 l1.length c1, .slice a2 l2.length c2, .slice a3 l3.length c3] 88)) ((wx.alloc (.cells #[.slice a0 l0.length c0, .slice a1 l1.length c1, .slice a2 l2.length c2, .slice a3 l3.length c3] 88)).alloc (.cells #[.slice none 0 0, .slice none 0 0, .slice none 0 0, .slice none 0 0] 88)) := (Below.refl _ _).alloc (Nat.le_refl _) _
  replace A0 := A0.below al A0.lt; replace R0 := R0.below al R0.lt; replace L0 := L0.trans (al.mono L0.size)
  clear al V1 hcK
  have zb : ((wx.alloc (.cells #[.slice a0 l0.length c0, .slice a1 l1.length c1, .slice a2 l2.length c2, .slice a3 l3.length c3] 88)).alloc (.cells #[.slice none 0 0, .slice none 0 0, .slice none 0 0, .slice none 0 0] 88)).heap.size = wx.heap.size + 1 + 1 := by simp
  generalize (wx.alloc (.cells #[.slice a0 l0.length c0, .slice a1 l1.length c1, .slice a2 l2.length c2, .slice a3 l3.length c3] 88)).alloc (.cells #[.slice none 0 0, .slice none 0 0, .slice none 0 0, .slice none 0 0] 88) = w3 at *
  have HK3 : Hid (∀ k : Int, PRow w3 (kindO a0 a1 a2 a3 k) (kindL l0 l1 l2 l3 k) ∧ (∀ p, (kindO a0 a1 a2 a3 k) = some p → (kindL l0 l1 l2 l3 k) ≠ [] → p.block < w.heap.size)) := fun k => ⟨(HK.out k).1.below L0 (Nat.le_refl _), (HK.out k).1.lt⟩
  have zw := L0.size
  clear za A0 rK
  generalize wx.heap.size = O at *
  go_loopw [33] (fun x wr => ∃ q : Nat, q ≤ 4 ∧ x = .int .i64 q ∧ ∃ V H, VRow wr O (fun j => .slice (kindO a0 a1 a2 a3 j) (kindL l0 l1 l2 l3 j).length (kindB c0 c1 c2 c3 j)) ∧ VRow wr (O + 1) V ∧ FilC (fun j => wthL (kindL l0 l1 l2 l3 (j : Int)) (kk : Int) j (i : Int)) w3.heap.size wr V H q ∧ Out (O + 1) (O + 1 + 1) w3 wr) (fun x _ => 4 - (intOf x).toNat)
  case atStart => exact ⟨0, Nat.zero_le _, rfl, _, _, V3, O3, FilC.start _ _ _, Out.refl _ _ _⟩
  case round =>
    obtain ⟨q, hq, rfl, V, H, hA, hV, hF, hO⟩ := hrel
    by_cases hlt : q < 4
    · obtain ⟨rl, nl, zl⟩ := HK.out q
      obtain ⟨rk, bl⟩ := HK3.out q
      replace rk := rk.out2 hO (fun p h1 h2 => by have := bl p h1 h2; omega)
      have HFS : Hid (∀ (w' : World) (a : Option Addr) (c : Nat), Out (O + 1) (O + 1 + 1) wr w' → RowIn w' wr.heap.size w'.heap.size a (wthL (kindL l0 l1 l2 l3 (q : Int)) (kk : Int) q (i : Int)).length (wthL (kindL l0 l1 l2 l3 (q : Int)) (kk : Int) q (i : Int)) → CapZ a (wthL (kindL l0 l1 l2 l3 (q : Int)) (kk : Int) q (i : Int)).length c → ∃ H', FilC (fun j => wthL (kindL l0 l1 l2 l3 (j : Int)) (kk : Int) j (i : Int)) w3.heap.size w' (fun j => if j = q then .slice a (wthL (kindL l0 l1 l2 l3 (q : Int)) (kk : Int) q (i : Int)).length c else V j) H' (q + 1)) := fun w' a c h1 h2 h3 => ⟨_, FilC.step (c := c) hF (by omega) h1 h2 h3⟩
      have hcO : wr.cell? ⟨O, q, none⟩ = some (.slice (kindO a0 a1 a2 a3 (q : Int)) (kindL l0 l1 l2 l3 (q : Int)).length (kindB c0 c1 c2 c3 (q : Int))) := (hA.2 q hlt).1
      have dO := (hV.2 q hlt).1; have eO := (hV.2 q hlt).2
      have hS : O + 1 < wr.heap.size := hV.1
      have hS0 : O < wr.heap.size := hA.1
      have hq4 : (q : Int) < 4 := by omega
      clear hF rl
      by_cases hqk : q = kk
      · subst hqk
        have hqe : ((q : Int) == (q : Int)) = true := by simp
        have hx := HX.out; have hy := HY.out
        rw [eK] at hx hy hcO rk
        clear HX HY
        have HL : Hid (wthL (kindL l0 l1 l2 l3 (q : Int)) (q : Int) q (i : Int) = (kindL l0 l1 l2 l3 (q : Int)).take i ++ (kindL l0 l1 l2 l3 (q : Int)).drop (i + 1)) := by show wthL _ _ _ _ = _; unfold wthL; rw [if_pos rfl]; rfl
        have e1 : ((kindL l0 l1 l2 l3 (q : Int)).take i).length = i := by rw [List.length_take]; omega
        have e2 : ((kindL l0 l1 l2 l3 (q : Int)).drop (i + 1)).length = (kindL l0 l1 l2 l3 (q : Int)).length - (i + 1) := by rw [List.length_drop]
        have rt := rk.take i
        have rd := drop_row (c := (kindB c0 c1 c2 c3 (q : Int))) rk (i + 1) zl.2
        have HLen : Hid ((wthL (kindL l0 l1 l2 l3 (q : Int)) (q : Int) q (i : Int)).length = i + ((kindL l0 l1 l2 l3 (q : Int)).length - (i + 1))) := by show List.length _ = _; rw [HL.out, List.length_append, e1, e2]
        generalize hTT : (kindL l0 l1 l2 l3 (q : Int)).take i = lt at *
        generalize hDD : (kindL l0 l1 l2 l3 (q : Int)).drop (i + 1) = ld at *
        have HTT : Hid ((kindL l0 l1 l2 l3 (q : Int)).take i = lt) := hTT
        have HDD : Hid ((kindL l0 l1 l2 l3 (q : Int)).drop (i + 1) = ld) := hDD
        clear hTT hDD
        generalize (kindL l0 l1 l2 l3 (q : Int)).length = n at *
        generalize (kindB c0 c1 c2 c3 (q : Int)) = cc at *
        generalize dropA bK oK cc (i + 1) = ad at *
        have hb0 : Below wr.heap.size wr wr.drew := (Below.refl _ _).drew
        have hcD : wr.drew.cell? ⟨O, q, none⟩ = some (.slice (some ⟨bK, oK, none⟩) n cc) := hcO
        replace rt := rt.below hb0 (Nat.le_refl _); replace rd := rd.below hb0 (Nat.le_refl _)
        have hwr : IntKind.i64.wrap ((i : Int) + 1) = (i : Int) + 1 := by rw [IntKind.wrap_i64]; omega
        go_wp2
        go_region_held3 (fun W => W.cell? ⟨O, q, none⟩ = some (.slice (some ⟨bK, oK, none⟩) n cc))
          (first | exact hcD | assumption | (rw [World.cell?_setCell_other _ _ _ _ (by intro h; injection h with h1; omega)]; assumption) | go_keep)
          (first | (go_at_call 139; refine (behind_cap _ _ _ _ _ _ lt ld _ e1 e2 (by omega) rt rd (by intro e; cases e) (by intro e; cases e)).mono ?_; rintro e w4 ⟨a, cq, rfl, hr, hz, hb⟩; replace hb := hb0.trans hb; have hA4 := hA.below hb hA.1; have hV4 := hV.below hb hV.1; have cA : w4.cell? ⟨O, q, none⟩ = some (.slice (some ⟨bK, oK, none⟩) n cc) := (by rw [hb.cell (p := ⟨O, q, none⟩) hS0]; exact hcO); have cO := (hV4.2 q hlt).1; have fO := (hV4.2 q hlt).2))
        all_goals
          have hO4 : Out (O + 1) (O + 1 + 1) wr (w4.setCell ⟨O + 1, q, none⟩ (.slice a (i + (n - (i + 1))) cq)) := (Out.ofBelow hb).trans (Out.set (O + 1) q w4 _)
          have hA5 := hA4.out3 (Out.set (O + 1) q w4 (.slice a (i + (n - (i + 1))) cq)) (.inl (by omega))
          have hV5 := hV4.put q (.slice a (i + (n - (i + 1))) cq)
          have hr5 := hr.out (Out.set (O + 1) q w4 (.slice a (i + (n - (i + 1))) cq)) (.inr (by first | omega | (simp; omega)))
          obtain ⟨H', hF'⟩ := HFS.out _ a cq hO4 (by rw [HLen.out, HL.out]; simpa using hr5) (by rw [HLen.out]; exact hz)
          rw [HLen.out] at hF'
          have HF' := (show Hid (FilC (fun j => wthL (kindL l0 l1 l2 l3 (j : Int)) (q : Int) j (i : Int)) w3.heap.size (w4.setCell ⟨O + 1, q, none⟩ (.slice a (i + (n - (i + 1))) cq)) (fun j => if j = q then .slice a (i + (n - (i + 1))) cq else V j) H' (q + 1)) from hF')
          have HO5 : Hid (Out (O + 1) (O + 1 + 1) w3 (w4.setCell ⟨O + 1, q, none⟩ (.slice a (i + (n - (i + 1))) cq))) := hO.trans hO4
          have HV5 : Hid (VRow (w4.setCell ⟨O + 1, q, none⟩ (.slice a (i + (n - (i + 1))) cq)) (O + 1) (fun j => if j = q then .slice a (i + (n - (i + 1))) cq else V j)) := hV5
          have HA5 := (show Hid (VRow (w4.setCell ⟨O + 1, q, none⟩ (.slice a (i + (n - (i + 1))) cq)) O (fun j => .slice (kindO a0 a1 a2 a3 j) (kindL l0 l1 l2 l3 j).length (kindB c0 c1 c2 c3 j))) from hA5)
          clear hF' hr hr5 hb hV4 hV5 hV HFS hO4 hA4 hA5 hA
          go_wp2
          first
            | (go_roundw
               case rel => exact ⟨q + 1, by omega, by go_num, _, H', HA5.out, HV5.out, HF'.out, HO5.out⟩
               case measure => simp [intOf]; omega)
            | (go_roundw
               case rel => (repeat apply Exists.intro); exact ⟨⟨q + 1, by omega, by go_num, _, H', HA5.out, HV5.out, HF'.out, HO5.out⟩, rfl⟩
               case measure => simp [intOf]; omega)
            | ((repeat apply Exists.intro); exact ⟨⟨q + 1, by omega, by go_num, _, H', HA5.out, HV5.out, HF'.out, HO5.out⟩, rfl⟩)
      · have hqe : ((q : Int) == (kk : Int)) = false := by simp; omega
        have HL : Hid (wthL (kindL l0 l1 l2 l3 (q : Int)) (kk : Int) q (i : Int) = (kindL l0 l1 l2 l3 (q : Int))) := by show wthL _ _ _ _ = _; unfold wthL; rw [if_neg (by omega)]
        have HLen : Hid ((wthL (kindL l0 l1 l2 l3 (q : Int)) (kk : Int) q (i : Int)).length = (kindL l0 l1 l2 l3 (q : Int)).length) := by show List.length _ = _; rw [HL.out]
        clear HX HY
        generalize hGG : (kindL l0 l1 l2 l3 (q : Int)) = lq at *
        have HGG : Hid ((kindL l0 l1 l2 l3 (q : Int)) = lq) := hGG
        clear hGG
        generalize (kindB c0 c1 c2 c3 (q : Int)) = cc at *
        generalize (kindO a0 a1 a2 a3 (q : Int)) = aq at *
        go_wp2_with fail
        refine (copy_cap _ _ _ lq _ rfl (by omega) (by exact rk) zl.1).mono ?_
        rintro e w4 ⟨a, cq, rfl, hr, hz, hb⟩
        have hA4 := hA.below hb hA.1; have hV4 := hV.below hb hV.1
        have cO := (hV4.2 q hlt).1; have fO := (hV4.2 q hlt).2
        have hO4 : Out (O + 1) (O + 1 + 1) wr (w4.setCell ⟨O + 1, q, none⟩ (.slice a lq.length cq)) := (Out.ofBelow hb).trans (Out.set (O + 1) q w4 _)
        have hA5 := hA4.out3 (Out.set (O + 1) q w4 (.slice a lq.length cq)) (.inl (by omega))
        have hV5 := hV4.put q (.slice a lq.length cq)
        have hr5 := hr.out (Out.set (O + 1) q w4 (.slice a lq.length cq)) (.inr (by first | omega | (simp; omega)))
        obtain ⟨H', hF'⟩ := HFS.out _ a cq hO4 (by rw [HLen.out, HL.out]; simpa using hr5) (by rw [HLen.out]; exact hz)
        rw [HLen.out] at hF'
        have HF' := (show Hid (FilC (fun j => wthL (kindL l0 l1 l2 l3 (j : Int)) (kk : Int) j (i : Int)) w3.heap.size (w4.setCell ⟨O + 1, q, none⟩ (.slice a lq.length cq)) (fun j => if j = q then .slice a lq.length cq else V j) H' (q + 1)) from hF')
        have HO5 : Hid (Out (O + 1) (O + 1 + 1) w3 (w4.setCell ⟨O + 1, q, none⟩ (.slice a lq.length cq))) := hO.trans hO4
        have HV5 : Hid (VRow (w4.setCell ⟨O + 1, q, none⟩ (.slice a lq.length cq)) (O + 1) (fun j => if j = q then .slice a lq.length cq else V j)) := hV5
        have HA5 := (show Hid (VRow (w4.setCell ⟨O + 1, q, none⟩ (.slice a lq.length cq)) O (fun j => .slice (kindO a0 a1 a2 a3 j) (kindL l0 l1 l2 l3 j).length (kindB c0 c1 c2 c3 j))) from hA5)
        clear hF' hr hr5 hb hV4 hV5 hV HFS hO4 hA4 hA5 hA
        go_wp2
        first
          | (go_roundw
             case rel => exact ⟨q + 1, by omega, by go_num, _, H', HA5.out, HV5.out, HF'.out, HO5.out⟩
             case measure => simp [intOf]; omega)
          | (go_roundw
             case rel => (repeat apply Exists.intro); exact ⟨⟨q + 1, by omega, by go_num, _, H', HA5.out, HV5.out, HF'.out, HO5.out⟩, rfl⟩
             case measure => simp [intOf]; omega)
          | ((repeat apply Exists.intro); exact ⟨⟨q + 1, by omega, by go_num, _, H', HA5.out, HV5.out, HF'.out, HO5.out⟩, rfl⟩)
    · obtain rfl : q = 4 := by omega
      obtain ⟨a0', a1', a2', a3', e0, e1, e2, e3, x0, x1, x2, x3, u0, u1, u2, u3, T⟩ := hF.done hV
      have R4 := R0.out hO (.inl (by omega))
      have L4 := L0.trans (hO.below (by have := L0.size; omega) L0.size)
      have zM := hO.size
      have zL := L0.size
      clear hF hV hA hO HK HK3 HX HY R0 L0
      try dsimp only at x0 x1 x2 x3 T u0 u1 u2 u3
      have s0 : wthL (kindL l0 l1 l2 l3 ((0 : Nat) : Int)) (kk : Int) 0 (i : Int) = wthL l0 (kk : Int) 0 (i : Int) := rfl
      have s1 : wthL (kindL l0 l1 l2 l3 ((1 : Nat) : Int)) (kk : Int) 1 (i : Int) = wthL l1 (kk : Int) 1 (i : Int) := rfl
      have s2 : wthL (kindL l0 l1 l2 l3 ((2 : Nat) : Int)) (kk : Int) 2 (i : Int) = wthL l2 (kk : Int) 2 (i : Int) := rfl
      have s3 : wthL (kindL l0 l1 l2 l3 ((3 : Nat) : Int)) (kk : Int) 3 (i : Int) = wthL l3 (kk : Int) 3 (i : Int) := rfl
      rw [s0] at x0 T u0; rw [s1] at x1 T u1; rw [s2] at x2 T u2; rw [s3] at x3 T u3
      clear s0 s1 s2 s3
      obtain ⟨v0, hv0⟩ : ∃ x, wthL l0 (kk : Int) 0 (i : Int) = x := ⟨_, rfl⟩
      obtain ⟨v1, hv1⟩ : ∃ x, wthL l1 (kk : Int) 1 (i : Int) = x := ⟨_, rfl⟩
      obtain ⟨v2, hv2⟩ : ∃ x, wthL l2 (kk : Int) 2 (i : Int) = x := ⟨_, rfl⟩
      obtain ⟨v3, hv3⟩ : ∃ x, wthL l3 (kk : Int) 3 (i : Int) = x := ⟨_, rfl⟩
      rw [hv0] at x0 T u0; rw [hv1] at x1 T u1; rw [hv2] at x2 T u2; rw [hv3] at x3 T u3
      have HX0 : Hid (wthL l0 (kk : Int) 0 (i : Int) = v0) := hv0
      have HX1 : Hid (wthL l1 (kk : Int) 1 (i : Int) = v1) := hv1
      have HX2 : Hid (wthL l2 (kk : Int) 2 (i : Int) = v2) := hv2
      have HX3 : Hid (wthL l3 (kk : Int) 3 (i : Int) = v3) := hv3
      clear hv0 hv1 hv2 hv3
      go_wp2_with fail
      refine (asnOf_any _ _ _ _ _ _ _ _ _ _ _ _ _).mono ?_
      rintro e w5 ⟨rfl, hb⟩
      have R5 := R4.below hb R4.lt
      have L5 := L4.trans (hb.mono L4.size)
      have zz := hb.size
      replace T := T.below hb (Nat.le_refl _)
      clear hb R4 L4 x0 x1 x2 x3
      obtain ⟨F, FO⟩ := R5.fill (.slice a0' v0.length e0) (.slice a1' v1.length e1) (.slice a2' v2.length e2) (.slice a3' v3.length e3)
      have j0' := R5.c0; have j1' := R5.c1; have j2' := R5.c2; have j3' := R5.c3
      have g0 := R5.f0; have g1 := R5.f1; have g2 := R5.f2; have g3 := R5.f3
      go_wp2
      have i0 := F.c0; have i1 := F.c1; have i2 := F.c2; have i3 := F.c3
      have fz := FO.size
      refine bodyPost_ret (v := .tuple #[.agg #[.slice a0' v0.length e0, .slice a1' v1.length e1, .slice a2' v2.length e2, .slice a3' v3.length e3], .bool true]) ?_ rfl ⟨a0', a1', a2', a3', e0, e1, e2, e3, by rw [HE.out, HX0.out, HX1.out, HX2.out, HX3.out]; rfl, ?_, ?_, ?_⟩
      · simp [results, Try.results58, go_sem, i0, i1, i2, i3]
      · rw [HE.out, HX0.out, HX1.out, HX2.out, HX3.out]; exact (T.out FO (.inr (by omega))).mono (by omega) (by omega)
      · rw [HE.out, HX0.out, HX1.out, HX2.out, HX3.out]; exact ⟨u0, u1, u2, u3⟩
      · exact L5.trans (FO.below (by omega) L5.size)

end Go.Proofs.Ytphchdjbhbmnbaa
namespace Go.Proofs.Ytphchdjbhbmnbaa
open Go.RowKit

/-- A slice of n pairs that reads as l, in a block of the call's own from lo to hi or from S on. -/
def RowOr (w : World) (lo hi S : Nat) (a : Option Addr) (n : Nat) (l : List (Int × Int)) : Prop :=
  l.length = n ∧ (n = 0 ∨ ∃ b, a = some ⟨b, 0, none⟩ ∧ (lo ≤ b ∧ b < hi ∨ S ≤ b) ∧ Own w b n l n)

theorem owns_room {w : World} {base n b c : Nat} {xs : List Value} (h : w.ownsRow base 69 2 (.slice (some ⟨b, 0, none⟩) n c) n xs) (j : Nat) (hj : j < c * 2) :
    (w.cell? ⟨b, j, none⟩).isSome = true ∧ w.frozen? ⟨b, j, none⟩ = false := by
  obtain ⟨h3, h4 | ⟨g, cap, cur, e1, e2, e3, e4, e5, e6, e7⟩⟩ := h
  · cases h4.1
  · injection e1 with e0 e1 e8; injection e0 with e0; injection e0 with e0; subst e0; subst e8
    refine ⟨?_, ?_⟩
    · simp [World.cell?, e3, e6, hj]
    · simp [World.frozen?, e3]

theorem step_room {ops : Array Oper} {o : Oper} {a : Act} {w : World} {K : Act → World → Prop} {Q : Exit → Act → World → Prop} {E : Prop}
    (hg : o.guard = none) (s x : Operand) (hop : o.op = Op.call { callee := Callee.builtin Builtin.append, args := #[s, x], argTypes := #[26, 26] })
    (lo hi : Nat) (a' : Option Addr) (n c : Nat) (l : List (Int × Int)) (hs : a.eval s = .slice a' n c) (hr : RoomIn w lo hi a' n c l)
    (b m d : Nat) (k : List (Int × Int)) (hx : a.eval x = .slice (some ⟨b, 0, none⟩) m d) (hk : k.length = m) (ho : Own w b m k m) (hn : n + m ≤ 2097152) (hlo : lo ≤ w.heap.size)
    (hK : ∀ a'' c'' w', RowOr w' lo hi w.heap.size a'' (n + m) (l ++ k) → Out lo hi w w' → K (a.put o.dst (.slice a'' (n + m) c'')) w') :
    if Region.wanted o (yielded ops a.tmps) = true then Oper.wp Try.prog o a w K Q else E := by
  obtain ⟨i0, hi0, hz0, hz1, hz2⟩ := Try.i57
  subst hk
  have hl := hr.1
  by_cases hc : c < n + k.length
  · refine step_append_grows hg s x 26 hop 69 i0 (.agg #[.int .i64 0, .int .i64 0]) 2 16 Try.underlying26 hi0 hz0 hz1 hz2 rfl (by decide) a' n c (pc l) hs ?_ (by rw [pc_length, hl]) ?_ ⟨b, 0, none⟩ k.length d (pc k) hx (pc_length k) ho.news pc_one hc (by unfold maxLen; omega) (by omega) ?_
    · obtain ⟨_, ⟨_, _, _, rfl⟩ | ⟨_, rfl, _⟩⟩ := hr <;> intro h <;> cases h
    · intro ad had j u hu
      obtain ⟨_, ⟨h0, _, _, rfl⟩ | ⟨b1, rfl, _, _, hw⟩⟩ := hr
      · have : l = [] := List.eq_nil_of_length_eq_zero (by omega)
        subst this; cases hu
      · cases had; exact hw.cells rfl j u hu
    · intro v' w' hown hgr
      rw [← pc_append] at hown
      obtain ⟨a1, c1, rfl, hl1, h0 | ⟨b1, rfl, h1, h2, h3⟩⟩ := RowIn.ofOwns hown
      · omega
      · exact hK _ _ _ ⟨hl1, .inr ⟨b1, rfl, .inr h1, h3⟩⟩ (Out.ofBelow ((Below.refl _ _).grown hgr (Nat.le_refl _) (by intro k hk; cases hk)))
  · obtain ⟨_, ⟨h0, h00, Z, rfl⟩ | ⟨b1, rfl, g1, g2, hw⟩⟩ := hr
    · have hl0 : l = [] := List.eq_nil_of_length_eq_zero (by omega)
      have hk0 : k = [] := List.eq_nil_of_length_eq_zero (by omega)
      subst hl0 hk0 h00 h0
      refine step_append_room hg s x 26 hop 69 i0 2 Try.underlying26 hi0 hz1 Z 0 0 0 hs ⟨b, 0, none⟩ 0 d [] hx rfl (by intro j u h; cases h) (by intro u h; cases h) (Nat.le_refl _) (by intro j h; exact absurd h (Nat.not_lt_zero _)) ?_
      exact hK _ _ _ ⟨rfl, .inl rfl⟩ (Out.refl _ _ _)
    · have sp : ∀ j, j < (pc k).length → (w.cell? ⟨b1, 0 + n * 2 + j, none⟩).isSome = true ∧ w.frozen? ⟨b1, 0 + n * 2 + j, none⟩ = false := fun j hj => owns_room hw _ (by rw [pc_length] at hj; omega)
      obtain ⟨v', w', hrun, r1, r2, _⟩ := run_append_own (P := Try.prog) w lo 26 o.type 69 i0 (.agg #[.int .i64 0, .int .i64 0]) 2 16 Try.underlying26 hi0 hz0 hz1 hz2 rfl (by decide) _ n (pc l) hw ⟨b, 0, none⟩ k.length d (pc k) (pc_length k) ho.news pc_one (by unfold maxLen; omega) (by omega) hlo
      have hrun2 := run_append_room_cells (P := Try.prog) w 26 o.type 69 i0 Try.underlying26 hi0 b1 0 n c ⟨b, 0, none⟩ k.length d (pc k) (by rw [hz1]; exact pc_length k) ho.news pc_one (by omega) (by rw [hz1]; exact fun j hj => (sp j hj).1) (by rw [hz1]; exact fun j hj => (sp j hj).2)
      rw [hrun] at hrun2
      rw [hz1] at hrun2
      injection hrun2 with e1 e2
      subst e1 e2
      rw [← pc_append] at r1
      obtain ⟨q1, q2, q3⟩ := Own.ofOwns r1
      refine step_append_room hg s x 26 hop 69 i0 2 Try.underlying26 hi0 hz1 b1 0 n c hs ⟨b, 0, none⟩ k.length d (pc k) hx (pc_length k) ho.news pc_one (by omega) sp ?_
      exact hK _ _ _ ⟨q1, .inr ⟨b1, rfl, .inl ⟨g1, g2⟩, q3⟩⟩ ⟨r2.os, r2.tape, r2.output, r2.size, fun i hi' hr' => r2.block i hi' (by intro e; injection e with e; subst e; omega)⟩

end Go.Proofs.Ytphchdjbhbmnbaa
