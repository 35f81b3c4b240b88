/-
  Rows whose room is told: behind and copyOf again; what is cut out of a slice of pairs; four slices set one after the other.
-/
import Derived.Test.YtfplloabkceaoaaFi
namespace Go.Proofs.Ytfplloabkceaoaa
open Go.RowKit

/-- A slice's room: none without an address, and enough. -/
def CapZ (a : Option Addr) (n c : Nat) : Prop := (a = none → c = 0) ∧ n ≤ c

theorem RowIn.ofOwnsC {w : World} {base n : Nat} {v : Value} {l : List (Int × Int)} (h : w.ownsRow base 69 2 v n (pc l)) : ∃ a cap, v = .slice a n cap ∧ RowIn w base w.heap.size a n l ∧ CapZ a n cap := by
  have h0 := h
  rcases h.2 with ⟨rfl, rfl⟩ | ⟨g, cap, cur, rfl, _, _, hcap, _⟩
  · exact ⟨none, 0, rfl, ⟨by have := h.1; rw [pc_length] at this; omega, .inl rfl⟩, ⟨fun _ => rfl, Nat.le_refl _⟩⟩
  · obtain ⟨hl, hb, ho⟩ := Own.ofOwns h0
    exact ⟨_, _, rfl, RowIn.ofOwn ho hl hb ho.1, ⟨(fun e => by cases e), hcap⟩⟩

set_option maxHeartbeats 1000000 in
theorem behind_cap (a1 a2 : Option Addr) (n1 n2 c1 c2 : Nat) (l k : List (Int × Int)) (w : World) (e1 : l.length = n1) (e2 : k.length = n2) (hn : n1 + n2 ≤ 4194304) (r1 : PRow w a1 l) (r2 : PRow w a2 k) (z1 : a1 = none → c1 = 0) (z2 : a2 = none → c2 = 0) :
    Calls Try.prog 139 #[.slice a1 n1 c1, .slice a2 n2 c2] w fun e w' => ∃ a c, e = .returned (.slice a (n1 + n2) c) ∧ RowIn w' w.heap.size w'.heap.size a (n1 + n2) (l ++ k) ∧ CapZ a (n1 + n2) c ∧ Below w.heap.size w w' := by
  have hnil := World.ownsRow_nil w w.heap.size 69 2
  go_enter Try.func139, Try.ntmps139
  go_wp2_with (at_builtin; refine wpList_append_src rfl _ _ rfl w.heap.size _ 0 [] rfl hnil a1 n1 c1 l e1 rfl r1 z1 (by omega) (Nat.le_refl _) ?_)
  intro v1 w1 h1 g1
  have hb := (Below.refl w.heap.size w).grown g1 (Nat.le_refl _) (by intro k hk; simp [Value.ownBlock] at hk)
  try rw [Nat.zero_add] at h1
  try rw [List.nil_append] at h1
  replace r2 := r2.below hb (Nat.le_refl _)
  clear g1 hnil r1
  go_wp2_with (at_builtin; refine wpList_append_src rfl _ _ rfl w.heap.size v1 n1 l rfl h1 a2 n2 c2 k e2 rfl r2 z2 (by omega) hb.size ?_)
  intro v2 w2 h2 g2
  have hb2 := hb.grown g2 hb.size (by intro q hq; exact (h1.lt q hq).1)
  obtain ⟨a, c, rfl, hr, hz⟩ := RowIn.ofOwnsC h2
  clear g2 h1 h2 hb
  go_wp2
  go_ret
  exact ⟨a, c, rfl, hr, hz, hb2⟩

set_option maxHeartbeats 400000 in
theorem copy_cap (a1 : Option Addr) (n1 c1 : Nat) (l : List (Int × Int)) (w : World) (e1 : l.length = n1) (hn : n1 ≤ 4194304) (r1 : PRow w a1 l) (z1 : a1 = none → c1 = 0) :
    Calls Try.prog 144 #[.slice a1 n1 c1] w fun e w' => ∃ a c, e = .returned (.slice a n1 c) ∧ RowIn w' w.heap.size w'.heap.size a n1 l ∧ CapZ a n1 c ∧ Below w.heap.size w w' := by
  go_enter Try.func144, Try.ntmps144
  go_wp2_with fail
  refine (behind_cap none a1 0 n1 0 c1 [] l w rfl e1 (by omega) (.inl rfl) r1 (fun _ => rfl) z1).mono ?_
  rintro e w1 ⟨a, c, rfl, hr, hz, hb⟩
  try rw [Nat.zero_add] at hr
  try rw [List.nil_append] at hr
  try rw [Nat.zero_add] at hz
  try rw [Nat.zero_add]
  go_wp2
  go_ret
  exact ⟨a, c, rfl, hr, hz, hb⟩

theorem PRow.take {w : World} {a : Option Addr} {l : List (Int × Int)} (h : PRow w a l) (i : Nat) : PRow w a (l.take i) := by
  rcases h with rfl | ⟨b, off, rfl, hlt, hc⟩
  · exact .inl (by simp)
  · refine .inr ⟨b, off, rfl, hlt, fun j hj => ?_⟩
    rw [List.length_take] at hj
    have := hc j (by omega)
    rw [List.getD_eq_getElem?_getD, List.getElem?_take, if_pos (by omega), ← List.getD_eq_getElem?_getD]
    exact this

theorem PRow.drop {w : World} {b off : Nat} {l : List (Int × Int)} (h : PRow w (some ⟨b, off, none⟩) l) (i : Nat) : PRow w (some ⟨b, off + i * 2, none⟩) (l.drop i) := by
  rcases h with rfl | ⟨b', off', e, hlt, hc⟩
  · exact .inl (by simp)
  · injection e with e; injection e with e1 e2; subst e1; subst e2
    refine .inr ⟨b, off + i * 2, rfl, hlt, fun j hj => ?_⟩
    rw [List.length_drop] at hj
    have := hc (i + j) (by omega)
    rw [List.getD_eq_getElem?_getD, List.getElem?_drop, ← List.getD_eq_getElem?_getD]
    rw [show off + i * 2 + j * 2 = off + (i + j) * 2 by omega]
    exact this

/-- l[:i] -/
theorem cut_hi (b off n c i : Nat) (hi : i ≤ c) (w : World) : (Instr.slice 26 (.slice (some ⟨b, off, none⟩) n c) none (some (.int .i64 i)) none).run Try.prog w = .ok (.slice (some ⟨b, off, none⟩) i c) w := by
  have h1 : (i : Int) ≤ c := by omega
  have h0 : (0 : Int) ≤ i := by omega
  rw [run_slice_h (P := Try.prog) (w := w) 26 (some ⟨b, off, none⟩) n c (by kernel_rfl) .i64 i h0 h1]
  simp [sliced, go_sem]

/-- The address of l[k:]. -/
def dropA (b off c k : Nat) : Addr := if c = k then ⟨b, off, none⟩ else ⟨b, off + k * 2, none⟩
theorem cut_lo (b off n c k : Nat) (hk : k ≤ n) (w : World) : (Instr.slice 26 (.slice (some ⟨b, off, none⟩) n c) (some (.int .i64 k)) none none).run Try.prog w = .ok (.slice (some (dropA b off c k)) (n - k) (c - k)) w := by
  have h1 : (k : Int) ≤ n := by omega
  have h0 : (0 : Int) ≤ k := by omega
  rw [run_slice_l (P := Try.prog) (w := w) 26 (some ⟨b, off, none⟩) n c (by kernel_rfl) .i64 k h0 h1]
  unfold dropA
  by_cases e : c = k
  · simp [sliced, go_sem, e]
  · simp [sliced, go_sem, addr_add, e]

theorem drop_row {w : World} {b off c : Nat} {l : List (Int × Int)} (h : PRow w (some ⟨b, off, none⟩) l) (k : Nat) (hc : l.length ≤ c) : PRow w (some (dropA b off c k)) (l.drop k) := by
  unfold dropA
  by_cases e : c = k
  · exact .inl (by simp; omega)
  · rw [if_neg e]; exact h.drop k

/-- What is known of the four slices when those ahead of kind k are done; room, too. -/
def FilC (L : Nat → List (Int × Int)) (lo : Nat) (w : World) (V : Nat → Value) (H : Nat → Nat) (k : Nat) : Prop :=
  lo ≤ H 0 ∧ H k ≤ w.heap.size ∧ (∀ j, j < k → H j ≤ H (j + 1)) ∧ (∀ j, j < k → ∃ a c, V j = .slice a (L j).length c ∧ RowIn w (H j) (H (j + 1)) a (L j).length (L j) ∧ CapZ a (L j).length c)

theorem FilC.lo_le {L : Nat → List (Int × Int)} {lo : Nat} {w : World} {V : Nat → Value} {H : Nat → Nat} {k : Nat} (h : FilC L lo w V H k) : ∀ j, j ≤ k → lo ≤ H j := by
  intro j hj
  obtain ⟨h1, _, h3, _⟩ := h
  induction j with
  | zero => exact h1
  | succ j ih => exact Nat.le_trans (ih (by omega)) (h3 j (by omega))

theorem FilC.start (L : Nat → List (Int × Int)) (V : Nat → Value) (w : World) : FilC L w.heap.size w V (fun _ => w.heap.size) 0 :=
  ⟨Nat.le_refl _, Nat.le_refl _, fun j hj => by omega, fun j hj => by omega⟩

/-- One kind more is done. -/
theorem FilC.step {L : Nat → List (Int × Int)} {lo b : Nat} {w w' : World} {V : Nat → Value} {H : Nat → Nat} {k : Nat} (h : FilC L lo w V H k) (hb : b < lo) (ho : Out b (b + 1) w w') {a : Option Addr} {c : Nat}
    (hr : RowIn w' w.heap.size w'.heap.size a (L k).length (L k)) (hz : CapZ a (L k).length c) : FilC L lo w' (fun j => if j = k then .slice a (L k).length c else V j) (fun j => if j ≤ k then H j else w'.heap.size) (k + 1) := by
  have hl := h.lo_le
  obtain ⟨h1, h2, h3, h4⟩ := h
  have hs := ho.size
  refine ⟨by simpa using h1, ?_, fun j hj => ?_, fun j hj => ?_⟩
  · dsimp only; rw [if_neg (by omega)]; exact Nat.le_refl _
  · dsimp only
    by_cases e : j = k
    · subst e; rw [if_pos (Nat.le_refl _), if_neg (by omega)]; omega
    · rw [if_pos (by omega), if_pos (by omega)]; exact h3 j (by omega)
  · dsimp only
    by_cases e : j = k
    · subst e
      refine ⟨a, c, by rw [if_pos rfl], ?_, hz⟩
      rw [if_pos (Nat.le_refl _), if_neg (by omega)]
      exact hr.mono h2 (Nat.le_refl _)
    · obtain ⟨a', c', e1, e2, e3⟩ := h4 j (by omega)
      refine ⟨a', c', by rw [if_neg e, e1], ?_, e3⟩
      rw [if_pos (by omega), if_pos (by omega)]
      exact e2.out ho (.inr (by have := hl j (by omega); omega))

/-- All four are done. -/
theorem FilC.done {L : Nat → List (Int × Int)} {lo b : Nat} {w : World} {V : Nat → Value} {H : Nat → Nat} (h : FilC L lo w V H 4) (hv : VRow w b V) :
    ∃ a0 a1 a2 a3 c0 c1 c2 c3, w.cell? ⟨b, 0, none⟩ = some (.slice a0 (L 0).length c0) ∧ w.cell? ⟨b, 1, none⟩ = some (.slice a1 (L 1).length c1) ∧ w.cell? ⟨b, 2, none⟩ = some (.slice a2 (L 2).length c2) ∧ w.cell? ⟨b, 3, none⟩ = some (.slice a3 (L 3).length c3) ∧ CapZ a0 (L 0).length c0 ∧ CapZ a1 (L 1).length c1 ∧ CapZ a2 (L 2).length c2 ∧ CapZ a3 (L 3).length c3 ∧
      Four w lo w.heap.size a0 a1 a2 a3 (L 0).length (L 1).length (L 2).length (L 3).length (L 0) (L 1) (L 2) (L 3) := by
  have hlo := h.lo_le
  obtain ⟨h1, h2, h3, h4⟩ := h
  obtain ⟨a0, c0, e0, r0, z0⟩ := h4 0 (by omega)
  obtain ⟨a1, c1, e1, r1, z1⟩ := h4 1 (by omega)
  obtain ⟨a2, c2, e2, r2, z2⟩ := h4 2 (by omega)
  obtain ⟨a3, c3, e3, r3, z3⟩ := h4 3 (by omega)
  have m0 := h3 0 (by omega); have m1 := h3 1 (by omega); have m2 := h3 2 (by omega); have m3 := h3 3 (by omega)
  have q0 := hlo 0 (by omega); have q1 := hlo 1 (by omega); have q2 := hlo 2 (by omega); have q3 := hlo 3 (by omega)
  simp only [Nat.reduceAdd] at r0 r1 r2 r3 m0 m1 m2 m3
  refine ⟨a0, a1, a2, a3, c0, c1, c2, c3, by rw [(hv.2 0 (by omega)).1, e0], by rw [(hv.2 1 (by omega)).1, e1], by rw [(hv.2 2 (by omega)).1, e2], by rw [(hv.2 3 (by omega)).1, e3], z0, z1, z2, z3, ?_⟩
  exact ⟨H 0, H 1, H 1, H 2, H 2, H 3, H 3, H 4, ⟨q0, by omega, r0⟩, ⟨q1, by omega, r1⟩, ⟨q2, by omega, r2⟩, ⟨q3, h2, r3⟩, by omega, by omega, by omega, by omega, by omega, by omega⟩

end Go.Proofs.Ytfplloabkceaoaa
