/-
  The contracts of slices.Clone at integers, and of Classes.
-/
import Derived.Test.YtiolgbckichneaaAl
import Derived.Deep.RegionLawGrows
namespace Go.Proofs.Ytiolgbckichneaa
open Go.RowKit
theorem nil39 (a : Addr) (n c : Nat) (w : World) : (binOp .eql 39 (.slice (some a) n c) (.slice none 0 0)).run Try.prog w = .ok (.bool false) w := by
  simp [binOp, run_equal_slice_nil (P := Try.prog) w 39 3 (some a) n c Try.underlying39, go_sem]
theorem OwnI.news {w : World} {b n : Nat} {l : List Int} (h : OwnI w b n l n) (hl : l.length = n) : ∀ j u, (ic l)[j]? = some u → w.cell? ((⟨b, 0, none⟩ : Addr).add j) = some u := by
  intro j u hj
  have := h.range hl j u hj
  rw [Nat.zero_add] at this
  rw [Addr.add_mid, Nat.zero_add]
  exact this
theorem ic_ones (l : List Int) : ∀ u ∈ ic l, u.oneCell' = true := by intro v hv; simp only [ic, List.mem_map] at hv; obtain ⟨x, _, rfl⟩ := hv; rfl
/-- An append of sixteen integers onto an empty slice made by a literal. -/
theorem wpList_fresh39 {ops : Array Oper} {rest : List Oper} {o : Oper} {a : Act} {w : World} {Q : Exit → Act → World → Prop}
    (hg : o.guard = none) (s x : Operand) (hop : o.op = Op.call { callee := Callee.builtin Builtin.append, args := #[s, x], argTypes := #[39, 39] })
    (Z b c : Nat) (l : List Int) (hs : a.eval s = .slice (some ⟨Z, 0, none⟩) 0 0) (hx : a.eval x = .slice (some ⟨b, 0, none⟩) 16 c) (hl : l.length = 16) (ho : OwnI w b 16 l 16)
    (hK : ∀ a' c' w', IntIn w' w.heap.size w'.heap.size a' 16 l → Below w.heap.size w w' → wpList Try.prog ops Q rest (a.put o.dst (.slice a' 16 c')) w') : wpList Try.prog ops Q (o :: rest) a w := by
  obtain ⟨i0, hi, hz0, hz1, hz2⟩ := Try.i3
  refine wpList_step fun K hK2 => ?_
  refine step_append_grows hg s x 39 hop 3 i0 (.int .i64 0) 1 8 Try.underlying39 hi hz0 hz1 hz2 rfl (by decide) (some ⟨Z, 0, none⟩) 0 0 [] hs (by intro h; cases h) rfl (by intro b h j u hu; cases hu) ⟨b, 0, none⟩ 16 c (ic l) hx (by rw [ic_length, hl]) (ho.news hl) (ic_ones l) (by omega) (by unfold maxLen; omega) (by omega) ?_
  intro v' w' hown hgr
  rw [Nat.zero_add, List.nil_append] at hown
  obtain ⟨a', c', rfl, hr⟩ := IntIn.ofOwns hown
  exact hK2 _ _ (hK _ _ _ hr ((Below.refl _ _).grown hgr (Nat.le_refl _) (by intro k hk; cases hk)))
set_option maxRecDepth 3000 in
set_option maxHeartbeats 1000000 in
theorem clone_any (c : List Int) (b : Nat) (hl : c.length = 16) (w : World) (O : OwnI w b 16 c 16) :
    Calls Try.prog 71 #[.slice (some ⟨b, 0, none⟩) 16 16] w fun e w' => ∃ a cq, e = .returned (.slice a 16 cq) ∧ IntIn w' w.heap.size w'.heap.size a 16 c ∧ Below w.heap.size w w' := by
  have hn := nil39 ⟨b, 0, none⟩ 16 16
  have HL : Hid (c.length = 16) := hl
  clear hl
  go_enter Try.func71, Try.ntmps71
  go_wp2_with (at_builtin; refine wpList_fresh39 rfl _ _ rfl w.heap.size b 16 c rfl rfl HL.out ?c1 ?_)
  case c1 => exact O.alloc _
  · intro a' c' w2 hr hb
    have L := ((Below.refl w.heap.size w).alloc (Nat.le_refl _) (.cells #[] 3)).trans (hb.mono (by simp))
    have hr2 := hr.mono (lo' := w.heap.size) (hi' := w2.heap.size) (by simp) (Nat.le_refl _)
    clear hr hb
    go_wp2
    go_ret
    exact ⟨a', c', rfl, hr2, L⟩
def classesA (l0 l1 l2 l3 : List (Int × Int)) : List Int := if asnB l0 l1 l2 l3 = true then clsV l0 else []
theorem classesA_le (l0 l1 l2 l3 : List (Int × Int)) : (classesA l0 l1 l2 l3).length ≤ 1048576 := by
  unfold classesA
  split
  · rename_i h
    rw [(Cls.all (asnB_toks h).1).1]; decide
  · exact Nat.zero_le _

set_option maxRecDepth 3000 in
set_option maxHeartbeats 1000000 in
theorem sClasses_any (a0 a1 a2 a3 : Option Addr) (c0 c1 c2 c3 : Nat) (l0 l1 l2 l3 : List (Int × Int)) (w : World)
    (n0 : l0.length ≤ 1048576) (n1 : l1.length ≤ 1048576) (n2 : l2.length ≤ 1048576) (n3 : l3.length ≤ 1048576)
    (r0 : PRow w a0 l0) (r1 : PRow w a1 l1) (r2 : PRow w a2 l2) (r3 : PRow w a3 l3) :
    Calls Try.prog 27 #[.agg #[.slice a0 l0.length c0, .slice a1 l1.length c1, .slice a2 l2.length c2, .slice a3 l3.length c3]] w fun e w' => ∃ a cq, e = .returned (.slice a (classesA l0 l1 l2 l3).length cq) ∧ IntIn w' w.heap.size w'.heap.size a (classesA l0 l1 l2 l3).length (classesA l0 l1 l2 l3) ∧ Below w.heap.size w w' := by
  have B0 := Box.new w (.slice a0 l0.length c0) (.slice a1 l1.length c1) (.slice a2 l2.length c2) (.slice a3 l3.length c3) 28
  have L0 : Below w.heap.size w (w.alloc (.cells #[.slice a0 l0.length c0, .slice a1 l1.length c1, .slice a2 l2.length c2, .slice a3 l3.length c3] 28)) := (Below.refl _ _).alloc (Nat.le_refl _) _
  go_enter Try.func27, Try.ntmps27
  go_wp2_with fail
  refine (sAsnOk_any _ _ _ _ _ _ _ _ _ _ _ _ _ n0 n1 n2 n3 (by exact r0.below L0 (Nat.le_refl _)) (by exact r1.below L0 (Nat.le_refl _)) (by exact r2.below L0 (Nat.le_refl _)) (by exact r3.below L0 (Nat.le_refl _))).mono ?_
  rintro e w1 ⟨rfl, hb⟩
  have B1 := B0.below hb B0.lt; have L1 := L0.trans (hb.mono L0.size)
  clear hb B0 L0
  cases ha : asnB l0 l1 l2 l3
  · have HE : Hid (classesA l0 l1 l2 l3 = []) := by unfold Hid classesA; rw [ha]; rfl
    go_wp2
    go_ret
    rw [HE.out]
    exact ⟨none, 0, rfl, ⟨rfl, .inl rfl⟩, L1⟩
  have HE : Hid (classesA l0 l1 l2 l3 = clsV l0) := by unfold Hid classesA; rw [ha]; rfl
  have ht := asnB_toks ha
  have HC := (Cls.all ht.1).1
  replace HC : Hid ((clsV l0).length = 16) := HC
  clear ha
  have x0 := B1.c0; have x1 := B1.c1; have x2 := B1.c2; have x3 := B1.c3
  go_wp2_with fail
  refine (l3classes_any _ _ _ _ _ _ _ _ _ _ _ _ _ n0 ht.1 (by exact r0.below L1 (Nat.le_refl _))).mono ?_
  rintro e w2 ⟨b, cp, rfl, hbb, O, hb⟩
  have L2 := L1.trans (hb.mono L1.size)
  have s1 := L1.size
  have G : IntIn w2 w.heap.size w2.heap.size (some ⟨b, 0, none⟩) 16 (clsV l0) := ⟨HC.out, .inr ⟨b, rfl, by omega, O.1, O⟩⟩
  clear hb B1 L1 x0 x1 x2 x3
  go_wp2
  go_ret
  rw [HE.out, HC.out]
  exact ⟨_, cp, rfl, G, L2⟩

set_option maxRecDepth 3000 in
set_option maxHeartbeats 1000000 in
theorem iClasses_any (a0 a1 a2 a3 : Option Addr) (c0 c1 c2 c3 : Nat) (l0 l1 l2 l3 : List (Int × Int)) (w : World)
    (n0 : l0.length ≤ 1048576) (n1 : l1.length ≤ 1048576) (n2 : l2.length ≤ 1048576) (n3 : l3.length ≤ 1048576)
    (r0 : PRow w a0 l0) (r1 : PRow w a1 l1) (r2 : PRow w a2 l2) (r3 : PRow w a3 l3) :
    Calls Try.prog 28 #[.agg #[.slice a0 l0.length c0, .slice a1 l1.length c1, .slice a2 l2.length c2, .slice a3 l3.length c3]] w fun e w' => ∃ a cq, e = .returned (.slice a (classesA l0 l1 l2 l3).length cq) ∧ IntIn w' w.heap.size w'.heap.size a (classesA l0 l1 l2 l3).length (classesA l0 l1 l2 l3) ∧ Below w.heap.size w w' := by
  have B0 := Box.new w (.slice a0 l0.length c0) (.slice a1 l1.length c1) (.slice a2 l2.length c2) (.slice a3 l3.length c3) 28
  have L0 : Below w.heap.size w (w.alloc (.cells #[.slice a0 l0.length c0, .slice a1 l1.length c1, .slice a2 l2.length c2, .slice a3 l3.length c3] 28)) := (Below.refl _ _).alloc (Nat.le_refl _) _
  go_enter Try.func28, Try.ntmps28
  go_wp2_with fail
  refine (iAsnOk_any _ _ _ _ _ _ _ _ _ _ _ _ _ n0 n1 n2 n3 (by exact r0.below L0 (Nat.le_refl _)) (by exact r1.below L0 (Nat.le_refl _)) (by exact r2.below L0 (Nat.le_refl _)) (by exact r3.below L0 (Nat.le_refl _))).mono ?_
  rintro e w1 ⟨rfl, hb⟩
  have B1 := B0.below hb B0.lt; have L1 := L0.trans (hb.mono L0.size)
  clear hb B0 L0
  cases ha : asnB l0 l1 l2 l3
  · have HE : Hid (classesA l0 l1 l2 l3 = []) := by unfold Hid classesA; rw [ha]; rfl
    go_wp2
    go_ret
    rw [HE.out]
    exact ⟨none, 0, rfl, ⟨rfl, .inl rfl⟩, L1⟩
  have HE : Hid (classesA l0 l1 l2 l3 = clsV l0) := by unfold Hid classesA; rw [ha]; rfl
  have ht := asnB_toks ha
  have HC := (Cls.all ht.1).1
  replace HC : Hid ((clsV l0).length = 16) := HC
  clear ha
  have x0 := B1.c0; have x1 := B1.c1; have x2 := B1.c2; have x3 := B1.c3
  go_wp2_with fail
  refine (classesOf_any _ _ _ _ _ _ _ _ _ _ _ _ _ n0 ht.1 (by exact r0.below L1 (Nat.le_refl _))).mono ?_
  rintro e w2 ⟨rfl, hb⟩
  have L2 := L1.trans (hb.mono L1.size)
  clear hb B1 L1 x0 x1 x2 x3
  unfold aV
  dsimp only
  iterate 4 go_step
  have Z := OwnI.zeros w2 67
  refine ws67 rfl (.tmp 3) (.tmp 8) rfl _ rfl (clsV l0) _ rfl Z HC.out rfl ?_
  have C := Z.setAll HC.out
  have L3 := Below.setCells w2.heap.size L2.size (ic (clsV l0)) 0 _ (L2.alloc L2.size (.cells z16 67))
  clear Z L2
  generalize (w2.alloc (.cells z16 67)).setCells w2.heap.size 0 (ic (clsV l0)) = w3 at *
  go_wp2_with fail
  refine (clone_any (clsV l0) _ HC.out _ (by exact C)).mono ?_
  rintro e w4 ⟨ag, cg, rfl, G, hb⟩
  have L4 := L3.trans (hb.mono L3.size)
  have s0 := L3.size
  clear hb
  go_wp2
  go_ret
  rw [HE.out, HC.out]
  exact ⟨ag, cg, rfl, G.mono s0 (Nat.le_refl _), L4⟩
end Go.Proofs.Ytiolgbckichneaa
