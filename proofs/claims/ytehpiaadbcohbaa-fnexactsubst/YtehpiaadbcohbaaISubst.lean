/-
  The contract of impl.Subst.
-/
import Derived.Test.YtehpiaadbcohbaaVRow
namespace Go.Proofs.Ytehpiaadbcohbaa
open Go.RowKit

/-- What is known of the four slices when those ahead of kind k are done. -/
def Fil (L : Nat → List (Int × Int)) (lo : Nat) (w : World) (V : Nat → Value) (H : Nat → Nat) (k : Nat) : Prop :=
  lo ≤ H 0 ∧ H k ≤ w.heap.size ∧ (∀ j, j < k → H j ≤ H (j + 1)) ∧ (∀ j, j < k → ∃ a c, V j = .slice a (L j).length c ∧ RowIn w (H j) (H (j + 1)) a (L j).length (L j)) ∧ ∀ j, k ≤ j → j < 4 → V j = .slice none 0 0

theorem Fil.mono {L : Nat → List (Int × Int)} {lo : Nat} {w : World} {V : Nat → Value} {H : Nat → Nat} {k : Nat} (h : Fil L lo w V H k) : ∀ q, q ≤ k → ∀ j, j ≤ q → H j ≤ H q := by
  obtain ⟨_, _, h3, _, _⟩ := h
  intro q
  induction q with
  | zero =>
    intro _ j hj
    obtain rfl : j = 0 := by omega
    exact Nat.le_refl _
  | succ q ih =>
    intro hq j hj
    by_cases e : j = q + 1
    · subst e; exact Nat.le_refl _
    · exact Nat.le_trans (ih (by omega) j (by omega)) (h3 q (by omega))

theorem Fil.lo_le {L : Nat → List (Int × Int)} {lo : Nat} {w : World} {V : Nat → Value} {H : Nat → Nat} {k : Nat} (h : Fil L lo w V H k) : ∀ j, j ≤ k → lo ≤ H j := by
  intro j hj
  have h' : Fil L lo w V H k := h
  obtain ⟨h1, _, h3, _, _⟩ := h
  induction j with
  | zero => exact h1
  | succ j ih => exact Nat.le_trans (ih (by omega)) (h3 j (by omega))

/-- One kind more is done. -/
theorem Fil.step {L : Nat → List (Int × Int)} {lo b : Nat} {w w' : World} {V : Nat → Value} {H : Nat → Nat} {k : Nat} (h : Fil L lo w V H k) (hb : b < lo) (ho : Out b (b + 1) w w') {a : Option Addr} {c : Nat}
    (hr : RowIn w' w.heap.size w'.heap.size a (L k).length (L k)) : Fil L lo w' (fun j => if j = k then .slice a (L k).length c else V j) (fun j => if j ≤ k then H j else w'.heap.size) (k + 1) := by
  have hl := h.lo_le
  obtain ⟨h1, h2, h3, h4, h5⟩ := h
  have hs := ho.size
  refine ⟨by simpa using h1, ?_, fun j hj => ?_, fun j hj => ?_, fun j hj hj4 => ?_⟩
  · dsimp only; rw [if_neg (by omega)]; exact Nat.le_refl _
  · dsimp only
    by_cases e : j = k
    · subst e; rw [if_pos (Nat.le_refl _), if_neg (by omega)]; omega
    · rw [if_pos (by omega), if_pos (by omega)]; exact h3 j (by omega)
  · dsimp only
    by_cases e : j = k
    · subst e
      refine ⟨a, c, by rw [if_pos rfl], ?_⟩
      rw [if_pos (Nat.le_refl _), if_neg (by omega)]
      exact hr.mono h2 (Nat.le_refl _)
    · obtain ⟨a', c', e1, e2⟩ := h4 j (by omega)
      refine ⟨a', c', by rw [if_neg e, e1], ?_⟩
      rw [if_pos (by omega), if_pos (by omega)]
      exact e2.out ho (.inr (by have := hl j (by omega); omega))
  · dsimp only; rw [if_neg (by omega)]; exact h5 j (by omega) hj4

set_option maxHeartbeats 4000000 in
theorem iSubst_any (b0 b1 b2 b3 : Nat) (c0 c1 c2 c3 : Nat) (l0 l1 l2 l3 : List (Int × Int)) (t by' : Int) (w : World)
    (n0 : l0.length ≤ 1048576) (n1 : l1.length ≤ 1048576) (n2 : l2.length ≤ 1048576) (n3 : l3.length ≤ 1048576)
    (o0 : Own w b0 l0.length l0 l0.length) (o1 : Own w b1 l1.length l1 l1.length) (o2 : Own w b2 l2.length l2 l2.length) (o3 : Own w b3 l3.length l3 l3.length) :
    Calls Try.prog 22 #[.agg #[.slice (some ⟨b0, 0, none⟩) l0.length c0, .slice (some ⟨b1, 0, none⟩) l1.length c1, .slice (some ⟨b2, 0, none⟩) l2.length c2, .slice (some ⟨b3, 0, none⟩) l3.length c3], .int .i64 t, .int .i64 by'] w fun e w' => ∃ p0 p1 p2 p3 q0 q1 q2 q3 k1 k2 k3, e = .returned (.tuple #[.agg #[.slice p0 (okL (substB l0 l1 l2 l3 t by') (swapL t by' l0)).length q0, .slice p1 (okL (substB l0 l1 l2 l3 t by') (swapL t by' l1)).length q1, .slice p2 (okL (substB l0 l1 l2 l3 t by') (swapL t by' l2)).length q2, .slice p3 (okL (substB l0 l1 l2 l3 t by') (swapL t by' l3)).length q3], .bool (substB l0 l1 l2 l3 t by')]) ∧ w.heap.size ≤ k1 ∧ k1 ≤ k2 ∧ k2 ≤ k3 ∧ k3 ≤ w'.heap.size ∧ RowIn w' w.heap.size k1 p0 (okL (substB l0 l1 l2 l3 t by') (swapL t by' l0)).length (okL (substB l0 l1 l2 l3 t by') (swapL t by' l0)) ∧ RowIn w' k1 k2 p1 (okL (substB l0 l1 l2 l3 t by') (swapL t by' l1)).length (okL (substB l0 l1 l2 l3 t by') (swapL t by' l1)) ∧ RowIn w' k2 k3 p2 (okL (substB l0 l1 l2 l3 t by') (swapL t by' l2)).length (okL (substB l0 l1 l2 l3 t by') (swapL t by' l2)) ∧ RowIn w' k3 w'.heap.size p3 (okL (substB l0 l1 l2 l3 t by') (swapL t by' l3)).length (okL (substB l0 l1 l2 l3 t by') (swapL t by' l3)) ∧ Below w.heap.size w w' := by
  have B0 := (Box.new w (.slice (some ⟨b0, 0, none⟩) l0.length c0) (.slice (some ⟨b1, 0, none⟩) l1.length c1) (.slice (some ⟨b2, 0, none⟩) l2.length c2) (.slice (some ⟨b3, 0, none⟩) l3.length c3) 30).alloc (.cells #[.slice none 0 0, .slice none 0 0, .slice none 0 0, .slice none 0 0] 30)
  have R0 := Box.new (w.alloc (.cells #[.slice (some ⟨b0, 0, none⟩) l0.length c0, .slice (some ⟨b1, 0, none⟩) l1.length c1, .slice (some ⟨b2, 0, none⟩) l2.length c2, .slice (some ⟨b3, 0, none⟩) l3.length c3] 30)) (.slice none 0 0) (.slice none 0 0) (.slice none 0 0) (.slice none 0 0) 30
  have L : Below w.heap.size w ((w.alloc (.cells #[.slice (some ⟨b0, 0, none⟩) l0.length c0, .slice (some ⟨b1, 0, none⟩) l1.length c1, .slice (some ⟨b2, 0, none⟩) l2.length c2, .slice (some ⟨b3, 0, none⟩) l3.length c3] 30)).alloc (.cells #[.slice none 0 0, .slice none 0 0, .slice none 0 0, .slice none 0 0] 30)) := ((Below.refl _ _).alloc (Nat.le_refl _) _).alloc (by simp) _
  rw [World.size_alloc] at R0
  go_enter Try.func22, Try.ntmps22
  go_wp2_with fail
  refine (iAsnOk_any _ _ _ _ _ _ _ _ _ _ _ _ _ n0 n1 n2 n3 (by exact (o0.below L o0.1).row) (by exact (o1.below L o1.1).row) (by exact (o2.below L o2.1).row) (by exact (o3.below L o3.1).row)).mono ?_
  rintro e w1 ⟨rfl, hb⟩
  have B1 := B0.below hb B0.lt; have R1 := R0.below hb R0.lt; have L1 := L.trans (hb.mono L.size)
  replace o0 := o0.below L1 o0.1; replace o1 := o1.below L1 o1.1; replace o2 := o2.below L1 o2.1; replace o3 := o3.below L1 o3.1
  clear hb B0 R0 L
  have x0 := B1.c0; have x1 := B1.c1; have x2 := B1.c2; have x3 := B1.c3
  have j0 := R1.c0; have j1 := R1.c1; have j2 := R1.c2; have j3 := R1.c3
  have g0 := R1.f0; have g1 := R1.f1; have g2 := R1.f2; have g3 := R1.f3
  cases h : asnB l0 l1 l2 l3
  · clear x0 x1 x2 x3
    have HE : Hid (substB l0 l1 l2 l3 t by' = false) := by show substB l0 l1 l2 l3 t by' = false; unfold substB; rw [h]; rfl
    obtain ⟨F, FO⟩ := R1.fill (.slice none 0 0) (.slice none 0 0) (.slice none 0 0) (.slice none 0 0)
    have i0 := F.c0; have i1 := F.c1; have i2 := F.c2; have i3 := F.c3
    go_wp2
    refine bodyPost_ret (v := .tuple #[.agg #[.slice none 0 0, .slice none 0 0, .slice none 0 0, .slice none 0 0], .bool false]) ?_ rfl ⟨none, none, none, none, 0, 0, 0, 0, w.heap.size, w.heap.size, w.heap.size, by rw [HE.out]; rfl, Nat.le_refl _, Nat.le_refl _, Nat.le_refl _, ?_, ?_, ?_, ?_, ?_, ?_⟩
    · simp [results, Try.results22, go_sem, i0, i1, i2, i3]
    · exact Nat.le_trans L1.size (by have := FO.size; exact this)
    · rw [HE.out]; exact ⟨rfl, .inl rfl⟩
    · rw [HE.out]; exact ⟨rfl, .inl rfl⟩
    · rw [HE.out]; exact ⟨rfl, .inl rfl⟩
    · rw [HE.out]; exact ⟨rfl, .inl rfl⟩
    · exact L1.trans (FO.below (by omega) L1.size)
  go_wp2_with fail
  refine (iTermOk_any _ _).mono ?_
  rintro e wx ⟨rfl, rfl⟩
  cases ht : tok t
  · clear x0 x1 x2 x3
    have HE : Hid (substB l0 l1 l2 l3 t by' = false) := by show substB l0 l1 l2 l3 t by' = false; unfold substB; rw [h, ht]; rfl
    obtain ⟨F, FO⟩ := R1.fill (.slice none 0 0) (.slice none 0 0) (.slice none 0 0) (.slice none 0 0)
    have i0 := F.c0; have i1 := F.c1; have i2 := F.c2; have i3 := F.c3
    go_wp2
    refine bodyPost_ret (v := .tuple #[.agg #[.slice none 0 0, .slice none 0 0, .slice none 0 0, .slice none 0 0], .bool false]) ?_ rfl ⟨none, none, none, none, 0, 0, 0, 0, w.heap.size, w.heap.size, w.heap.size, by rw [HE.out]; rfl, Nat.le_refl _, Nat.le_refl _, Nat.le_refl _, ?_, ?_, ?_, ?_, ?_, ?_⟩
    · simp [results, Try.results22, go_sem, i0, i1, i2, i3]
    · exact Nat.le_trans L1.size (by have := FO.size; exact this)
    · rw [HE.out]; exact ⟨rfl, .inl rfl⟩
    · rw [HE.out]; exact ⟨rfl, .inl rfl⟩
    · rw [HE.out]; exact ⟨rfl, .inl rfl⟩
    · rw [HE.out]; exact ⟨rfl, .inl rfl⟩
    · exact L1.trans (FO.below (by omega) L1.size)
  go_wp2_with fail
  refine (iTermOk_any _ _).mono ?_
  rintro e wx ⟨rfl, rfl⟩
  cases hb : tok by'
  · clear x0 x1 x2 x3
    have HE : Hid (substB l0 l1 l2 l3 t by' = false) := by show substB l0 l1 l2 l3 t by' = false; unfold substB; rw [h, ht, hb]; rfl
    obtain ⟨F, FO⟩ := R1.fill (.slice none 0 0) (.slice none 0 0) (.slice none 0 0) (.slice none 0 0)
    have i0 := F.c0; have i1 := F.c1; have i2 := F.c2; have i3 := F.c3
    go_wp2
    refine bodyPost_ret (v := .tuple #[.agg #[.slice none 0 0, .slice none 0 0, .slice none 0 0, .slice none 0 0], .bool false]) ?_ rfl ⟨none, none, none, none, 0, 0, 0, 0, w.heap.size, w.heap.size, w.heap.size, by rw [HE.out]; rfl, Nat.le_refl _, Nat.le_refl _, Nat.le_refl _, ?_, ?_, ?_, ?_, ?_, ?_⟩
    · simp [results, Try.results22, go_sem, i0, i1, i2, i3]
    · exact Nat.le_trans L1.size (by have := FO.size; exact this)
    · rw [HE.out]; exact ⟨rfl, .inl rfl⟩
    · rw [HE.out]; exact ⟨rfl, .inl rfl⟩
    · rw [HE.out]; exact ⟨rfl, .inl rfl⟩
    · rw [HE.out]; exact ⟨rfl, .inl rfl⟩
    · exact L1.trans (FO.below (by omega) L1.size)
  cases hz : (t == 0)
  rotate_left
  · clear x0 x1 x2 x3
    have HE : Hid (substB l0 l1 l2 l3 t by' = false) := by show substB l0 l1 l2 l3 t by' = false; unfold substB; rw [h, ht, hb, hz]; rfl
    obtain ⟨F, FO⟩ := R1.fill (.slice none 0 0) (.slice none 0 0) (.slice none 0 0) (.slice none 0 0)
    have i0 := F.c0; have i1 := F.c1; have i2 := F.c2; have i3 := F.c3
    go_wp2
    refine bodyPost_ret (v := .tuple #[.agg #[.slice none 0 0, .slice none 0 0, .slice none 0 0, .slice none 0 0], .bool false]) ?_ rfl ⟨none, none, none, none, 0, 0, 0, 0, w.heap.size, w.heap.size, w.heap.size, by rw [HE.out]; rfl, Nat.le_refl _, Nat.le_refl _, Nat.le_refl _, ?_, ?_, ?_, ?_, ?_, ?_⟩
    · simp [results, Try.results22, go_sem, i0, i1, i2, i3]
    · exact Nat.le_trans L1.size (by have := FO.size; exact this)
    · rw [HE.out]; exact ⟨rfl, .inl rfl⟩
    · rw [HE.out]; exact ⟨rfl, .inl rfl⟩
    · rw [HE.out]; exact ⟨rfl, .inl rfl⟩
    · rw [HE.out]; exact ⟨rfl, .inl rfl⟩
    · exact L1.trans (FO.below (by omega) L1.size)
  have HE : Hid (substB l0 l1 l2 l3 t by' = true) := by show substB l0 l1 l2 l3 t by' = true; unfold substB; rw [h, ht, hb, hz]; rfl
  clear h ht hb j0 j1 j2 j3 g0 g1 g2 g3
  have z1 := B1.lt
  have KB : Hid (∀ k : Int, kindB b0 b1 b2 b3 k < wx.heap.size) := fun k => kindB_lt o0.1 o1.1 o2.1 o3.1 k
  have V1 := VRow.new wx (.slice none 0 0) (.slice none 0 0) (.slice none 0 0) (.slice none 0 0) 53 (fun _ => .slice none 0 0) rfl rfl rfl rfl
  replace o0 := o0.alloc (.cells #[.slice none 0 0, .slice none 0 0, .slice none 0 0, .slice none 0 0] 53); replace o1 := o1.alloc (.cells #[.slice none 0 0, .slice none 0 0, .slice none 0 0, .slice none 0 0] 53); replace o2 := o2.alloc (.cells #[.slice none 0 0, .slice none 0 0, .slice none 0 0, .slice none 0 0] 53); replace o3 := o3.alloc (.cells #[.slice none 0 0, .slice none 0 0, .slice none 0 0, .slice none 0 0] 53)
  have L2 := L1.alloc L1.size (.cells #[.slice none 0 0, .slice none 0 0, .slice none 0 0, .slice none 0 0] 53)
  have R2 := R1.alloc (.cells #[.slice none 0 0, .slice none 0 0, .slice none 0 0, .slice none 0 0] 53)
  have zR := R1.lt
  go_wp2_with fail
  refine (listsOf_any _ _ _ _ _ ⟨_, _, _, rfl⟩ ⟨_, _, _, rfl⟩ ⟨_, _, _, rfl⟩ ⟨_, _, _, rfl⟩).mono ?_
  rintro e w2 ⟨rfl, hb⟩
  replace o0 := o0.below hb o0.1; replace o1 := o1.below hb o1.1; replace o2 := o2.below hb o2.1; replace o3 := o3.below hb o3.1
  have L3 := L2.trans (hb.mono L2.size)
  have R3 := R2.below hb R2.lt
  have V3 := V1.below hb V1.1
  have zO := V3.1
  have KO : Hid (∀ k : Int, Own w2 (kindB b0 b1 b2 b3 k) (kindL l0 l1 l2 l3 k).length (kindL l0 l1 l2 l3 k) (kindL l0 l1 l2 l3 k).length ∧ kindB b0 b1 b2 b3 k < wx.heap.size) := fun k => ⟨kind_own o0 o1 o2 o3 k, KB.out k⟩
  have KN : Hid (∀ k : Int, (kindL l0 l1 l2 l3 k).length ≤ 1048576) := fun k => kind_le n0 n1 n2 n3 k
  have KI : Hid (∀ k : Nat, k < 4 → ∀ w : World, (Instr.index 53 (.agg #[.slice (some ⟨b0, 0, none⟩) l0.length c0, .slice (some ⟨b1, 0, none⟩) l1.length c1, .slice (some ⟨b2, 0, none⟩) l2.length c2, .slice (some ⟨b3, 0, none⟩) l3.length c3]) (.int .i64 k)).run Try.prog w = .ok (.slice (some ⟨kindB b0 b1 b2 b3 k, 0, none⟩) (kindL l0 l1 l2 l3 k).length (kindB c0 c1 c2 c3 k)) w) := fun k hk w => idxK b0 b1 b2 b3 c0 c1 c2 c3 l0 l1 l2 l3 k hk w
  clear KB hb o0 o1 o2 o3 L1 L2 V1 R1 R2 B1 x0 x1 x2 x3 hz n0 n1 n2 n3
  obtain ⟨i0, hi, hz0, hz1, hz2⟩ := Try.i57
  generalize wx.heap.size = O at *
  go_wp2
  go_loopw [33] (fun i wr => ∃ k : Nat, k ≤ 4 ∧ i = .int .i64 k ∧ ∃ V H, VRow wr O V ∧ Fil (fun j => swapL t by' (kindL l0 l1 l2 l3 j)) w2.heap.size wr V H k ∧ Out O (O + 1) w2 wr) (fun i _ => 4 - (intOf i).toNat)
  case atStart => exact ⟨0, Nat.zero_le _, rfl, _, fun _ => w2.heap.size, V3, ⟨Nat.le_refl _, Nat.le_refl _, fun j hj => by omega, fun j hj => by omega, fun _ _ _ => rfl⟩, Out.refl _ _ _⟩
  case round =>
    obtain ⟨k, hk, rfl, V, H, hV, hF, hO⟩ := hrel
    by_cases hlt : k < 4
    · have hix := KI.out k hlt
      obtain ⟨ho, hbO⟩ := KO.out k
      have hn := KN.out k
      have HFs := fun (w' : World) (a : Option Addr) (c : Nat) (h1 : Out O (O + 1) wr w') (h2 : RowIn w' wr.heap.size w'.heap.size a (swapL t by' (kindL l0 l1 l2 l3 k)).length (swapL t by' (kindL l0 l1 l2 l3 k))) => Fil.step (c := c) hF zO h1 h2
      have HFS : Hid (∀ (w' : World) (a : Option Addr) (c : Nat), Out O (O + 1) wr w' → RowIn w' wr.heap.size w'.heap.size a (swapL t by' (kindL l0 l1 l2 l3 k)).length (swapL t by' (kindL l0 l1 l2 l3 k)) → ∃ H', Fil (fun j => swapL t by' (kindL l0 l1 l2 l3 j)) w2.heap.size w' (fun j => if j = k then .slice a (swapL t by' (kindL l0 l1 l2 l3 k)).length c else V j) H' (k + 1)) := fun w' a c h1 h2 => ⟨_, HFs w' a c h1 h2⟩
      have hVk : V k = .slice none 0 0 := hF.2.2.2.2 k (Nat.le_refl _) hlt
      clear HFs hF
      generalize kindL l0 l1 l2 l3 k = l at *
      generalize kindB b0 b1 b2 b3 k = b at *
      generalize kindB c0 c1 c2 c3 k = cc at *
      have HL : Hid (∀ m, m < l.length → swapL t by' (l.take (m + 1)) = swapL t by' (l.take m) ++ [(sw t by' (l[m]?.getD (0, 0)).1, sw t by' (l[m]?.getD (0, 0)).2)]) := fun m hm => swapL_step t by' hm
      have HEnd : Hid (swapL t by' (l.take l.length) = swapL t by' l) := by show swapL t by' (l.take l.length) = _; rw [List.take_of_length_le (Nat.le_refl _)]
      have HLen : Hid ((swapL t by' l).length = l.length) := swapL_length t by' l
      generalize hN : l.length = n at *
      have hS : O < wr.heap.size := hV.1
      have HVk : Hid (V k = .slice none 0 0) := hVk
      clear hN hVk
      obtain ⟨W0, rfl⟩ : ∃ W0 : World, W0 = wr := ⟨wr, rfl⟩
      have hk4 : (k : Int) < 4 := by omega
      have hkd : decide ((k : Int) < 4) = true := by simp; omega
      go_wp2
      go_loopw [39] (fun i wr => ∃ m : Nat, m ≤ n ∧ i = .int .i64 m ∧ ∃ v, VRow wr O (fun j => if j = k then v else V j) ∧ wr.ownsRow W0.heap.size 57 2 v m (pc (swapL t by' (l.take m))) ∧ Out O (O + 1) W0 wr) (fun i _ => n - (intOf i).toNat)
      case atStart => exact ⟨0, Nat.zero_le _, rfl, .slice none 0 0, hV.congr (fun j _ => by by_cases e : j = k <;> simp [e, HVk.out]), World.ownsRow_nil _ _ _ _, Out.refl _ _ _⟩
      case round =>
        obtain ⟨m, hm, rfl, v, hV2, hown, hO2⟩ := hrel
        by_cases hlt2 : m < n
        · have hc := (ho.out (hO.trans hO2) (.inl hbO)).2.2 m hlt2
          have hx := hc.1
          have hy := hc.2
          have hst := HL.out m hlt2
          rw [List.getD_eq_getElem?_getD] at hx hy
          generalize (l[m]?.getD (0, 0)).1 = x at hx hst
          generalize (l[m]?.getD (0, 0)).2 = y at hy hst
          have HS : Hid (swapL t by' (l.take (m + 1)) = swapL t by' (l.take m) ++ [(sw t by' x, sw t by' y)]) := hst
          clear hst hc
          generalize swapL t by' (l.take m) = ls at *
          have hS2 : O < wr.heap.size := hV2.1
          have hcO : wr.cell? ⟨O, k, none⟩ = some v := by have h := (hV2.2 k hlt).1; simpa using h
          have hkO : ∀ q, v.ownBlock = some q → W0.heap.size ≤ q := fun q hq => (hown.lt q hq).1
          have hOne : some O ≠ v.ownBlock := fun e => by have := hkO O e.symm; omega
          have HKO : Hid (∀ q, v.ownBlock = some q → W0.heap.size ≤ q) := hkO
          have HNE : Hid (some O ≠ v.ownBlock) := hOne
          have hSz := hO2.size
          have hV3 : VRow (((wr.alloc (.cells #[.int .i64 x, .int .i64 y] 57)).alloc (.cells #[.int .i64 (sw t by' x), .int .i64 (sw t by' y)] 57)).drew) O (fun j => if j = k then v else V j) := (hV2.below ((Below.refl _ _).alloc (Nat.le_refl _) _) hV2.1).below (((Below.refl _ _).alloc (Nat.le_refl _) _).drew) (Nat.lt_of_lt_of_le hV2.1 (by simp))
          have hO3 : Out O (O + 1) W0 (((wr.alloc (.cells #[.int .i64 x, .int .i64 y] 57)).alloc (.cells #[.int .i64 (sw t by' x), .int .i64 (sw t by' y)] 57)).drew) := hO2.trans (Out.ofBelow (((Below.refl _ _).alloc (Nat.le_refl _) _).alloc (by simp) _).drew)
          have hnw := news2 wr (.cells #[.int .i64 x, .int .i64 y] 57) (sw t by' x) (sw t by' y) 57
          have HV3 := (show Hid (VRow (((wr.alloc (.cells #[.int .i64 x, .int .i64 y] 57)).alloc (.cells #[.int .i64 (sw t by' x), .int .i64 (sw t by' y)] 57)).drew) O (fun j => if j = k then v else V j)) from hV3)
          have HNW := (show Hid (∀ j u, (pc [(sw t by' x, sw t by' y)])[j]? = some u → (((wr.alloc (.cells #[.int .i64 x, .int .i64 y] 57)).alloc (.cells #[.int .i64 (sw t by' x), .int .i64 (sw t by' y)] 57)).drew).cell? ((⟨wr.heap.size + 1, 0, none⟩ : Addr).add j) = some u) from hnw)
          clear hV3 hV2 hO2 hkO hOne hnw
          go_wp2
          go_region_law (first
            | (refine step_append_lies _ (by rfl) _ _ 28 (by rfl) W0.heap.size 57 i0 (.agg #[.int .i64 0, .int .i64 0]) 2 16 Try.underlying28 hi hz0 hz1 hz2 rfl (by decide) v m (pc ls) (by rfl) ((hown.alloc _).alloc _) ⟨wr.heap.size + 1, 0, none⟩ 1 1 (pc [(sw t by' x, sw t by' y)]) (by rfl) rfl HNW.out pc_one (by omega) (by unfold maxLen; omega) (by omega) (by simp; omega) (wr.heap.size + 1 + 1) (by simp) ?_; intro g cap w4 hown' hg hat hlt'; have hV4 := HV3.out.grown hg HNE.out; have cO : w4.cell? ⟨O, k, none⟩ = some v := (by have h := (hV4.2 k hlt).1; simpa using h); have fO := (hV4.2 k hlt).2)
            | (go_simp; go_at_call 53; refine (replaced_any _ _ _ _).mono ?_; rintro e u ⟨rfl, rfl⟩))
          all_goals
            have hV5 := hV4.put k (.slice (some ⟨g, 0, none⟩) (m + 1) cap)
            have hO5 := (hO3.grown hg HKO.out).trans (Out.set O k w4 (.slice (some ⟨g, 0, none⟩) (m + 1) cap))
            have hown5 := ownsRow_setCell_below hown' (a := ⟨O, k, none⟩) hS (.slice (some ⟨g, 0, none⟩) (m + 1) cap)
            rw [← pc_append] at hown5
            clear hV4 hO3 hg hown' hat hlt' hown hcO
            go_wp2
            go_roundw
            case rel => exact ⟨m + 1, by omega, by go_num, .slice (some ⟨g, 0, none⟩) (m + 1) cap, hV5.congr (fun j _ => by by_cases e : j = k <;> simp [e]), by rw [HS.out]; exact hown5, hO5⟩
            case measure => simp [intOf]; omega
        · obtain rfl : m = n := by omega
          rw [HEnd.out] at hown
          obtain ⟨a, c, rfl, hr⟩ := RowIn.ofOwns hown
          obtain ⟨H', hF'⟩ := HFS.out wr a c hO2 (by rw [HLen.out]; exact hr)
          rw [HLen.out] at hF'
          have HF' := (show Hid (Fil (fun j => swapL t by' (kindL l0 l1 l2 l3 j)) w2.heap.size wr (fun j => if j = k then .slice a m c else V j) H' (k + 1)) from hF')
          clear hF' hown hr
          go_wp2
          first
            | (go_roundw
               case rel => exact ⟨k + 1, by omega, by go_num, _, H', hV2, HF'.out, hO.trans hO2⟩
               case measure => simp [intOf]; omega)
            | ((repeat apply Exists.intro); exact ⟨⟨k + 1, by omega, by go_num, _, H', hV2, HF'.out, hO.trans hO2⟩, rfl⟩)
    · obtain rfl : k = 4 := by omega
      have hmn := hF.mono
      have hlo := hF.lo_le 0 (by omega)
      obtain ⟨_, hH4, hH, hFd, _⟩ := hF
      obtain ⟨a0, d0, e0, t0⟩ := hFd 0 (by omega)
      obtain ⟨a1, d1, e1, t1⟩ := hFd 1 (by omega)
      obtain ⟨a2, d2, e2, t2⟩ := hFd 2 (by omega)
      obtain ⟨a3, d3, e3, t3⟩ := hFd 3 (by omega)
      have m0 := hH 0 (by omega); have m1 := hH 1 (by omega); have m2 := hH 2 (by omega); have m3 := hH 3 (by omega)
      have y0 := (hV.2 0 (by omega)).1; have y1 := (hV.2 1 (by omega)).1; have y2 := (hV.2 2 (by omega)).1; have y3 := (hV.2 3 (by omega)).1
      rw [e0] at y0; rw [e1] at y1; rw [e2] at y2; rw [e3] at y3
      have R4 := R3.out hO (.inl zR)
      have L4 := L3.trans (hO.below (by omega) L3.size)
      clear hFd hH hmn e0 e1 e2 e3
      simp only [Nat.reduceAdd] at t0 t1 t2 t3 m0 m1 m2 m3 hH4
      generalize H 0 = H0 at *; generalize H 1 = H1 at *; generalize H 2 = H2 at *; generalize H 3 = H3 at *; generalize H 4 = H4 at *
      have s0 : kindL l0 l1 l2 l3 ((0 : Nat) : Int) = l0 := rfl
      have s1 : kindL l0 l1 l2 l3 ((1 : Nat) : Int) = l1 := rfl
      have s2 : kindL l0 l1 l2 l3 ((2 : Nat) : Int) = l2 := rfl
      have s3 : kindL l0 l1 l2 l3 ((3 : Nat) : Int) = l3 := rfl
      dsimp only at t0 t1 t2 t3 y0 y1 y2 y3
      rw [s0] at t0 y0; rw [s1] at t1 y1; rw [s2] at t2 y2; rw [s3] at t3 y3
      clear s0 s1 s2 s3
      go_wp2_with fail
      refine (asnOf_any _ _ _ _ _ _ _ _ _ _ _ _ _).mono ?_
      rintro e w5 ⟨rfl, hb⟩
      have R5 := R4.below hb R4.lt
      have L5 := L4.trans (hb.mono L4.size)
      have zz := hb.size
      replace t0 := t0.below hb (by omega); replace t1 := t1.below hb (by omega); replace t2 := t2.below hb (by omega); replace t3 := t3.below hb (by omega)
      have zM := hO.size
      clear hb R4 L4 y0 y1 y2 y3 hV
      obtain ⟨F, FO⟩ := R5.fill (.slice a0 (swapL t by' l0).length d0) (.slice a1 (swapL t by' l1).length d1) (.slice a2 (swapL t by' l2).length d2) (.slice a3 (swapL t by' l3).length d3)
      have j0 := R5.c0; have j1 := R5.c1; have j2 := R5.c2; have j3 := R5.c3
      have g0 := R5.f0; have g1 := R5.f1; have g2 := R5.f2; have g3 := R5.f3
      go_wp2
      have i0 := F.c0; have i1 := F.c1; have i2 := F.c2; have i3 := F.c3
      have fz := FO.size
      refine bodyPost_ret (v := .tuple #[.agg #[.slice a0 (swapL t by' l0).length d0, .slice a1 (swapL t by' l1).length d1, .slice a2 (swapL t by' l2).length d2, .slice a3 (swapL t by' l3).length d3], .bool true]) ?_ rfl ⟨a0, a1, a2, a3, d0, d1, d2, d3, H1, H2, H3, by rw [HE.out]; rfl, ?_, m1, m2, ?_, ?_, ?_, ?_, ?_, ?_⟩
      · simp [results, Try.results22, go_sem, i0, i1, i2, i3]
      · have := L3.size; omega
      · omega
      · rw [HE.out]; exact (t0.out FO (by omega)).mono (by have := L3.size; omega) (Nat.le_refl _)
      · rw [HE.out]; exact t1.out FO (by omega)
      · rw [HE.out]; exact t2.out FO (by omega)
      · rw [HE.out]; exact (t3.out FO (by omega)).mono (Nat.le_refl _) (by omega)
      · exact L5.trans (FO.below (by omega) L5.size)


end Go.Proofs.Ytehpiaadbcohbaa
