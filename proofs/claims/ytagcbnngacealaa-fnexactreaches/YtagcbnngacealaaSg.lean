/-
  The contracts of spec.SegOf, impl.SegOf, spec.Reaches and impl.Reaches.
-/
import Derived.Test.YtagcbnngacealaaSegS
namespace Go.Proofs.Ytagcbnngacealaa
open Go.RowKit Go.Maps

def segO (t h : List Int) (x to : Int) : Option (List Int) := if sOk t h = true ∧ pOk x = true ∧ pOk to = true then seg h 7 x to else none
theorem segO_len (t h : List Int) (x to : Int) : ((segO t h x to).getD []).length ≤ 7 := by
  unfold segO
  split
  · exact segL_len h x to
  · simp

set_option maxHeartbeats 1000000 in
theorem sSegOf_any (b0 b1 c0 c1 : Nat) (t h : List Int) (x to : Int) (w : World) (n0 : t.length ≤ 1048576) (n1 : h.length ≤ 1048576) (o0 : OwnI w b0 t.length t t.length) (o1 : OwnI w b1 h.length h h.length) :
    Calls Try.prog 40 #[.agg #[.slice (some ⟨b0, 0, none⟩) t.length c0, .slice (some ⟨b1, 0, none⟩) h.length c1], .int .i64 x, .int .i64 to] w fun e w' => ∃ a c, e = .returned (.tuple #[.slice a ((segO t h x to).getD []).length c, .bool (segO t h x to).isSome]) ∧ IntIn w' w.heap.size w'.heap.size a ((segO t h x to).getD []).length ((segO t h x to).getD []) ∧ Below w.heap.size w w' := by
  have B0 := Box.new w (.slice (some ⟨b0, 0, none⟩) t.length c0) (.slice (some ⟨b1, 0, none⟩) h.length c1) 44
  have L0 : Below w.heap.size w (w.alloc (.cells #[.slice (some ⟨b0, 0, none⟩) t.length c0, .slice (some ⟨b1, 0, none⟩) h.length c1] 44)) := (Below.refl _ _).alloc (Nat.le_refl _) _
  have hc := sStateOk_any b0 b1 c0 c1 t h _ n0 n1 (by exact o0.alloc (.cells #[.slice (some ⟨b0, 0, none⟩) t.length c0, .slice (some ⟨b1, 0, none⟩) h.length c1] 44)) (by exact o1.alloc _)
  replace o0 := o0.alloc (.cells #[.slice (some ⟨b0, 0, none⟩) t.length c0, .slice (some ⟨b1, 0, none⟩) h.length c1] 44)
  replace o1 := o1.alloc (.cells #[.slice (some ⟨b0, 0, none⟩) t.length c0, .slice (some ⟨b1, 0, none⟩) h.length c1] 44)
  go_enter Try.func40, Try.ntmps40
  go_wp2_with fail
  refine hc.mono ?_
  rintro e w1 ⟨rfl, hb⟩
  have B1 := B0.keep hb; have L1 := L0.trans (hb.mono L0.size)
  replace o0 := o0.keep hb
  replace o1 := o1.keep hb
  clear hc hb B0 L0
  have z0 := B1.c0; have z1 := B1.c1
  cases hs : sOk t h
  · have HN : Hid (segO t h x to = none) := if_neg (by rw [hs]; simp)
    go_wp2
    go_ret2
    rw [HN.out]
    exact ⟨none, 0, rfl, ⟨rfl, .inl rfl⟩, L1⟩
  · obtain ⟨-, e7, e0, hr⟩ := sOk_true hs
    have HR : Hid (∀ i, i < 7 → -1 ≤ h.getD i 0 ∧ h.getD i 0 ≤ 6) := hr
    have E7 : Hid (h.length = 7) := e7
    clear hr e0 e7
    by_cases q1 : x < 0
    · have HN : Hid (segO t h x to = none) := if_neg (by simp [pOk]; omega)
      go_wp2
      go_ret2
      rw [HN.out]
      exact ⟨none, 0, rfl, ⟨rfl, .inl rfl⟩, L1⟩
    by_cases q2 : x > 6
    · have HN : Hid (segO t h x to = none) := if_neg (by simp [pOk]; omega)
      go_wp2
      go_ret2
      rw [HN.out]
      exact ⟨none, 0, rfl, ⟨rfl, .inl rfl⟩, L1⟩
    by_cases q3 : to < 0
    · have HN : Hid (segO t h x to = none) := if_neg (by simp [pOk]; omega)
      go_wp2
      go_ret2
      rw [HN.out]
      exact ⟨none, 0, rfl, ⟨rfl, .inl rfl⟩, L1⟩
    by_cases q4 : to > 6
    · have HN : Hid (segO t h x to = none) := if_neg (by simp [pOk]; omega)
      go_wp2
      go_ret2
      rw [HN.out]
      exact ⟨none, 0, rfl, ⟨rfl, .inl rfl⟩, L1⟩
    have HN : Hid (segO t h x to = seg h 7 x to) := if_pos (by simp [pOk, hs]; omega)
    have hc := l2seg_any b1 c1 h x to w1 E7.out (by omega) HR o1
    go_wp2_with fail
    refine hc.mono ?_
    rintro e w2 ⟨a, c, rfl, hin, hb⟩
    have L2 := L1.trans (hb.mono L1.size)
    clear hc hb
    go_wp2
    go_ret2
    rw [HN.out]
    exact ⟨a, c, rfl, hin.mono L1.size (Nat.le_refl _), L2⟩

set_option maxHeartbeats 1000000 in
theorem iSegOf_any (b0 b1 c0 c1 : Nat) (t h : List Int) (x to : Int) (w : World) (wx : (Lit.int .i64 x).wf = true) (n0 : t.length ≤ 1048576) (n1 : h.length ≤ 1048576) (o0 : OwnI w b0 t.length t t.length) (o1 : OwnI w b1 h.length h h.length) :
    Calls Try.prog 41 #[.agg #[.slice (some ⟨b0, 0, none⟩) t.length c0, .slice (some ⟨b1, 0, none⟩) h.length c1], .int .i64 x, .int .i64 to] w fun e w' => ∃ a c, e = .returned (.tuple #[.slice a ((segO t h x to).getD []).length c, .bool (segO t h x to).isSome]) ∧ IntIn w' w.heap.size w'.heap.size a ((segO t h x to).getD []).length ((segO t h x to).getD []) ∧ Below w.heap.size w w' := by
  have B0 := Box.new w (.slice (some ⟨b0, 0, none⟩) t.length c0) (.slice (some ⟨b1, 0, none⟩) h.length c1) 44
  have L0 : Below w.heap.size w (w.alloc (.cells #[.slice (some ⟨b0, 0, none⟩) t.length c0, .slice (some ⟨b1, 0, none⟩) h.length c1] 44)) := (Below.refl _ _).alloc (Nat.le_refl _) _
  have hc := iStateOk_any b0 b1 c0 c1 t h _ n0 n1 (by exact o0.alloc (.cells #[.slice (some ⟨b0, 0, none⟩) t.length c0, .slice (some ⟨b1, 0, none⟩) h.length c1] 44)) (by exact o1.alloc _)
  replace o0 := o0.alloc (.cells #[.slice (some ⟨b0, 0, none⟩) t.length c0, .slice (some ⟨b1, 0, none⟩) h.length c1] 44)
  replace o1 := o1.alloc (.cells #[.slice (some ⟨b0, 0, none⟩) t.length c0, .slice (some ⟨b1, 0, none⟩) h.length c1] 44)
  go_enter Try.func41, Try.ntmps41
  go_wp2_with fail
  refine hc.mono ?_
  rintro e w1 ⟨rfl, hb⟩
  have B1 := B0.keep hb; have L1 := L0.trans (hb.mono L0.size)
  replace o0 := o0.keep hb
  replace o1 := o1.keep hb
  clear hc hb B0 L0
  have z0 := B1.c0; have z1 := B1.c1
  cases hs : sOk t h
  · have HN : Hid (segO t h x to = none) := if_neg (by rw [hs]; simp)
    go_wp2
    go_ret2
    rw [HN.out]
    exact ⟨none, 0, rfl, ⟨rfl, .inl rfl⟩, L1⟩
  · obtain ⟨-, e7, e0, hr⟩ := sOk_true hs
    have HR : Hid (∀ i, i < 7 → -1 ≤ h.getD i 0 ∧ h.getD i 0 ≤ 6) := hr
    have E7 : Hid (h.length = 7) := e7
    have E0 : Hid (h.getD 0 0 = -1) := e0
    clear hr e0 e7
    have p1 := placeOk_any x w1
    have p2 := placeOk_any to w1
    cases q1 : pOk x
    · have HN : Hid (segO t h x to = none) := if_neg (by simp [q1])
      rw [q1] at p1
      go_wp2_with fail
      refine p1.mono ?_
      rintro e wz ⟨rfl, rfl⟩
      go_wp2
      go_ret2
      rw [HN.out]
      exact ⟨none, 0, rfl, ⟨rfl, .inl rfl⟩, L1⟩
    cases q2 : pOk to
    · have HN : Hid (segO t h x to = none) := if_neg (by simp [q2])
      rw [q1] at p1
      rw [q2] at p2
      go_wp2_with fail
      refine p1.mono ?_
      rintro e wz ⟨rfl, rfl⟩
      go_wp2_with fail
      refine p2.mono ?_
      rintro e wz ⟨rfl, rfl⟩
      go_wp2
      go_ret2
      rw [HN.out]
      exact ⟨none, 0, rfl, ⟨rfl, .inl rfl⟩, L1⟩
    have HN : Hid (segO t h x to = if (trl h to 7 [] x).2 = to then some (trl h to 7 [] x).1 else none) := by
      show segO t h x to = _
      rw [← seg_is E0.out]
      exact if_pos ⟨hs, q1, q2⟩
    rw [q1] at p1
    rw [q2] at p2
    have h2 := heapOf_any b1 c1 h w1 n1 (sOk_heap hs) (by exact o1)
    clear q1 q2 hs
    go_wp2_with fail
    refine p1.mono ?_
    rintro e wz ⟨rfl, rfl⟩
    go_wp2_with fail
    refine p2.mono ?_
    rintro e wz ⟨rfl, rfl⟩
    go_wp2_with fail
    refine h2.mono ?_
    rintro e w2 ⟨rfl, hm, hb⟩
    have L2 := L1.trans (hb.mono L1.size)
    rw [E7.out] at hm
    have h3 := trail_any _ h x to w2 wx E0.out HR hm
    clear p1 p2 h2 hb B1 z0 z1 L1 o0 o1 hm
    go_wp2_with fail
    refine h3.mono ?_
    rintro e w3 ⟨a, c, rfl, hin, hb⟩
    have L3 := L2.trans (hb.mono L2.size)
    replace hin := hin.mono L2.size (Nat.le_refl _)
    clear h3 hb L2
    generalize trl h to 7 [] x = T at *
    by_cases q3 : T.2 = to
    · rw [if_pos q3] at HN
      go_wp2
      go_ret2
      rw [HN.out]
      exact ⟨a, c, rfl, hin, L3⟩
    · rw [if_neg q3] at HN
      go_wp2
      go_ret2
      rw [HN.out]
      exact ⟨none, 0, rfl, ⟨rfl, .inl rfl⟩, L3⟩

set_option maxHeartbeats 1000000 in
theorem sReaches_any (b0 b1 c0 c1 : Nat) (t h : List Int) (x to : Int) (w : World) (n0 : t.length ≤ 1048576) (n1 : h.length ≤ 1048576) (o0 : OwnI w b0 t.length t t.length) (o1 : OwnI w b1 h.length h h.length) :
    Calls Try.prog 54 #[.agg #[.slice (some ⟨b0, 0, none⟩) t.length c0, .slice (some ⟨b1, 0, none⟩) h.length c1], .int .i64 x, .int .i64 to] w fun e w' => e = .returned (.bool (segO t h x to).isSome) ∧ Below w.heap.size w w' := by
  have L0 : Below w.heap.size w (w.alloc (.cells #[.slice (some ⟨b0, 0, none⟩) t.length c0, .slice (some ⟨b1, 0, none⟩) h.length c1] 44)) := (Below.refl _ _).alloc (Nat.le_refl _) _
  have hc := sSegOf_any b0 b1 c0 c1 t h x to _ n0 n1 (by exact o0.alloc (.cells #[.slice (some ⟨b0, 0, none⟩) t.length c0, .slice (some ⟨b1, 0, none⟩) h.length c1] 44)) (by exact o1.alloc _)
  go_enter Try.func54, Try.ntmps54
  go_wp2_with fail
  refine hc.mono ?_
  rintro e w1 ⟨a, c, rfl, -, hb⟩
  have L1 := L0.trans (hb.mono L0.size)
  go_wp2
  go_ret
  exact ⟨rfl, L1⟩

set_option maxHeartbeats 1000000 in
theorem iReaches_any (b0 b1 c0 c1 : Nat) (t h : List Int) (x to : Int) (w : World) (wx : (Lit.int .i64 x).wf = true) (n0 : t.length ≤ 1048576) (n1 : h.length ≤ 1048576) (o0 : OwnI w b0 t.length t t.length) (o1 : OwnI w b1 h.length h h.length) :
    Calls Try.prog 55 #[.agg #[.slice (some ⟨b0, 0, none⟩) t.length c0, .slice (some ⟨b1, 0, none⟩) h.length c1], .int .i64 x, .int .i64 to] w fun e w' => e = .returned (.bool (segO t h x to).isSome) ∧ Below w.heap.size w w' := by
  have L0 : Below w.heap.size w (w.alloc (.cells #[.slice (some ⟨b0, 0, none⟩) t.length c0, .slice (some ⟨b1, 0, none⟩) h.length c1] 44)) := (Below.refl _ _).alloc (Nat.le_refl _) _
  have hc := iSegOf_any b0 b1 c0 c1 t h x to _ wx n0 n1 (by exact o0.alloc (.cells #[.slice (some ⟨b0, 0, none⟩) t.length c0, .slice (some ⟨b1, 0, none⟩) h.length c1] 44)) (by exact o1.alloc _)
  go_enter Try.func55, Try.ntmps55
  go_wp2_with fail
  refine hc.mono ?_
  rintro e w1 ⟨a, c, rfl, -, hb⟩
  have L1 := L0.trans (hb.mono L0.size)
  go_wp2
  go_ret
  exact ⟨rfl, L1⟩

end Go.Proofs.Ytagcbnngacealaa
