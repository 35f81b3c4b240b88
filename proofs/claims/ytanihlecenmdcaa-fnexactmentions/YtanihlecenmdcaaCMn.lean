/-
  The contract of impl.Mentions.
-/
import Derived.Test.YtanihlecenmdcaaCMs
import Derived.Test.YtanihlecenmdcaaCTe
import Derived.Deep.RegionHeld3
import Derived.Deep.AppendLies
import Derived.Deep.DeepCutAuto
namespace Go.Proofs.Ytanihlecenmdcaa
open Go.RowKit Go.Maps

def mnN (fl : List Cm) (k : Nat) (x : Int) : Bool := decide (1 ≤ x ∧ x ≤ 5) && (fl.take k).any fun c => mnB c x.toNat
def mnL (c : Cm) : List Int := termsF (usedV c.l0 c.l1 c.l2 c.l3) 16 ++ [c.x, c.y]
def mnK (fl : List Cm) (k : Nat) (L : List Int) (m : Nat) (x : Int) : Bool := mnN fl k x || (L.take m).any fun t => isVar t && decide (x = t)
theorem mnK_zero (fl : List Cm) (k : Nat) (L : List Int) : mnK fl k L 0 = mnN fl k := by funext x; simp [mnK]
theorem mnK_succ {fl : List Cm} {k : Nat} {L : List Int} {m : Nat} (hm : m < L.length) : mnK fl k L (m + 1) = fun x => mnK fl k L m x || (isVar (L.getD m 0) && decide (x = L.getD m 0)) := by
  funext x
  unfold mnK
  rw [List.take_succ_eq_append_getElem hm, List.getD_eq_getElem?_getD, List.getElem?_eq_getElem hm]
  simp only [List.any_append, List.any_cons, List.any_nil, Bool.or_false, Bool.or_assoc, Option.getD_some]
theorem mnK_yes {fl : List Cm} {k : Nat} {L : List Int} {m : Nat} (hm : m < L.length) (h : isVar (L.getD m 0) = true) : mnK fl k L (m + 1) = fun x => mnK fl k L m x || decide (x = L.getD m 0) := by
  rw [mnK_succ hm, h]; funext x; rw [Bool.true_and]
theorem mnK_no {fl : List Cm} {k : Nat} {L : List Int} {m : Nat} (hm : m < L.length) (h : isVar (L.getD m 0) = false) : mnK fl k L (m + 1) = mnK fl k L m := by
  rw [mnK_succ hm, h]; funext x; simp
theorem mem_termsF {f : Nat → Bool} {k : Nat} {t : Int} : t ∈ termsF f k ↔ ∃ i : Nat, i < k ∧ f i = true ∧ t = (i : Int) := by
  unfold termsF
  simp only [List.mem_map, List.mem_filter, List.mem_range]
  constructor
  · rintro ⟨i, ⟨h1, h2⟩, rfl⟩; exact ⟨i, h1, h2, rfl⟩
  · rintro ⟨i, h1, h2, rfl⟩; exact ⟨i, ⟨h1, h2⟩, rfl⟩
theorem mnL_any (c : Cm) (x : Int) : ((mnL c).any fun t => isVar t && decide (x = t)) = (decide (1 ≤ x ∧ x ≤ 5) && mnB c x.toNat) := by
  rw [Bool.eq_iff_iff]
  simp only [List.any_eq_true, Bool.and_eq_true, decide_eq_true_eq, mnL, List.mem_append, mem_termsF, List.mem_cons, List.not_mem_nil, or_false, isVar, mnB, Bool.or_eq_true]
  constructor
  · rintro ⟨t, h, h1, rfl⟩
    refine ⟨h1, ?_⟩
    rcases h with ⟨i, hi, hf, e⟩ | e | e
    · exact .inr ⟨by omega, by rw [show x.toNat = i by omega]; exact hf⟩
    · exact .inl (.inl (by omega))
    · exact .inl (.inr (by omega))
  · rintro ⟨h1, h⟩
    rcases h with (h | h) | h
    · exact ⟨x, .inr (.inl (by omega)), h1, rfl⟩
    · exact ⟨x, .inr (.inr (by omega)), h1, rfl⟩
    · exact ⟨x, .inl ⟨x.toNat, by omega, h.2, by omega⟩, h1, rfl⟩
theorem mnK_all {fl : List Cm} {k : Nat} (hk : k < fl.length) : mnK fl k (mnL (fl.getD k Cm.zero)) (mnL (fl.getD k Cm.zero)).length = mnN fl (k + 1) := by
  funext x
  unfold mnK
  rw [List.take_length, mnL_any]
  unfold mnN
  rw [List.take_succ_eq_append_getElem hk, List.getD_eq_getElem?_getD, List.getElem?_eq_getElem hk]
  simp only [List.any_append, List.any_cons, List.any_nil, Bool.or_false, Option.getD_some, Bool.and_or_distrib_left]
theorem mnN_all (l : List Cm) : mnN (flats l) (flats l).length = mnP l := by
  funext x; unfold mnN mnP mnV; rw [List.take_length]
theorem mnN_zero (fl : List Cm) : mnN fl 0 = fun _ => false := by funext x; simp [mnN]
theorem mnL_len (c : Cm) : (mnL c).length = (termsF (usedV c.l0 c.l1 c.l2 c.l3) 16).length + 2 := by simp [mnL]
theorem asnB_len {l0 l1 l2 l3 : List (Int × Int)} (h : asnB l0 l1 l2 l3 = true) : l0.length ≤ 1048576 ∧ l1.length ≤ 1048576 ∧ l2.length ≤ 1048576 ∧ l3.length ≤ 1048576 := by
  simp only [asnB, Bool.and_eq_true, decide_eq_true_eq] at h
  omega
theorem progV_sizes {l : List Cm} (h : progV l = true) : (flats l).length ≤ 20 := by
  rw [flats_length]
  simp only [progV, Bool.and_eq_true, decide_eq_true_eq] at h
  exact h.2
theorem two_at (w : World) (p q : Value) (t : TypeId) : (w.alloc (.cells #[p, q] t)).cell? ⟨w.heap.size, 0, none⟩ = some p ∧ (w.alloc (.cells #[p, q] t)).cell? ⟨w.heap.size, 1, none⟩ = some q := ⟨(S.Box.new w p q t).c0, (S.Box.new w p q t).c1⟩

/-- What the region that appends keeps. -/
abbrev MT (w0 : World) (B Z : Nat) (vx vy s0 s1 s2 s3 : Value) (W : World) : Prop := Below B w0 W ∧ B ≤ W.heap.size ∧ W.cell? ⟨Z, 1, none⟩ = some vx ∧ W.cell? ⟨Z, 2, none⟩ = some vy ∧ W.cell? ⟨Z, 4, none⟩ = some s0 ∧ W.cell? ⟨Z, 5, none⟩ = some s1 ∧ W.cell? ⟨Z, 6, none⟩ = some s2 ∧ W.cell? ⟨Z, 7, none⟩ = some s3
theorem two_be {w u : World} {p q : Value} {t : TypeId} (h : Below ((w.alloc (.cells #[p, q] t)).drew).heap.size (w.alloc (.cells #[p, q] t)).drew u) : u.cell? ⟨w.heap.size, 0, none⟩ = some p ∧ u.cell? ⟨w.heap.size, 1, none⟩ = some q := by
  have e : w.heap.size < ((w.alloc (.cells #[p, q] t)).drew).heap.size := by simp
  rw [h.cell (p := ⟨w.heap.size, 0, none⟩) e, h.cell (p := ⟨w.heap.size, 1, none⟩) e]
  exact two_at w p q t
theorem mt_keep {w0 W W' : World} {B Z : Nat} {vx vy s0 s1 s2 s3 : Value} (hz : Z < B) (h : MT w0 B Z vx vy s0 s1 s2 s3 W) (hb : Below W.heap.size W W') : MT w0 B Z vx vy s0 s1 s2 s3 W' := by
  obtain ⟨h1, h2, c1, c2, c4, c5, c6, c7⟩ := h
  have e : ∀ o, W'.cell? ⟨Z, o, none⟩ = W.cell? ⟨Z, o, none⟩ := fun o => hb.cell (p := ⟨Z, o, none⟩) (by show Z < W.heap.size; omega)
  exact ⟨h1.trans (hb.mono h2), Nat.le_trans h2 hb.size, (e _).trans c1, (e _).trans c2, (e _).trans c4, (e _).trans c5, (e _).trans c6, (e _).trans c7⟩
theorem mt_al {w0 W : World} {B Z : Nat} {vx vy s0 s1 s2 s3 : Value} (hz : Z < B) (o : Obj) (h : MT w0 B Z vx vy s0 s1 s2 s3 W) : MT w0 B Z vx vy s0 s1 s2 s3 (W.alloc o) := mt_keep hz h ((Below.refl _ _).alloc (Nat.le_refl _) o)
theorem mt_ad {w0 W : World} {B Z : Nat} {vx vy s0 s1 s2 s3 : Value} (hz : Z < B) (h : MT w0 B Z vx vy s0 s1 s2 s3 W) : MT w0 B Z vx vy s0 s1 s2 s3 W.drew := mt_keep hz h (Below.refl _ _).drew
theorem mt_at {w0 W W' : World} {B Z C : Nat} {vx vy s0 s1 s2 s3 : Value} (hz : Z < B) (h : MT w0 B Z vx vy s0 s1 s2 s3 W) (hb : Below C W W') (hC : B ≤ C) : MT w0 B Z vx vy s0 s1 s2 s3 W' := by
  obtain ⟨h1, h2, c1, c2, c4, c5, c6, c7⟩ := h
  have e : ∀ o, W'.cell? ⟨Z, o, none⟩ = W.cell? ⟨Z, o, none⟩ := fun o => hb.cell (p := ⟨Z, o, none⟩) (by show Z < C; omega)
  exact ⟨h1.trans (hb.mono hC), Nat.le_trans h2 hb.size, (e _).trans c1, (e _).trans c2, (e _).trans c4, (e _).trans c5, (e _).trans c6, (e _).trans c7⟩

theorem mt_row {w0 W : World} {Z : Nat} {vx vy s0 s1 s2 s3 : Value} {a : Option Addr} {l : List (Int × Int)} (r : PRow w0 a l) (h : MT w0 w0.heap.size Z vx vy s0 s1 s2 s3 W) : PRow W a l := r.below h.1 (Nat.le_refl _)
theorem ownsRow_base {w : World} {B B' e k n : Nat} {v : Value} {xs : List Value} (h : w.ownsRow B e k v n xs) (hb : B' ≤ B) : w.ownsRow B' e k v n xs := by
  obtain ⟨h1, h2⟩ := h
  refine ⟨h1, h2.imp id ?_⟩
  rintro ⟨g, cap, cur, h3, h4, h5⟩
  exact ⟨g, cap, cur, h3, Nat.le_trans hb h4, h5⟩
theorem mt_call {w0 W u : World} {Z B n : Nat} {vx vy s0 s1 s2 s3 v : Value} {xs : List Value} (hz : Z < w0.heap.size) (h : MT w0 w0.heap.size Z vx vy s0 s1 s2 s3 W) (h1 : Below W.heap.size W u) (hB : W.heap.size ≤ B) (hown : u.ownsRow B 3 1 v n xs) : MT w0 w0.heap.size Z vx vy s0 s1 s2 s3 u ∧ u.ownsRow w0.heap.size 3 1 v n xs :=
  ⟨mt_keep hz h h1, ownsRow_base hown (Nat.le_trans h.2.1 hB)⟩
theorem step_two {ops : Array Oper} {o : Oper} {a : Act} {w : World} {K : Act → World → Prop} {Q : Exit → Act → World → Prop} {E : Prop} (hgd : o.guard = none) (s x : Operand)
    (ho : o.op = .call { callee := .builtin .append, args := #[s, x], argTypes := #[26, 26] }) (B : Nat) (v : Value) (ls : List Int) (p q : Int) (hs : a.eval s = v) (hown : w.ownsRow B 3 1 v ls.length (S.ic ls))
    (ab : Nat) (hx : a.eval x = .slice (some ⟨ab, 0, none⟩) 2 2) (c0 : w.cell? ⟨ab, 0, none⟩ = some (.int .i64 p)) (c1 : w.cell? ⟨ab, 1, none⟩ = some (.int .i64 q)) (hn : ls.length ≤ 16) (hB : B ≤ w.heap.size)
    (hK : ∀ g cap w', S.OwnI w' g (ls.length + 2) (ls ++ [p, q]) (ls.length + 2) → B ≤ g → Below B w w' → K (a.put o.dst (.slice (some ⟨g, 0, none⟩) (ls.length + 2) cap)) w') :
    if Region.wanted o (yielded ops a.tmps) = true then Oper.wp Try.prog o a w K Q else E := by
  obtain ⟨i0, hi, hz0, hz1, hz2⟩ := S.Try.i3
  refine step_append_lies w hgd s x 26 ho B 3 i0 (.int .i64 0) 1 8 Try.underlying26 hi hz0 hz1 hz2 rfl (by decide) v ls.length (S.ic ls) hs hown ⟨ab, 0, none⟩ 2 2 (S.ic [p, q]) hx rfl ?_ S.ic_one (by omega) (by unfold maxLen; omega) (by omega) hB w.heap.size rfl ?_
  · intro j u hu
    rw [S.addr_add, Nat.zero_add]
    match j, hu with
    | 0, hu => simp [S.ic] at hu; subst hu; exact c0
    | 1, hu => simp [S.ic] at hu; subst hu; exact c1
  · intro g cap w' hown' hg hat hlt
    rw [← S.ic_append] at hown'
    obtain ⟨_, h2, h3⟩ := S.OwnI.ofOwns hown'
    exact hK g cap w' h3 h2 ((Below.refl B w).grown hg hB fun k hk => (hown.lt k hk).1)

set_option maxRecDepth 20000 in
set_option maxHeartbeats 4000000 in
theorem iMentions_any (l : List Cm) (w : World) (lo hi : Nat) (a : Option Addr) (cap : Nat) (hr : CRow w lo hi a l) (hh : hi ≤ w.heap.size) (hs : cnts l ≤ 1048576) :
    Calls Try.prog 73 #[.slice a l.length cap] w fun e w' => ∃ a' c', e = .returned (.slice a' (mentionsV l).length c') ∧ S.IntIn w' w.heap.size w'.heap.size a' (mentionsV l).length (mentionsV l) ∧ Below w.heap.size w w' := by
  have hmm := @run_makeMap Try.prog
  have HV : Hid (mentionsV l = if progV l = true then S.ascL (mnP l) 7 else []) := rfl
  go_enter Try.func73, Try.ntmps73
  go_wp2_with fail
  refine (iProgOk_any l _ _ _ _ _ hr hh (by omega)).mono ?_
  rintro e w1 ⟨rfl, L⟩
  cases hok : progV l
  · go_wp2
    go_ret
    have e0 : mentionsV l = [] := by rw [HV.out, hok]; rfl
    exact ⟨none, 0, by rw [e0]; rfl, by rw [e0]; exact ⟨rfl, .inl rfl⟩, L⟩
  have HV2 : Hid (mentionsV l = S.ascL (mnP l) 7) := by show mentionsV l = _; rw [HV.out, hok]; rfl
  have hmn := progV_mn hok
  have h20 := progV_sizes hok
  have HIN : Hid (∀ x : Int, mnP l x = true → 0 ≤ x ∧ x ≤ 6) := fun x hx => by have := mnP_in hx; omega
  have HFL : Hid (mnN (flats l) (flats l).length = mnP l) := mnN_all l
  have HX : Hid (∀ k, k < (flats l).length → asnB ((flats l).getD k Cm.zero).l0 ((flats l).getD k Cm.zero).l1 ((flats l).getD k Cm.zero).l2 ((flats l).getD k Cm.zero).l3 = true) := fun k hk => (hmn _ (mem_getD hk)).2.2
  clear HV hok hmn
  have h0 := S.HS.made w1
  have L1 : Below w1.heap.size w1 (w1.alloc (.map #[] 0)) := (Below.refl _ _).alloc (Nat.le_refl _) _
  have LA := L.trans (L1.mono L.size)
  have hr1 := hr.below LA hh
  go_wp2_with fail
  have hh1 : hi ≤ (w1.alloc (.map #[] 0)).heap.size := Nat.le_trans hh LA.size
  refine (everyOf_any l _ _ _ _ _ hr1 hh1 hs).mono ?_
  rintro e w2 ⟨a', c', rfl, hz, R, hb⟩
  have L2 := LA.trans (hb.mono LA.size)
  have hh2 : hi ≤ w2.heap.size := Nat.le_trans hh1 hb.size
  replace h0 := h0.keep hb
  have hM : w.heap.size ≤ w1.heap.size := L.size
  clear hb L hr hr1 hs hh1 hz L1 LA hmm
  generalize flats l = fl at *
  have HCELL : Hid (∀ k, k < fl.length → ∃ b o, a' = some ⟨b, o, none⟩ ∧ b < w2.heap.size ∧ CAt w2 lo hi b (o + k * 10) (fl.getD k Cm.zero)) := by
    intro k hk
    rcases R with rfl | ⟨b, o, rfl, g1, hc⟩
    · simp at hk
    · exact ⟨b, o, rfl, g1, hc.get k hk⟩
  have HALL : Hid (∀ k, k < fl.length → mnK fl k (mnL (fl.getD k Cm.zero)) (mnL (fl.getD k Cm.zero)).length = mnN fl (k + 1)) := fun k hk => mnK_all hk
  have HZ : Hid (mnN fl 0 = fun _ => false) := mnN_zero fl
  clear R
  generalize hN : fl.length = n at *
  clear hN
  have hm1 : hi ≤ w1.heap.size := Nat.le_trans hh hM
  generalize hmb : w1.heap.size = mb at *
  clear hmb
  go_wp2
  go_loopw [15] (fun i wr => ∃ k : Nat, k ≤ n ∧ i = .int .i64 k ∧ S.HS wr mb (18 * k) (mnN fl k) ∧ Below w.heap.size w wr ∧ S.Out mb (mb + 1) w2 wr) (fun i _ => n - (intOf i).toNat)
  case atStart => exact ⟨0, Nat.zero_le _, rfl, by rw [HZ.out]; exact h0, L2, S.Out.refl _ _ _⟩
  case round =>
    clear L2
    obtain ⟨k, hk, rfl, hm, hbw, hb2⟩ := hrel
    by_cases hlt : k < n
    · obtain ⟨b, o, rfl, e1, hc⟩ := HCELL.out k hlt
      obtain ⟨a0, a1, a2, a3, aA, aB, c0, c1, c2, c3, cA, cB, X, V⟩ := hc.out
      have HA2 : Hid (mnK fl k (mnL (fl.getD k Cm.zero)) (mnL (fl.getD k Cm.zero)).length = mnN fl (k + 1)) := HALL.out k hlt
      have HX2 : Hid (asnB (fl.getD k Cm.zero).l0 (fl.getD k Cm.zero).l1 (fl.getD k Cm.zero).l2 (fl.getD k Cm.zero).l3 = true) := HX.out k hlt
      clear hc
      generalize fl.getD k Cm.zero = c at *
      have hne : b ≠ mb := fun e => by subst e; exact hs_ne h0 X.e0
      have ec := (Out.cells (p := b) (Out.ofS hb2) e1 (by omega)).1
      have V1 := V.keep (Eqv.of_out (Out.ofS hb2) hm1 hh2) (Nat.le_refl _) (Nat.le_refl _)
      have x0 := X.e0; have x1 := X.e1; have x2 := X.e2; have x3 := X.e3; have x4 := X.e4; have x5 := X.e5; have x6 := X.e6; have x7 := X.e7; have x8 := X.e8; have x9 := X.e9
      rw [← ec] at x0 x1 x2 x3 x4 x5 x6 x7 x8 x9
      clear X V ec hne h0
      have hkn : (k : Int) < (n : Int) := by omega
      have hmr : mb < wr.heap.size := hm.lt
      have hr0 := V1.p0.row (show hi ≤ wr.heap.size by omega); have hr1 := V1.p1.row (show hi ≤ wr.heap.size by omega); have hr2 := V1.p2.row (show hi ≤ wr.heap.size by omega); have hr3 := V1.p3.row (show hi ≤ wr.heap.size by omega)
      clear V1
      go_upto_region 7 with fail
      clear x0 x1 x2 x3 x4 x5 x6 x7 x8 x9
      obtain ⟨n0, n1, n2, n3⟩ := asnB_len HX2.out
      have M := hbw.alloc hbw.size (.cells #[.int .i64 c.k, .int .i64 c.x, .int .i64 c.y, .bool c.q, .slice a0 c.l0.length c0, .slice a1 c.l1.length c1, .slice a2 c.l2.length c2, .slice a3 c.l3.length c3, .slice aA c.A.length cA, .slice aB c.B.length cB] 59)
      have M2 := hb2.trans (S.Out.ofBelow (lo := mb) (hi := mb + 1) ((Below.refl wr.heap.size wr).alloc (Nat.le_refl _) (.cells #[.int .i64 c.k, .int .i64 c.x, .int .i64 c.y, .bool c.q, .slice a0 c.l0.length c0, .slice a1 c.l1.length c1, .slice a2 c.l2.length c2, .slice a3 c.l3.length c3, .slice aA c.A.length cA, .slice aB c.B.length cB] 59)))
      have hm' := hm.alloc (.cells #[.int .i64 c.k, .int .i64 c.x, .int .i64 c.y, .bool c.q, .slice a0 c.l0.length c0, .slice a1 c.l1.length c1, .slice a2 c.l2.length c2, .slice a3 c.l3.length c3, .slice aA c.A.length cA, .slice aB c.B.length cB] 59)
      have MA : Below wr.heap.size wr (wr.alloc (.cells #[.int .i64 c.k, .int .i64 c.x, .int .i64 c.y, .bool c.q, .slice a0 c.l0.length c0, .slice a1 c.l1.length c1, .slice a2 c.l2.length c2, .slice a3 c.l3.length c3, .slice aA c.A.length cA, .slice aB c.B.length cB] 59)) := (Below.refl _ _).alloc (Nat.le_refl _) _
      have r0 := hr0.below MA (Nat.le_refl _); have r1 := hr1.below MA (Nat.le_refl _); have r2 := hr2.below MA (Nat.le_refl _); have r3 := hr3.below MA (Nat.le_refl _)
      have hz : wr.heap.size < (wr.alloc (.cells #[.int .i64 c.k, .int .i64 c.x, .int .i64 c.y, .bool c.q, .slice a0 c.l0.length c0, .slice a1 c.l1.length c1, .slice a2 c.l2.length c2, .slice a3 c.l3.length c3, .slice aA c.A.length cA, .slice aB c.B.length cB] 59)).heap.size := by simp
      have hS1 : MT (wr.alloc (.cells #[.int .i64 c.k, .int .i64 c.x, .int .i64 c.y, .bool c.q, .slice a0 c.l0.length c0, .slice a1 c.l1.length c1, .slice a2 c.l2.length c2, .slice a3 c.l3.length c3, .slice aA c.A.length cA, .slice aB c.B.length cB] 59)) (wr.alloc (.cells #[.int .i64 c.k, .int .i64 c.x, .int .i64 c.y, .bool c.q, .slice a0 c.l0.length c0, .slice a1 c.l1.length c1, .slice a2 c.l2.length c2, .slice a3 c.l3.length c3, .slice aA c.A.length cA, .slice aB c.B.length cB] 59)).heap.size wr.heap.size (.int .i64 c.x) (.int .i64 c.y) (.slice a0 c.l0.length c0) (.slice a1 c.l1.length c1) (.slice a2 c.l2.length c2) (.slice a3 c.l3.length c3) (wr.alloc (.cells #[.int .i64 c.k, .int .i64 c.x, .int .i64 c.y, .bool c.q, .slice a0 c.l0.length c0, .slice a1 c.l1.length c1, .slice a2 c.l2.length c2, .slice a3 c.l3.length c3, .slice aA c.A.length cA, .slice aB c.B.length cB] 59)) := ⟨Below.refl _ _, Nat.le_refl _, by simp, by simp, by simp, by simp, by simp, by simp⟩
      have hmz : mb + 1 ≤ (wr.alloc (.cells #[.int .i64 c.k, .int .i64 c.x, .int .i64 c.y, .bool c.q, .slice a0 c.l0.length c0, .slice a1 c.l1.length c1, .slice a2 c.l2.length c2, .slice a3 c.l3.length c3, .slice aA c.A.length cA, .slice aB c.B.length cB] 59)).heap.size := by omega
      clear hm hbw hb2 hr0 hr1 hr2 hr3 MA hmr
      generalize wr.alloc (.cells #[.int .i64 c.k, .int .i64 c.x, .int .i64 c.y, .bool c.q, .slice a0 c.l0.length c0, .slice a1 c.l1.length c1, .slice a2 c.l2.length c2, .slice a3 c.l3.length c3, .slice aA c.A.length cA, .slice aB c.B.length cB] 59) = W0 at *
      generalize wr.heap.size = Z at *
      have hS0 := mt_ad hz hS1
      have HLS : Hid (mnL c = termsF (usedV c.l0 c.l1 c.l2 c.l3) 16 ++ [c.x, c.y]) := rfl
      have hle := termsF_le (usedV c.l0 c.l1 c.l2 c.l3) 16
      generalize hls : termsF (usedV c.l0 c.l1 c.l2 c.l3) 16 = ls at *
      replace hls : Hid (termsF (usedV c.l0 c.l1 c.l2 c.l3) 16 = ls) := hls
      go_cut [27, 28, 29] (fun v27 v28 v29 wz => ∃ g cap, v27 = .slice (some ⟨g, 0, none⟩) (ls.length + 2) cap ∧ v28 = .int .i64 ((ls.length + 2 : Nat) : Int) ∧ v29 = .int .i64 0 ∧ S.OwnI wz g (ls.length + 2) (ls ++ [c.x, c.y]) (ls.length + 2) ∧ W0.heap.size ≤ g ∧ Below W0.heap.size W0 wz)
      case first =>
        go_region_held3 (fun W => Below W0.heap.size W0 W ∧ W0.heap.size ≤ W.heap.size ∧ W.cell? ⟨Z, 1, none⟩ = some (.int .i64 c.x) ∧ W.cell? ⟨Z, 2, none⟩ = some (.int .i64 c.y) ∧ W.cell? ⟨Z, 4, none⟩ = some (.slice a0 c.l0.length c0) ∧ W.cell? ⟨Z, 5, none⟩ = some (.slice a1 c.l1.length c1) ∧ W.cell? ⟨Z, 6, none⟩ = some (.slice a2 c.l2.length c2) ∧ W.cell? ⟨Z, 7, none⟩ = some (.slice a3 c.l3.length c3))
          (first | exact hS0 | exact hS1 | assumption | (refine mt_ad hz ?_; assumption) | (refine mt_al hz _ ?_; (first | exact hS0 | exact hS1 | assumption)) | exact mt_ad hz (mt_al hz _ hS1) | (refine ⟨?_, ?_, ?_, ?_, ?_, ?_, ?_, ?_⟩ <;> assumption))
          (first
            | (go_at_call 24; refine (iTermsOf_any a0 a1 a2 a3 c0 c1 c2 c3 c.l0 c.l1 c.l2 c.l3 _ n0 n1 n2 n3 (mt_row r0 (by assumption)) (mt_row r1 (by assumption)) (mt_row r2 (by assumption)) (mt_row r3 (by assumption)) HX2).mono ?_; rintro e u1 ⟨v, B, rfl, hB, hown, h1⟩; rw [hls.out] at hown; have kk := mt_call hz (by assumption) h1 hB hown; have k1 := kk.1; have hown' := kk.2)
            | (refine step_two (by rfl) _ _ (by rfl) W0.heap.size v ls c.x c.y (by rfl) (hown'.alloc _) u1.heap.size (by rfl) (two_at _ _ _ _).1 (two_at _ _ _ _).2 hle (Nat.le_trans k1.2.1 (by simp)) ?_; intro g cap w4 hO hg hb4; have k2 := mt_at hz (mt_al hz _ k1) hb4 (Nat.le_refl _))
            | (refine step_two (by rfl) _ _ (by rfl) W0.heap.size v ls c.x c.y (by rfl) hown' W0.heap.size (by rfl) (two_be h1).1 (two_be h1).2 hle k1.2.1 ?_; intro g cap w4 hO hg hb4; have k2 := mt_at hz k1 hb4 (Nat.le_refl _)))
        all_goals
          go_wp2_with fail
          go_meet
          exact ⟨g, cap, rfl, rfl, rfl, hO, hg, k2.1⟩
      case rest =>
        obtain ⟨g, cap2, rfl, rfl, rfl, hO, hg, hbc⟩ := hcut
        have M3 := M.trans (hbc.mono M.size)
        have M4 := M2.trans (S.Out.ofBelow (lo := mb) (hi := mb + 1) hbc)
        have hmc := hm'.below hbc (by omega)
        have hgm : mb + 1 ≤ g := by omega
        have HLL := HLS
        have HA3 : Hid (mnK fl k (ls ++ [c.x, c.y]) (ls.length + 2) = mnN fl (k + 1)) := by
          have e := HA2.out
          rw [HLL.out] at e
          rw [← e]
          show _ = mnK fl k (ls ++ [c.x, c.y]) (ls ++ [c.x, c.y]).length
          congr 1
          simp
        have hlen : (ls ++ [c.x, c.y]).length = ls.length + 2 := by simp
        clear hS0 hS1 HA2 HX2 M M2 hm' hbc hls HLS HLL r0 r1 r2 r3 n0 n1 n2 n3 hz hmz hg
        have hnl : ls.length + 2 ≤ 18 := by omega
        generalize ls ++ [c.x, c.y] = L at *
        generalize ls.length + 2 = nl at *
        have HK : Hid (∀ m, m < nl → isVar (L.getD m 0) = true → mnK fl k L (m + 1) = fun x => mnK fl k L m x || decide (x = L.getD m 0)) := fun m hm h => mnK_yes (by omega) h
        have HKN : Hid (∀ m, m < nl → isVar (L.getD m 0) = false → mnK fl k L (m + 1) = mnK fl k L m) := fun m hm h => mnK_no (by omega) h
        have HK0 : Hid (mnK fl k L 0 = mnN fl k) := mnK_zero fl k L
        go_upto_region 8 with fail
        go_loopw [29] (fun i wq => ∃ m : Nat, m ≤ nl ∧ i = .int .i64 m ∧ S.HS wq mb (18 * k + m) (mnK fl k L m) ∧ Below w.heap.size w wq ∧ S.Out mb (mb + 1) wc wq) (fun i _ => nl - (intOf i).toNat)
        case atStart => exact ⟨0, Nat.zero_le _, rfl, by rw [HK0.out]; exact hmc, M3, S.Out.refl _ _ _⟩
        case round =>
          clear hmc M3
          obtain ⟨m, hm2, rfl, hmq, hbq, hob⟩ := hrel
          by_cases hmt : m < nl
          · have hOq := hO.out hob (by omega)
            have hcell := hOq.2.2 m hmt
            have HK2 : Hid (isVar (L.getD m 0) = true → mnK fl k L (m + 1) = fun x => mnK fl k L m x || decide (x = L.getD m 0)) := HK.out m hmt
            have HKN2 : Hid (isVar (L.getD m 0) = false → mnK fl k L (m + 1) = mnK fl k L m) := HKN.out m hmt
            generalize L.getD m 0 = t at *
            have hmn : (m : Int) < (nl : Int) := by omega
            clear hO
            cases hv : isVar t
            · have HN : Hid (mnK fl k L (m + 1) = mnK fl k L m) := HKN2.out hv
              go_wp2_with fail
              clear hOq hcell
              refine (isVar_any t _).mono ?_
              rintro e wv ⟨rfl, rfl⟩
              rw [hv]
              clear hv HK2 HKN2
              go_wp2
              go_roundw
              case rel => exact ⟨m + 1, by omega, by go_num, by rw [HN.out]; exact hmq.mono (by omega), hbq, hob⟩
              case measure => simp [intOf]; omega
            · have HY : Hid (mnK fl k L (m + 1) = fun x => mnK fl k L m x || decide (x = t)) := HK2.out hv
              have wx : (Lit.int .i64 t).wf = true := by
                have hv2 := hv
                simp only [isVar, decide_eq_true_eq] at hv2
                exact wf_small hv2.1 hv2.2
              go_wp2_with fail
              clear hOq hcell
              refine (isVar_any t _).mono ?_
              rintro e wv ⟨rfl, rfl⟩
              rw [hv]
              clear hv HK2 HKN2
              go_wp2_with fail
              refine (S.add_any mb _ _ t wv wx (by omega) hmq).mono ?_
              rintro e w3 ⟨rfl, hm3, ho3⟩
              have M5 := hbq.trans (ho3.below hM hbq.size)
              have M6 := hob.trans ho3
              clear hmq hbq hob ho3 wx
              go_wp2
              go_roundw
              case rel => exact ⟨m + 1, by omega, by go_num, by rw [HY.out]; exact hm3, M5, M6⟩
              case measure => simp [intOf]; omega
          · obtain rfl : m = nl := by omega
            rw [HA3.out] at hmq
            have M5 := M4.trans hob
            clear hob M4 hO hm2
            go_wp2
            go_roundw
            case rel => exact ⟨k + 1, by omega, by go_num, hmq.mono (by omega), hbq, M5⟩
            case measure => simp [intOf]; omega
    · obtain rfl : k = n := by omega
      rw [HFL.out] at hm
      go_wp2_with fail
      refine (S.asc_any mb _ _ wr (by omega) HIN.out hm).mono ?_
      rintro e w3 ⟨a', c', rfl, hin, hb3⟩
      have M3 := hbw.trans (hb3.mono hbw.size)
      have hws := hbw.size
      clear hb3 hbw hb2 hm h0
      go_wp2
      go_ret
      exact ⟨a', c', by rw [HV2.out]; rfl, by rw [HV2.out]; exact hin.mono hws (Nat.le_refl _), M3⟩

end Go.Proofs.Ytanihlecenmdcaa
