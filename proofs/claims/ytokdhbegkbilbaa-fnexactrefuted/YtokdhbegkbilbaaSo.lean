/-
  The contract of spec.Sole.
-/
import Derived.Test.YtokdhbegkbilbaaGr
import Derived.Test.YtokdhbegkbilbaaOn
import Derived.Test.YtokdhbegkbilbaaSegS
namespace Go.Proofs.Ytokdhbegkbilbaa
open Go.RowKit Go.Maps

def tok (x : Int) : Bool := decide (0 ≤ x ∧ x < 16)

theorem sTermOk_any (x : Int) (w : World) : Calls Try.prog 112 #[.int .i64 x] w fun e w' => e = .returned (.bool (tok x)) ∧ w' = w := by
  by_cases c1 : 0 ≤ x
  · by_cases c2 : x < 16
    · go_enter Try.func112, Try.ntmps112
      go_wp2
      go_ret
      exact ⟨ret_bool (by simp [tok, c1, c2]), rfl⟩
    · go_enter Try.func112, Try.ntmps112
      go_wp2
      go_ret
      exact ⟨ret_bool (by simp [tok]; omega), rfl⟩
  · go_enter Try.func112, Try.ntmps112
    go_wp2
    go_ret
    exact ⟨ret_bool (by simp [tok]; omega), rfl⟩

theorem iTermOk_any (x : Int) (w : World) : Calls Try.prog 113 #[.int .i64 x] w fun e w' => e = .returned (.bool (tok x)) ∧ w' = w := by
  by_cases c1 : 0 ≤ x
  · by_cases c2 : x < 16
    · go_enter Try.func113, Try.ntmps113
      go_wp2
      go_ret
      exact ⟨ret_bool (by simp [tok, c1, c2]), rfl⟩
    · go_enter Try.func113, Try.ntmps113
      go_wp2
      go_ret
      exact ⟨ret_bool (by simp [tok]; omega), rfl⟩
  · go_enter Try.func113, Try.ntmps113
    go_wp2
    go_ret
    exact ⟨ret_bool (by simp [tok]; omega), rfl⟩

/-- Block b holds seven flags of the call's own. -/
def BRow (w : World) (b : Nat) (f : Nat → Bool) : Prop := b < w.heap.size ∧ ∀ j, j < 7 → w.cell? ⟨b, j, none⟩ = some (.bool (f j)) ∧ w.frozen? ⟨b, j, none⟩ = false
theorem BRow.block {w w' : World} {b : Nat} {f : Nat → Bool} (h : BRow w b f) (hs : w.heap.size ≤ w'.heap.size) (e : w'.heap[b]? = w.heap[b]?) : BRow w' b f := by
  refine ⟨Nat.lt_of_lt_of_le h.1 hs, fun j hj => ?_⟩
  rw [World.cell?_of_block (w := w) e, World.frozen?_of_block (w := w) e]
  exact h.2 j hj
theorem BRow.keep {w w' : World} {b : Nat} {f : Nat → Bool} (h : BRow w b f) (hb : Below w.heap.size w w') : BRow w' b f := h.block hb.size (hb.block b h.1)
theorem BRow.out {lo hi : Nat} {w w' : World} {b : Nat} {f : Nat → Bool} (h : BRow w b f) (ho : Out lo hi w w') (hr : b < lo ∨ hi ≤ b) : BRow w' b f := h.block ho.size (ho.block b h.1 hr)
theorem BRow.set {w : World} {b : Nat} {f : Nat → Bool} (h : BRow w b f) (k : Nat) (g : Nat → Bool) (hg : ∀ j, j < 7 → g j = (f j || decide (j = k))) : BRow (w.setCell ⟨b, k, none⟩ (.bool true)) b g := by
  refine ⟨by simpa using h.1, fun j hj => ⟨?_, by simpa using (h.2 j hj).2⟩⟩
  rw [cell_set (h.2 j hj).1, hg j hj]
  by_cases e : k = j
  · subst e; simp
  · rw [if_neg e]; simp [Ne.symm e]
def brow : Array Value := madeCells #[.bool false] 7
theorem BRow.start (w : World) : BRow (w.alloc (.cells brow 4)) w.heap.size (fun _ => false) := by
  refine ⟨by simp, fun j hj => ⟨?_, by simp⟩⟩
  rw [World.cell?_alloc_new]
  have : j = 0 ∨ j = 1 ∨ j = 2 ∨ j = 3 ∨ j = 4 ∨ j = 5 ∨ j = 6 := by omega
  rcases this with rfl | rfl | rfl | rfl | rfl | rfl | rfl <;> first | kernel_rfl | simp [brow, madeCells]

theorem Try.info4 : (Try.prog.info? 4).map (fun i => (i.zero, i.size, i.bytes)) = some (some (.bool false), 1, 1) := by kernel_rfl
theorem run_make4 (w : World) : (Instr.makeSlice 105 (.int .i64 7) (.int .i64 7)).run Try.prog w = .ok (.slice (some ⟨w.heap.size, 0, none⟩) 7 7) (w.alloc (.cells brow 4)) := by
  have h := Try.info4
  cases hi : Try.prog.info? 4 with
  | none => rw [hi] at h; simp at h
  | some i =>
    rw [hi] at h
    simp only [Option.map_some, Option.some.injEq, Prod.mk.injEq] at h
    have r := run_make (P := Try.prog) w 105 4 i _ Try.underlying105 hi h.1 .i64 .i64 7 7 (by omega) (by omega) (by rw [h.2.2]; omega) (by omega)
    rw [h.2.1] at r
    simpa [brow, Value.cells] using r

def isF : Option Value → Bool
  | some (.bool false) => true
  | _ => false
/-- How many of the seven flags of block b are not set. -/
def cntF (w : World) (b : Nat) : Nat := (List.range 7).countP fun j => isF (w.cell? ⟨b, j, none⟩)
theorem BRow.cnt {w : World} {b : Nat} {f : Nat → Bool} (h : BRow w b f) : cntF w b = (List.range 7).countP fun j => !f j := by
  unfold cntF
  refine List.countP_congr fun j hj => ?_
  rw [(h.2 j (by simpa using hj)).1]
  cases f j <;> simp [isF]
theorem cnt_lt {f : Nat → Bool} {k : Nat} (hk : k < 7) (hf : f k = false) : ((List.range 7).countP fun j => !(f j || decide (j = k))) < (List.range 7).countP fun j => !f j := by
  have : k = 0 ∨ k = 1 ∨ k = 2 ∨ k = 3 ∨ k = 4 ∨ k = 5 ∨ k = 6 := by omega
  rcases this with rfl | rfl | rfl | rfl | rfl | rfl | rfl <;> simp [List.range_succ, List.countP_cons, hf] <;> omega

/-- A heap's list of which some are kept. -/
def keepL (hv l : List Int) : List Int := (List.range 7).map fun (i : Nat) => if (i : Int) ∈ l then hv.getD i 0 else -1
theorem keepL_len (hv l : List Int) : (keepL hv l).length = 7 := by simp [keepL]
theorem keepL_at (hv l : List Int) {k : Nat} (hk : k < 7) : (keepL hv l).getD k 0 = if (k : Int) ∈ l then hv.getD k 0 else -1 := by simp [keepL, hk]

/-- .. of the first k addresses. -/
def mixL (hv l : List Int) (k : Nat) : List Int := (List.range 7).map fun (i : Nat) => if i < k ∧ (i : Int) ∉ l then -1 else hv.getD i 0
theorem mixL_at (hv l : List Int) (k : Nat) {i : Nat} (hi : i < 7) : (mixL hv l k).getD i 0 = if i < k ∧ (i : Int) ∉ l then -1 else hv.getD i 0 := by simp [mixL, hi]
theorem mixL_len (hv l : List Int) (k : Nat) : (mixL hv l k).length = 7 := by simp [mixL]
theorem ext7 {l m : List Int} (hl : l.length = 7) (hm : m.length = 7) (e : ∀ i, i < 7 → l.getD i 0 = m.getD i 0) : l = m := by
  refine List.ext_getElem (by omega) fun i h1 h2 => ?_
  have := e i (by omega)
  simpa [h1, h2] using this
theorem mixL_zero {hv l : List Int} (h7 : hv.length = 7) : mixL hv l 0 = hv := ext7 (mixL_len _ _ _) h7 fun i hi => by rw [mixL_at _ _ _ hi, if_neg (by omega)]
theorem mixL_end (hv l : List Int) : mixL hv l 7 = keepL hv l := ext7 (mixL_len _ _ _) (keepL_len _ _) fun i hi => by
  rw [mixL_at _ _ _ hi, keepL_at _ _ hi]
  by_cases e : (i : Int) ∈ l
  · rw [if_neg (fun q => q.2 e), if_pos e]
  · rw [if_pos ⟨hi, e⟩, if_neg e]
theorem mixL_in {hv l : List Int} {k : Nat} (h : (k : Int) ∈ l) : mixL hv l (k + 1) = mixL hv l k := ext7 (mixL_len _ _ _) (mixL_len _ _ _) fun i hi => by
  rw [mixL_at _ _ _ hi, mixL_at _ _ _ hi]
  by_cases e : i = k
  · subst e; rw [if_neg (fun q => q.2 h), if_neg (by omega)]
  · by_cases c : i < k ∧ (i : Int) ∉ l
    · rw [if_pos c, if_pos ⟨by omega, c.2⟩]
    · rw [if_neg c, if_neg (fun q => c ⟨by omega, q.2⟩)]
theorem mixL_out {hv l : List Int} {k : Nat} (h : (k : Int) ∉ l) : ∀ i, i < 7 → (mixL hv l (k + 1)).getD i 0 = if i = k then -1 else (mixL hv l k).getD i 0 := fun i hi => by
  rw [mixL_at _ _ _ hi, mixL_at _ _ _ hi]
  by_cases e : i = k
  · subst e; rw [if_pos ⟨by omega, h⟩, if_pos rfl]
  · rw [if_neg e]
    by_cases c : i < k ∧ (i : Int) ∉ l
    · rw [if_pos c, if_pos ⟨by omega, c.2⟩]
    · rw [if_neg c, if_neg (fun q => c ⟨by omega, q.2⟩)]

def soleO (t hv : List Int) (x : Int) : Option (List Int) := if sOk t hv = true ∧ tok x = true then some (keepL hv (trl hv (-1) 7 [] (t.getD x.toNat 0)).1) else none

set_option maxRecDepth 100000 in
set_option maxHeartbeats 1000000 in
theorem sSole_any (b0 b1 c0 c1 : Nat) (t hv : List Int) (x : Int) (w : World) (n0 : t.length ≤ 1048576) (n1 : hv.length ≤ 1048576) (o0 : OwnI w b0 t.length t t.length) (o1 : OwnI w b1 hv.length hv hv.length) :
    Calls Try.prog 63 #[.agg #[.slice (some ⟨b0, 0, none⟩) t.length c0, .slice (some ⟨b1, 0, none⟩) hv.length c1], .int .i64 x] w (SPost t (soleO t hv x) w) := by
  have B0 := (Box.new w (.slice (some ⟨b0, 0, none⟩) t.length c0) (.slice (some ⟨b1, 0, none⟩) hv.length c1) 44).alloc (.cells #[.slice none 0 0, .slice none 0 0] 44)
  have R0 := Box.new (w.alloc (.cells #[.slice (some ⟨b0, 0, none⟩) t.length c0, .slice (some ⟨b1, 0, none⟩) hv.length c1] 44)) (.slice none 0 0) (.slice none 0 0) 44
  have L0 : Below w.heap.size w ((w.alloc (.cells #[.slice (some ⟨b0, 0, none⟩) t.length c0, .slice (some ⟨b1, 0, none⟩) hv.length c1] 44)).alloc (.cells #[.slice none 0 0, .slice none 0 0] 44)) := ((Below.refl _ _).alloc (Nat.le_refl _) _).alloc (by simp) _
  rw [World.size_alloc] at R0
  have hc := sStateOk_any b0 b1 c0 c1 t hv _ n0 n1 (by exact o0.keep L0) (by exact o1.keep L0)
  replace o0 := o0.keep L0
  replace o1 := o1.keep L0
  go_enter Try.func63, Try.ntmps63
  go_wp2_with fail
  refine hc.mono ?_
  rintro e w1 ⟨rfl, hb⟩
  have B1 := B0.keep hb; have R1 := R0.keep hb; have L1 := L0.trans (hb.mono L0.size)
  replace o0 := o0.keep hb
  replace o1 := o1.keep hb
  clear hc hb B0 L0 R0
  have z0 := B1.c0; have z1 := B1.c1
  have y0 := R1.c0; have y1 := R1.c1; have f0 := R1.f0; have f1 := R1.f1
  cases hs : sOk t hv
  · have HN : Hid (soleO t hv x = none) := if_neg (by rw [hs]; simp)
    have RR := (R1.set0 (.slice none 0 0)).set1 (.slice none 0 0)
    have i0 := RR.c0; have i1 := RR.c1
    have LL := Below.set (Below.set L1 (w.heap.size + 1) 0 (by omega) (.slice none 0 0)) (w.heap.size + 1) 1 (by omega) (.slice none 0 0)
    go_wp2
    exact bodyPost_ret (v := .tuple #[.agg #[.slice none 0 0, .slice none 0 0], .bool false]) (by simp [results, Try.results63, go_sem, i0, i1]) rfl (spost_none HN.out LL)
  · obtain ⟨⟨e16, -, ht⟩, e7, e0, hr⟩ := sOk_true hs
    have HR : Hid (∀ i, i < 7 → -1 ≤ hv.getD i 0 ∧ hv.getD i 0 ≤ 6) := hr
    have HTR : Hid (∀ i, i < 16 → 0 ≤ t.getD i 0 ∧ t.getD i 0 ≤ 6) := ht
    have E7 : Hid (hv.length = 7) := e7
    have E16 : Hid (t.length = 16) := e16
    have E0 : Hid (hv.getD 0 0 = -1) := e0
    clear hr e0 e7 e16 ht
    have hc := sTermOk_any x w1
    cases q1 : tok x
    · rw [q1] at hc
      have HN : Hid (soleO t hv x = none) := if_neg (by rw [q1]; simp)
      go_wp2_with fail
      refine hc.mono ?_
      rintro e w1 ⟨rfl, rfl⟩
      have RR := (R1.set0 (.slice none 0 0)).set1 (.slice none 0 0)
      have i0 := RR.c0; have i1 := RR.c1
      have LL := Below.set (Below.set L1 (w.heap.size + 1) 0 (by omega) (.slice none 0 0)) (w.heap.size + 1) 1 (by omega) (.slice none 0 0)
      go_wp2
      exact bodyPost_ret (v := .tuple #[.agg #[.slice none 0 0, .slice none 0 0], .bool false]) (by simp [results, Try.results63, go_sem, i0, i1]) rfl (spost_none HN.out LL)
    rw [q1] at hc
    have q2 : 0 ≤ x ∧ x < 16 := by simpa [tok] using q1
    obtain ⟨a, rfl⟩ : ∃ a : Nat, x = a := ⟨x.toNat, by omega⟩
    obtain ⟨T, eT⟩ : ∃ T, Hid (trl hv (-1) 7 [] (t.getD a 0) = T) := ⟨_, rfl⟩
    have HN : Hid (soleO t hv a = some (keepL hv T.1)) := by
      show soleO t hv a = _
      unfold soleO
      rw [if_pos ⟨hs, q1⟩, Int.toNat_natCast, eT.out]
    have ha := o0.2.2 a (by have := E16.out; omega)
    have ra := HTR.out a (by omega)
    obtain ⟨z, ez⟩ : ∃ z, Hid (t.getD a 0 = z) := ⟨_, rfl⟩
    rw [ez.out] at ha ra eT
    have la : (a : Int) < (t.length : Int) := by have := E16.out; omega
    have hmk := run_make4
    have L2 := L1.alloc L1.size (.cells brow 4)
    have B2 := B1.alloc (.cells brow 4)
    have R2 := R1.alloc (.cells brow 4)
    have I2 := BRow.start w1
    have rl1 := R1.lt
    have sz1 := L1.size
    have b0l := o0.1
    have b1l := o1.1
    replace o0 := o0.alloc (.cells brow 4)
    replace o1 := o1.alloc (.cells brow 4)
    have ha2 := o0.2.2 a (by have := E16.out; omega)
    rw [ez.out] at ha2
    have zz0 := B2.c0; have zz1 := B2.c1
    clear q1 q2 ha y0 y1 f0 f1 HTR
    go_wp2_with fail
    refine hc.mono ?_
    rintro e w1 ⟨rfl, rfl⟩
    clear hc z0 z1 B1 R1 L1
    go_wp2
    generalize w1.heap.size = bI at *
    generalize (w1.alloc (.cells brow 4)) = W2 at *
    clear ha2
    have ES : Hid (trl hv (-1) (7 - ([] : List Int).length) [] z = T) := eT.out
    go_loopw [7] (fun v wr => ∃ (l : List Int) (k : Nat), v = .int .i64 k ∧ k ≤ 6 ∧ BRow wr bI (fun j => decide ((j : Int) ∈ l)) ∧ Out bI (bI + 1) W2 wr ∧ Hid (l.Nodup ∧ (∀ y ∈ l, okp hv y = true) ∧ trl hv (-1) (7 - l.length) l k = T ∧ l.length ≤ 6)) (fun _ wr => cntF wr bI)
    case atStart =>
      obtain ⟨k, rfl⟩ : ∃ k : Nat, z = k := ⟨z.toNat, by omega⟩
      exact ⟨[], k, rfl, by omega, by simpa using I2, Out.refl _ _ _, by simp, by simp, ES.out, by simp⟩
    case round =>
      clear ES I2
      obtain ⟨l, k, rfl, hk, hI, hO, HI⟩ := hrel
      have hx := (o1.out hO (by omega)).2.2 k (by have := E7.out; omega)
      have hB := B2.out hO (by omega)
      have zb1 := hB.c1
      have hy := HR.out k (by omega)
      have HK : Hid (okp hv k = decide (hv.getD k 0 ≠ -1)) := okp_nat (by omega)
      obtain ⟨u, eu⟩ : ∃ u, Hid (hv.getD k 0 = u) := ⟨_, rfl⟩
      rw [eu.out] at hx hy HK
      have hki : (k : Int) < 7 := by omega
      have hkl : (k : Int) < (hv.length : Int) := by have := E7.out; omega
      have hf := hI.2 k (by omega)
      have hf1 : wr.cell? ⟨bI, k, none⟩ = some (.bool (decide ((k : Int) ∈ l))) := hf.1
      have hf2 := hf.2
      clear hf zz0 zz1
      have hz1 : (k : Int) ≠ -1 := by omega
      obtain ⟨f, hf⟩ : ∃ f, 7 - l.length = f + 1 := ⟨6 - l.length, by have := HI.out.2.2.2; omega⟩
      by_cases v1 : 0 ≤ u
      · by_cases v2 : (k : Int) ∈ l
        · have ET : Hid (T = (l, (k : Int))) := by
            have q := HI.out.2.2.1
            rw [hf, trl_stop (fun q => q.2.2 v2)] at q
            exact q.symm
          rw [decide_eq_true v2] at hf1
          clear v2 HI
          have hl0 := o0.out hO (by omega); have hl1 := o1.out hO (by omega)
          have hR := R2.out hO (by omega)
          have L3 := L2.trans (hO.below (by omega) L2.size)
          have zb0 := hB.c0
          have hc := l2own_any b0 b1 c0 c1 t hv wr n0 n1 (by have := E16.out; omega) (by have := E7.out; omega) hl0 hl1
          go_wp2_with fail
          refine hc.mono ?_
          rintro e w3 ⟨d0, d1, g0, g1, rfl, k0, k1, h0, h1, hb2⟩
          have sB := hI.1
          have R3 := hR.keep hb2; have L4 := L3.trans (hb2.mono L3.size); have I3 := hI.keep hb2
          clear hc hb2 hB hR zb0 zb1 hx hf1 hf2 hl0 hl1 L3 hI hO B2 R2 L2 o0 o1
          have X3 := Box.new w3 (.slice (some ⟨d0, 0, none⟩) t.length g0) (.slice (some ⟨d1, 0, none⟩) hv.length g1) 44
          have al : Below w3.heap.size w3 (w3.alloc (.cells #[.slice (some ⟨d0, 0, none⟩) t.length g0, .slice (some ⟨d1, 0, none⟩) hv.length g1] 44)) := (Below.refl _ _).alloc (Nat.le_refl _) _
          have hd1 := h1.1
          replace R3 := R3.keep al; replace I3 := I3.keep al; replace h0 := h0.keep al; replace h1 := h1.keep al; replace L4 := L4.trans (al.mono L4.size)
          clear al
          go_wp2
          generalize w3.heap.size = bX at *
          generalize (w3.alloc (.cells #[.slice (some ⟨d0, 0, none⟩) t.length g0, .slice (some ⟨d1, 0, none⟩) hv.length g1] 44)) = W4 at *
          have M0 : OwnI W4 d1 hv.length (mixL hv l 0) hv.length := by rw [mixL_zero E7.out]; exact h1
          clear h1
          go_loopw [9] (fun v wq => ∃ k : Nat, v = .int .i64 k ∧ k ≤ 7 ∧ OwnI wq d1 hv.length (mixL hv l k) hv.length ∧ Out d1 (d1 + 1) W4 wq) (fun v _ => 7 - (intOf v).toNat)
          case atStart => exact ⟨0, rfl, by omega, M0, Out.refl _ _ _⟩
          case round =>
            clear M0
            obtain ⟨j, rfl, hj, hM, hQ⟩ := hrel
            have hX := X3.out hQ (by omega)
            have xx0 := hX.c0; have xx1 := hX.c1
            by_cases hlt : j < 7
            · have hjl : (j : Int) < (hv.length : Int) := by have := E7.out; omega
              have hj7 : (j : Int) < 7 := by omega
              have hfj : wr.cell? ⟨bI, j, none⟩ = some (.bool (decide ((j : Int) ∈ l))) := ((I3.out hQ (by omega)).2 j hlt).1
              by_cases cj : (j : Int) ∈ l
              · rw [decide_eq_true cj] at hfj
                have EM : Hid (mixL hv l (j + 1) = mixL hv l j) := mixL_in cj
                clear cj
                go_wp2
                go_roundw
                case rel => exact ⟨j + 1, by go_num, by omega, by rw [EM.out]; exact hM, hQ⟩
                case measure => simp [intOf]; omega
              · rw [decide_eq_false cj] at hfj
                have hM2 := hM.put j (-1) (mixL hv l (j + 1)) (fun i hi => mixL_out cj i (by have := E7.out; omega))
                have hQ2 := hQ.trans (Out.set d1 j wr (.int .i64 (-1)))
                obtain ⟨vj, hvj⟩ := (hM.2.1 j (by have := E7.out; omega)).1
                have hfz := (hM.2.1 j (by have := E7.out; omega)).2
                clear cj hM hQ
                go_wp2
                go_roundw
                case rel => exact ⟨j + 1, by go_num, by omega, hM2, hQ2⟩
                case measure => simp [intOf]; omega
            · obtain rfl : j = 7 := by omega
              have hR := R3.out hQ (by omega)
              have h7l : ¬ ((7 : Int) < (hv.length : Int)) := by have := E7.out; omega
              have y0 := hR.c0; have y1 := hR.c1; have f0 := hR.f0; have f1 := hR.f1
              have HR7 : Hid (Box _ (w.heap.size + 1) (.slice (some ⟨d0, 0, none⟩) t.length g0) (.slice (some ⟨d1, 0, none⟩) hv.length g1)) := (hR.set0 (.slice (some ⟨d0, 0, none⟩) t.length g0)).set1 (.slice (some ⟨d1, 0, none⟩) hv.length g1)
              have T7 := ((h0.out hQ (by omega)).other (w.heap.size + 1) 0 (by omega) (.slice (some ⟨d0, 0, none⟩) t.length g0)).other (w.heap.size + 1) 1 (by omega) (.slice (some ⟨d1, 0, none⟩) hv.length g1)
              rw [mixL_end] at hM
              have P7 := (hM.other (w.heap.size + 1) 0 (by omega) (.slice (some ⟨d0, 0, none⟩) t.length g0)).other (w.heap.size + 1) 1 (by omega) (.slice (some ⟨d1, 0, none⟩) hv.length g1)
              have L7 := Below.set (Below.set (L4.trans (hQ.below (by omega) L4.size)) (w.heap.size + 1) 0 (by omega) (.slice (some ⟨d0, 0, none⟩) t.length g0)) (w.heap.size + 1) 1 (by omega) (.slice (some ⟨d1, 0, none⟩) hv.length g1)
              clear hM hQ hR hX
              go_wp2
              have i0 := HR7.out.c0; have i1 := HR7.out.c1
              refine bodyPost_ret (v := .tuple #[.agg #[.slice (some ⟨d0, 0, none⟩) t.length g0, .slice (some ⟨d1, 0, none⟩) hv.length g1], .bool true]) ?_ rfl ?_
              · simp [results, Try.results63, go_sem, i0, i1]
              · exact (spost_some (by rw [HN.out, ET.out]) (by rw [keepL_len]; exact E7.out.symm) (by omega) k1 T7 P7 L7)
        · have HI2 : Hid ((l ++ [(k : Int)]).Nodup ∧ (∀ y ∈ l ++ [(k : Int)], okp hv y = true) ∧ trl hv (-1) (7 - (l ++ [(k : Int)]).length) (l ++ [(k : Int)]) u = T ∧ (l ++ [(k : Int)]).length ≤ 6) := by
            have ok : okp hv k = true := by rw [HK.out]; simp; omega
            have h1 := nodup_snoc HI.out.1 v2
            have h2 : ∀ y ∈ l ++ [(k : Int)], okp hv y = true := fun y hy => by
              rw [List.mem_append] at hy
              rcases hy with hy | hy
              · exact HI.out.2.1 y hy
              · simp at hy; rw [hy]; exact ok
            refine ⟨h1, h2, ?_, okp_len E0.out h1 h2⟩
            have q := HI.out.2.2.1
            rw [hf, trl_go ⟨hz1, ok, v2⟩, show gn hv k = u from by unfold gn; rw [Int.toNat_natCast]; exact eu.out] at q
            rw [show 7 - (l ++ [(k : Int)]).length = f by simp; omega]
            exact q
          rw [decide_eq_false v2] at hf1
          have hI2 := hI.set k (fun j => decide ((j : Int) ∈ l ++ [(k : Int)])) (fun j _ => by simp [Int.natCast_inj])
          have hO2 := hO.trans (Out.set bI k wr (.bool true))
          have hx2 := (o1.out hO2 (by omega)).2.2 k (by have := E7.out; omega)
          rw [eu.out] at hx2
          have zb2 := (B2.out hO2 (by omega)).c1
          have hcn := hI.cnt
          have hcn2 := hI2.cnt
          have hlt := cnt_lt (f := fun j => decide ((j : Int) ∈ l)) (k := k) (by omega) (decide_eq_false v2)
          obtain ⟨m, rfl⟩ : ∃ m : Nat, u = m := ⟨u.toNat, by omega⟩
          clear hI hO v2 HI
          go_wp2
          go_roundw
          case rel => exact ⟨_, m, rfl, by omega, hI2, hO2, HI2⟩
          case measure =>
            rw [hcn, hcn2]
            refine Nat.lt_of_le_of_lt (Nat.le_of_eq ?_) hlt
            refine List.countP_congr fun j _ => ?_
            simp [Int.natCast_inj]
      · have ET : Hid (T = (l, (k : Int))) := by
          have q := HI.out.2.2.1
          rw [hf, trl_stop (fun q => by rw [HK.out] at q; have := q.2.1; simp at this; omega)] at q
          exact q.symm
        clear HI
        have hl0 := o0.out hO (by omega); have hl1 := o1.out hO (by omega)
        have hR := R2.out hO (by omega)
        have L3 := L2.trans (hO.below (by omega) L2.size)
        have zb0 := hB.c0
        have hc := l2own_any b0 b1 c0 c1 t hv wr n0 n1 (by have := E16.out; omega) (by have := E7.out; omega) hl0 hl1
        go_wp2_with fail
        refine hc.mono ?_
        rintro e w3 ⟨d0, d1, g0, g1, rfl, k0, k1, h0, h1, hb2⟩
        have sB := hI.1
        have R3 := hR.keep hb2; have L4 := L3.trans (hb2.mono L3.size); have I3 := hI.keep hb2
        clear hc hb2 hB hR zb0 zb1 hx hf1 hf2 hl0 hl1 L3 hI hO B2 R2 L2 o0 o1
        have X3 := Box.new w3 (.slice (some ⟨d0, 0, none⟩) t.length g0) (.slice (some ⟨d1, 0, none⟩) hv.length g1) 44
        have al : Below w3.heap.size w3 (w3.alloc (.cells #[.slice (some ⟨d0, 0, none⟩) t.length g0, .slice (some ⟨d1, 0, none⟩) hv.length g1] 44)) := (Below.refl _ _).alloc (Nat.le_refl _) _
        have hd1 := h1.1
        replace R3 := R3.keep al; replace I3 := I3.keep al; replace h0 := h0.keep al; replace h1 := h1.keep al; replace L4 := L4.trans (al.mono L4.size)
        clear al
        go_wp2
        generalize w3.heap.size = bX at *
        generalize (w3.alloc (.cells #[.slice (some ⟨d0, 0, none⟩) t.length g0, .slice (some ⟨d1, 0, none⟩) hv.length g1] 44)) = W4 at *
        have M0 : OwnI W4 d1 hv.length (mixL hv l 0) hv.length := by rw [mixL_zero E7.out]; exact h1
        clear h1
        go_loopw [9] (fun v wq => ∃ k : Nat, v = .int .i64 k ∧ k ≤ 7 ∧ OwnI wq d1 hv.length (mixL hv l k) hv.length ∧ Out d1 (d1 + 1) W4 wq) (fun v _ => 7 - (intOf v).toNat)
        case atStart => exact ⟨0, rfl, by omega, M0, Out.refl _ _ _⟩
        case round =>
          clear M0
          obtain ⟨j, rfl, hj, hM, hQ⟩ := hrel
          have hX := X3.out hQ (by omega)
          have xx0 := hX.c0; have xx1 := hX.c1
          by_cases hlt : j < 7
          · have hjl : (j : Int) < (hv.length : Int) := by have := E7.out; omega
            have hj7 : (j : Int) < 7 := by omega
            have hfj : wr.cell? ⟨bI, j, none⟩ = some (.bool (decide ((j : Int) ∈ l))) := ((I3.out hQ (by omega)).2 j hlt).1
            by_cases cj : (j : Int) ∈ l
            · rw [decide_eq_true cj] at hfj
              have EM : Hid (mixL hv l (j + 1) = mixL hv l j) := mixL_in cj
              clear cj
              go_wp2
              go_roundw
              case rel => exact ⟨j + 1, by go_num, by omega, by rw [EM.out]; exact hM, hQ⟩
              case measure => simp [intOf]; omega
            · rw [decide_eq_false cj] at hfj
              have hM2 := hM.put j (-1) (mixL hv l (j + 1)) (fun i hi => mixL_out cj i (by have := E7.out; omega))
              have hQ2 := hQ.trans (Out.set d1 j wr (.int .i64 (-1)))
              obtain ⟨vj, hvj⟩ := (hM.2.1 j (by have := E7.out; omega)).1
              have hfz := (hM.2.1 j (by have := E7.out; omega)).2
              clear cj hM hQ
              go_wp2
              go_roundw
              case rel => exact ⟨j + 1, by go_num, by omega, hM2, hQ2⟩
              case measure => simp [intOf]; omega
          · obtain rfl : j = 7 := by omega
            have hR := R3.out hQ (by omega)
            have h7l : ¬ ((7 : Int) < (hv.length : Int)) := by have := E7.out; omega
            have y0 := hR.c0; have y1 := hR.c1; have f0 := hR.f0; have f1 := hR.f1
            have HR7 : Hid (Box _ (w.heap.size + 1) (.slice (some ⟨d0, 0, none⟩) t.length g0) (.slice (some ⟨d1, 0, none⟩) hv.length g1)) := (hR.set0 (.slice (some ⟨d0, 0, none⟩) t.length g0)).set1 (.slice (some ⟨d1, 0, none⟩) hv.length g1)
            have T7 := ((h0.out hQ (by omega)).other (w.heap.size + 1) 0 (by omega) (.slice (some ⟨d0, 0, none⟩) t.length g0)).other (w.heap.size + 1) 1 (by omega) (.slice (some ⟨d1, 0, none⟩) hv.length g1)
            rw [mixL_end] at hM
            have P7 := (hM.other (w.heap.size + 1) 0 (by omega) (.slice (some ⟨d0, 0, none⟩) t.length g0)).other (w.heap.size + 1) 1 (by omega) (.slice (some ⟨d1, 0, none⟩) hv.length g1)
            have L7 := Below.set (Below.set (L4.trans (hQ.below (by omega) L4.size)) (w.heap.size + 1) 0 (by omega) (.slice (some ⟨d0, 0, none⟩) t.length g0)) (w.heap.size + 1) 1 (by omega) (.slice (some ⟨d1, 0, none⟩) hv.length g1)
            clear hM hQ hR hX
            go_wp2
            have i0 := HR7.out.c0; have i1 := HR7.out.c1
            refine bodyPost_ret (v := .tuple #[.agg #[.slice (some ⟨d0, 0, none⟩) t.length g0, .slice (some ⟨d1, 0, none⟩) hv.length g1], .bool true]) ?_ rfl ?_
            · simp [results, Try.results63, go_sem, i0, i1]
            · exact (spost_some (by rw [HN.out, ET.out]) (by rw [keepL_len]; exact E7.out.symm) (by omega) k1 T7 P7 L7)

end Go.Proofs.Ytokdhbegkbilbaa
