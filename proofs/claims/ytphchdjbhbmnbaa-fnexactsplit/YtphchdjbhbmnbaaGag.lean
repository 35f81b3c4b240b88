/-
  Plain lemmas and contracts of functions for the other texts of this seat: Jc, L3, Cl, Ix, Hd, Al.
-/
import Derived.Test.YtphchdjbhbmnbaaGaf
import Derived.Laws.AppendOwnNone
namespace Go.Proofs.Ytphchdjbhbmnbaa
open Go.RowKit
/-- Each term's own number. -/
def ids : List Int := (List.range 16).map fun (i : Nat) => (i : Int)
theorem ids_length : ids.length = 16 := rfl
theorem ids_at {k : Nat} (h : k < 16) : ids.getD k 0 = (k : Int) := by simp [ids, h]
/-- Two classes become one. -/
def jn (c : List Int) (p : Int × Int) : List Int := reps c (max (c.getD p.1.toNat 0) (c.getD p.2.toNat 0)) (min (c.getD p.1.toNat 0) (c.getD p.2.toNat 0))
theorem jn_length (c : List Int) (p : Int × Int) : (jn c p).length = c.length := reps_length _ _ _
/-- The classes behind the pairs of l. -/
def clsV (l : List (Int × Int)) : List Int := l.foldl jn ids
theorem clsV_step {l : List (Int × Int)} {k : Nat} (hk : k < l.length) : clsV (l.take (k + 1)) = jn (clsV (l.take k)) (l.getD k (0, 0)) := by
  unfold clsV
  rw [List.take_add_one, List.getElem?_eq_getElem hk]
  simp only [Option.toList_some, List.foldl_append, List.foldl_cons, List.foldl_nil]
  rw [List.getD_eq_getElem?_getD, List.getElem?_eq_getElem hk, Option.getD_some]
/-- Sixteen numbers, each of them a term. -/
def Cls (c : List Int) : Prop := c.length = 16 ∧ ∀ k, k < 16 → 0 ≤ c.getD k 0 ∧ c.getD k 0 < 16
theorem Cls.ids : Cls ids := ⟨rfl, fun k hk => by rw [ids_at hk]; omega⟩
theorem Cls.reps {c : List Int} (h : Cls c) {u v : Int} (hv0 : 0 ≤ v) (hv1 : v < 16) : Cls (reps c u v) := by
  refine ⟨by rw [reps_length]; exact h.1, fun k hk => ?_⟩
  rw [reps_at c u v (by rw [h.1]; exact hk)]
  unfold rep
  have := h.2 k hk
  split <;> omega
theorem Cls.jn {c : List Int} (h : Cls c) {p : Int × Int} (h0 : 0 ≤ p.1 ∧ p.1 < 16) (h1 : 0 ≤ p.2 ∧ p.2 < 16) : Cls (jn c p) := by
  have := h.2 p.1.toNat (by omega)
  have := h.2 p.2.toNat (by omega)
  exact h.reps (by omega) (by omega)
theorem toks_get {l : List (Int × Int)} (h : toks l = true) {k : Nat} (hk : k < l.length) : (0 ≤ (l.getD k (0, 0)).1 ∧ (l.getD k (0, 0)).1 < 16) ∧ (0 ≤ (l.getD k (0, 0)).2 ∧ (l.getD k (0, 0)).2 < 16) := by
  simpa using toks_at h hk
theorem Cls.take {l : List (Int × Int)} (h : toks l = true) : ∀ k, k ≤ l.length → Cls (clsV (l.take k))
  | 0, _ => by simpa [clsV] using Cls.ids
  | k + 1, hk => by
    rw [clsV_step (by omega)]
    have ht := toks_get h (k := k) (by omega)
    exact (Cls.take h k (by omega)).jn ht.1 ht.2
theorem Cls.all {l : List (Int × Int)} (h : toks l = true) : Cls (clsV l) := by
  have := Cls.take h l.length (Nat.le_refl _)
  rwa [List.take_length] at this
theorem OwnI.zeros (w : World) (t : TypeId) : OwnI (w.alloc (.cells z16 t)) w.heap.size 16 (List.replicate 16 0) 16 := by
  rw [z16_ic]; exact OwnI.new w _ 16 rfl t
theorem OwnI.setCells {w : World} {b n k : Nat} {l : List Int} (h : OwnI w b n l k) (b' : Nat) (hp : b' ≠ b) : ∀ (vs : List Value), OwnI (w.setCells b' 0 vs) b n l k := by
  intro vs
  have go : ∀ (vs : List Value) (o : Nat) (w : World), OwnI w b n l k → OwnI (w.setCells b' o vs) b n l k := by
    intro vs
    induction vs with
    | nil => intro o w h; exact h
    | cons v vs ih => intro o w h; simp only [World.setCells]; exact ih _ _ (h.set_other b' o hp v)
  exact go vs 0 w h
theorem PBox.drew {w : World} {b : Nat} {x y : Int} (h : PBox w b x y) : PBox w.drew b x y := h.below ((Below.refl _ _).drew) h.lt
theorem PBox.range {w : World} {b : Nat} {x y : Int} (h : PBox w b x y) : w.rangeAt b 0 [.int .i64 x, .int .i64 y] := by
  intro j v hv
  match j, hv with
  | 0, hv => simp at hv; subst hv; exact h.c0
  | 1, hv => simp at hv; subst hv; exact h.c1
  | j + 2, hv => simp at hv
theorem OwnI.ofMid {w : World} {b : Nat} {c : List Int} (hl : c.length = 16) (h1 : w.rangeAt b 0 (ic c)) (h2 : w.there b 0 16) (h3 : b < w.heap.size) : OwnI w b 16 c 16 := by
  have hc : ∀ i, i < 16 → w.cell? ⟨b, i, none⟩ = some (.int .i64 (c.getD i 0)) := fun i hi => by
    have := h1 i _ (ic_get c (i := i) (by omega))
    rwa [Nat.zero_add] at this
  refine ⟨h3, fun j hj => ⟨⟨_, hc j hj⟩, ?_⟩, hc⟩
  have := (h2 j hj).2
  rwa [Nat.zero_add] at this

end Go.Proofs.Ytphchdjbhbmnbaa
namespace Go.Proofs.Ytphchdjbhbmnbaa
open Go.RowKit
theorem Try.i3 : ∃ i, Try.prog.info? 3 = some i ∧ i.zero = some (.int .i64 0) ∧ i.size = 1 ∧ i.bytes = 8 := by
  have h : (Try.prog.info? 3).map (fun i => (i.zero, i.size, i.bytes)) = some (some (.int .i64 0), 1, 8) := by kernel_rfl
  cases hi : Try.prog.info? 3 with
  | none => rw [hi] at h; simp at h
  | some i =>
    rw [hi] at h
    simp only [Option.map_some, Option.some.injEq, Prod.mk.injEq] at h
    exact ⟨i, rfl, h.1, h.2.1, h.2.2⟩
theorem Mix.keep {w : World} {b k : Nat} {d c : List Int} (h : Mix w b d c k) (e : d.getD k 0 = c.getD k 0) : Mix w b d c (k + 1) := by
  refine ⟨h.1, h.2.1, fun j hj => ?_⟩
  rw [h.2.2 j hj]
  by_cases g : j < k
  · rw [if_pos g, if_pos (by omega)]
  · rw [if_neg g]
    by_cases q : j = k
    · subst q; rw [if_pos (by omega), e]
    · rw [if_neg (by omega)]
theorem ids_take {k : Nat} (h : k < 16) : ids.take (k + 1) = ids.take k ++ [(k : Int)] := by
  rw [List.take_add_one, List.getElem?_eq_getElem (by rw [ids_length]; exact h)]
  simp [ids]
theorem ids_take_len {k : Nat} (h : k ≤ 16) : (ids.take k).length = k := by rw [List.length_take, ids_length]; omega

set_option maxRecDepth 3000 in
set_option maxHeartbeats 1000000 in
theorem l3classes_any (a0 a1 a2 a3 : Option Addr) (c0 c1 c2 c3 : Nat) (l0 l1 l2 l3 : List (Int × Int)) (w : World) (n0 : l0.length ≤ 1048576) (ht : toks l0 = true) (r0 : PRow w a0 l0) :
    Calls Try.prog 151 #[.agg #[.slice a0 l0.length c0, .slice a1 l1.length c1, .slice a2 l2.length c2, .slice a3 l3.length c3]] w fun e w' => ∃ b c, e = .returned (.slice (some ⟨b, 0, none⟩) 16 c) ∧ w.heap.size ≤ b ∧ OwnI w' b 16 (clsV l0) 16 ∧ Below w.heap.size w w' := by
  have B0 := Box.new w (.slice a0 l0.length c0) (.slice a1 l1.length c1) (.slice a2 l2.length c2) (.slice a3 l3.length c3) 28
  have L0 : Below w.heap.size w (w.alloc (.cells #[.slice a0 l0.length c0, .slice a1 l1.length c1, .slice a2 l2.length c2, .slice a3 l3.length c3] 28)) := (Below.refl _ _).alloc (Nat.le_refl _) _
  obtain ⟨i0, hi, hz0, hz1, hz2⟩ := Try.i3
  have s0 : w.heap.size ≤ (w.alloc (.cells #[.slice a0 l0.length c0, .slice a1 l1.length c1, .slice a2 l2.length c2, .slice a3 l3.length c3] 28)).heap.size := by simp
  go_enter Try.func151, Try.ntmps151
  go_wp2_with fail
  generalize w.alloc (.cells #[.slice a0 l0.length c0, .slice a1 l1.length c1, .slice a2 l2.length c2, .slice a3 l3.length c3] 28) = W at *
  go_loopw [3, 4] (fun v i wr => ∃ k : Nat, k ≤ 16 ∧ i = .int .i64 k ∧ wr.ownsRow W.heap.size 3 1 v k (ic (ids.take k)) ∧ Below W.heap.size W wr) (fun _ i _ => 16 - (intOf i).toNat)
  case atStart => exact ⟨0, by omega, rfl, World.ownsRow_nil _ _ _ _, Below.refl _ _⟩
  case round =>
    obtain ⟨k, hk, rfl, hown, hbw⟩ := hrel
    by_cases hlt : k < 16
    · have HF : Hid (ids.take (k + 1) = ids.take k ++ [(k : Int)]) := ids_take hlt
      generalize ids.take k = ls at *
      have hkn : (k : Int) < 16 := by omega
      go_wp2_with (at_builtin; refine wpList_append_own _ rfl _ _ 44 rfl W.heap.size 3 i0 (.int .i64 0) 1 8 Try.underlying44 hi hz0 hz1 hz2 rfl (by decide) _ _ _ rfl (hown.alloc _) ⟨wr.heap.size, 0, none⟩ 1 1 [.int .i64 k] rfl rfl ?c1 ?c2 ?c3 ?c4 ?c5 ?_)
      case c1 =>
        intro j u hj
        match j, hj with
        | 0, hj => simp at hj; subst hj; simp [Addr.add]
      case c2 => intro u hu; simp at hu; subst hu; rfl
      case c3 => unfold maxLen; omega
      case c4 => omega
      case c5 => have := hbw.size; simp; omega
      · intro v' w4 hown' hg hiff
        have hb2 := (hbw.alloc hbw.size _).grown hg (Nat.le_trans hbw.size (by simp)) (by intro q hq; exact (hown.lt q hq).1)
        clear hiff hg hown hbw
        go_wp2
        first
          | (go_roundw
             case rel => exact ⟨k + 1, by omega, by go_num, by rw [HF.out]; simpa [ic] using hown', hb2⟩
             case measure => simp [intOf]; omega)
          | ((repeat apply Exists.intro); exact ⟨⟨k + 1, by omega, by go_num, by rw [HF.out]; simpa [ic] using hown', hb2⟩, rfl⟩)
    · have hown2 := hown
      rw [show k = 16 by omega] at hown2
      obtain ⟨a, cp, rfl, hr⟩ := IntIn.ofOwns hown2
      clear hown2
      obtain ⟨hl, h0 | ⟨b, rfl, g1, g2, O⟩⟩ := hr
      · omega
      have C1 : OwnI wr b 16 (clsV (l0.take 0)) 16 := by rw [show ids.take 16 = ids from rfl] at O; simpa [clsV] using O
      have L := L0.trans (hbw.mono s0)
      have X := B0.below hbw B0.lt
      have g3 := B0.lt
      have s1 : w.heap.size + 1 ≤ W.heap.size := by omega
      clear hown hbw O hl L0 B0
      generalize W.heap.size = NW at *
      clear g2
      go_wp2_with fail
      go_loopw [5] (fun i wr => ∃ k : Nat, k ≤ l0.length ∧ i = .int .i64 k ∧ OwnI wr b 16 (clsV (l0.take k)) 16 ∧ Box wr w.heap.size (.slice a0 l0.length c0) (.slice a1 l1.length c1) (.slice a2 l2.length c2) (.slice a3 l3.length c3) ∧ Below w.heap.size w wr) (fun i _ => l0.length - (intOf i).toNat)
      case atStart => exact ⟨0, Nat.zero_le _, rfl, C1, X, L⟩
      case round =>
        clear C1 X L
        obtain ⟨k, hk, rfl, C, X, L⟩ := hrel
        by_cases hlt : k < l0.length
        · rcases r0 with hnil | ⟨b0, off, rfl, hb, hc⟩
          · rw [hnil] at hlt; simp at hlt
          have hq0 : wr.cell? ⟨b0, off + k * 2, none⟩ = some (.int .i64 (l0.getD k (0, 0)).1) := by rw [L.cell (p := ⟨b0, _, none⟩) hb]; exact (hc k hlt).1
          have hq1 : wr.cell? ⟨b0, off + k * 2 + 1, none⟩ = some (.int .i64 (l0.getD k (0, 0)).2) := by rw [L.cell (p := ⟨b0, _, none⟩) hb]; exact (hc k hlt).2
          have hkn : (k : Int) < (l0.length : Int) := by omega
          have hk0' : (0 : Int) ≤ (k : Int) := by omega
          have htk := toks_get ht hlt
          have hcs := Cls.take ht k hk
          have hnx := clsV_step hlt
          generalize hp : l0.getD k (0, 0) = p at *
          clear hp hc
          obtain ⟨⟨q1, q2⟩, q3, q4⟩ := htk
          obtain ⟨x, y, rfl, hx, hy⟩ : ∃ x y : Nat, p = ((x : Int), (y : Int)) ∧ x < 16 ∧ y < 16 := ⟨p.1.toNat, p.2.toNat, by rw [Int.toNat_of_nonneg q1, Int.toNat_of_nonneg q3], by omega, by omega⟩
          clear q1 q2 q3 q4
          dsimp only at hq0 hq1
          have HNX : Hid (clsV (l0.take (k + 1)) = jn (clsV (l0.take k)) ((x : Int), (y : Int))) := hnx
          clear hnx ht
          have HL : Hid ((clsV (l0.take k)).length = 16) := hcs.1
          clear hcs
          generalize clsV (l0.take k) = c at *
          have hxi : (x : Int) < 16 := by omega
          have hyi : (y : Int) < 16 := by omega
          have hx0 : (0 : Int) ≤ (x : Int) := by omega
          have hy0 : (0 : Int) ≤ (y : Int) := by omega
          have e0 := X.c0
          have eu := C.2.2 x hx
          have ev := C.2.2 y hy
          have HJ0 : Hid (jn c ((x : Int), (y : Int)) = reps c (max (c.getD x 0) (c.getD y 0)) (min (c.getD x 0) (c.getD y 0))) := by simp [Hid, jn]
          generalize c.getD x 0 = u at *
          generalize c.getD y 0 = v at *
          go_wp2_with fail
          have hS0 : Below w.heap.size w wr.drew ∧ wr.drew.cell? ⟨w.heap.size, 0, none⟩ = some (.slice (some ⟨b0, off, none⟩) l0.length c0) ∧ wr.drew.cell? ⟨b0, off + k * 2, none⟩ = some (.int .i64 x) ∧ wr.drew.cell? ⟨b0, off + k * 2 + 1, none⟩ = some (.int .i64 y) ∧ wr.drew.cell? ⟨b, x, none⟩ = some (.int .i64 u) ∧ wr.drew.cell? ⟨b, y, none⟩ = some (.int .i64 v) := ⟨L.drew, e0, hq0, hq1, eu, ev⟩
          have X2 := X.drew
          have C2 := C.drew
          go_region_held3 (fun w' => Below w.heap.size w w' ∧ w'.cell? ⟨w.heap.size, 0, none⟩ = some (.slice (some ⟨b0, off, none⟩) l0.length c0) ∧ w'.cell? ⟨b0, off + k * 2, none⟩ = some (.int .i64 x) ∧ w'.cell? ⟨b0, off + k * 2 + 1, none⟩ = some (.int .i64 y) ∧ w'.cell? ⟨b, x, none⟩ = some (.int .i64 u) ∧ w'.cell? ⟨b, y, none⟩ = some (.int .i64 v))
            (first | exact hS0 | assumption | (refine ⟨?_, ?_, ?_, ?_, ?_, ?_⟩ <;> assumption))
            (fail)
          replace L := hS0.1
          clear hS0 X C e0 eu ev hq0 hq1
          generalize wr.drew = wd at *
          replace X := X2; replace C := C2
          clear X2 C2
          by_cases huv : v < u
          · have HJ : Hid (jn c ((x : Int), (y : Int)) = reps c u v) := by unfold Hid; rw [HJ0.out, show max u v = u by omega, show min u v = v by omega]
            clear HJ0
            go_wp2_with fail
            go_loopw [8] (fun i wr => ∃ t : Nat, t ≤ 16 ∧ i = .int .i64 t ∧ Mix wr b (reps c u v) c t ∧ Box wr w.heap.size (.slice (some ⟨b0, off, none⟩) l0.length c0) (.slice a1 l1.length c1) (.slice a2 l2.length c2) (.slice a3 l3.length c3) ∧ Below w.heap.size w wr) (fun i _ => 16 - (intOf i).toNat)
            case atStart => exact ⟨0, Nat.zero_le _, rfl, Mix.start _ C, X, L⟩
            case round =>
              clear C X L
              obtain ⟨t, ht, rfl, M, X, L⟩ := hrel
              by_cases hlt2 : t < 16
              · have hkn2 : (t : Int) < 16 := by omega
                have hk02 : (0 : Int) ≤ (t : Int) := by omega
                have hcell := M.2.2 t hlt2
                have hfr := M.2.1 t hlt2
                rw [if_neg (Nat.lt_irrefl t)] at hcell
                have hst := M.step
                have HRA := reps_at c u v (i := t) (by have := HL.out; omega)
                rw [HRA] at hst
                have HZZ : ¬ c.getD t 0 = u → (reps c u v).getD t 0 = c.getD t 0 := fun h => by rw [HRA]; unfold rep; rw [if_neg h]
                clear HRA
                replace HZZ : Hid (¬ c.getD t 0 = u → Mix wr b (reps c u v) c (t + 1)) := fun h => M.keep (HZZ h)
                generalize c.getD t 0 = z at *
                by_cases hz : z = u
                · have HZ : Hid (rep z u v = v) := by unfold Hid rep; rw [if_pos hz]
                  rw [HZ.out] at hst
                  have X2 := X.other b t (by omega) (.int .i64 v)
                  have L2 := Below.set L b t (by omega) (.int .i64 v)
                  clear M X L HZ
                  go_wp2
                  go_roundw
                  case rel => exact ⟨t + 1, by omega, by go_num, hst, X2, L2⟩
                  case measure => simp [intOf]; omega
                · have hst2 : Mix wr b (reps c u v) c (t + 1) := HZZ.out hz
                  clear hst M
                  go_wp2
                  go_roundw
                  case rel => exact ⟨t + 1, by omega, by go_num, hst2, X, L⟩
                  case measure => simp [intOf]; omega
              · have C2 : OwnI wr b 16 (reps c u v) 16 := by obtain rfl : t = 16 := (by omega); exact M.done
                have hge : ¬ ((t : Int) < 16) := by omega
                clear M hlt2
                go_wp2
                go_roundw
                case rel => exact ⟨k + 1, by omega, by go_num, by rw [HNX.out, HJ.out]; exact C2, X, L⟩
                case measure => simp [intOf]; omega
            
          · have HJ : Hid (jn c ((x : Int), (y : Int)) = reps c v u) := by unfold Hid; rw [HJ0.out, show max u v = v by omega, show min u v = u by omega]
            clear HJ0
            go_wp2_with fail
            go_loopw [8] (fun i wr => ∃ t : Nat, t ≤ 16 ∧ i = .int .i64 t ∧ Mix wr b (reps c v u) c t ∧ Box wr w.heap.size (.slice (some ⟨b0, off, none⟩) l0.length c0) (.slice a1 l1.length c1) (.slice a2 l2.length c2) (.slice a3 l3.length c3) ∧ Below w.heap.size w wr) (fun i _ => 16 - (intOf i).toNat)
            case atStart => exact ⟨0, Nat.zero_le _, rfl, Mix.start _ C, X, L⟩
            case round =>
              clear C X L
              obtain ⟨t, ht, rfl, M, X, L⟩ := hrel
              by_cases hlt2 : t < 16
              · have hkn2 : (t : Int) < 16 := by omega
                have hk02 : (0 : Int) ≤ (t : Int) := by omega
                have hcell := M.2.2 t hlt2
                have hfr := M.2.1 t hlt2
                rw [if_neg (Nat.lt_irrefl t)] at hcell
                have hst := M.step
                have HRA := reps_at c v u (i := t) (by have := HL.out; omega)
                rw [HRA] at hst
                have HZZ : ¬ c.getD t 0 = v → (reps c v u).getD t 0 = c.getD t 0 := fun h => by rw [HRA]; unfold rep; rw [if_neg h]
                clear HRA
                replace HZZ : Hid (¬ c.getD t 0 = v → Mix wr b (reps c v u) c (t + 1)) := fun h => M.keep (HZZ h)
                generalize c.getD t 0 = z at *
                by_cases hz : z = v
                · have HZ : Hid (rep z v u = u) := by unfold Hid rep; rw [if_pos hz]
                  rw [HZ.out] at hst
                  have X2 := X.other b t (by omega) (.int .i64 u)
                  have L2 := Below.set L b t (by omega) (.int .i64 u)
                  clear M X L HZ
                  go_wp2
                  go_roundw
                  case rel => exact ⟨t + 1, by omega, by go_num, hst, X2, L2⟩
                  case measure => simp [intOf]; omega
                · have hst2 : Mix wr b (reps c v u) c (t + 1) := HZZ.out hz
                  clear hst M
                  go_wp2
                  go_roundw
                  case rel => exact ⟨t + 1, by omega, by go_num, hst2, X, L⟩
                  case measure => simp [intOf]; omega
              · have C2 : OwnI wr b 16 (reps c v u) 16 := by obtain rfl : t = 16 := (by omega); exact M.done
                have hge : ¬ ((t : Int) < 16) := by omega
                clear M hlt2
                go_wp2
                go_roundw
                case rel => exact ⟨k + 1, by omega, by go_num, by rw [HNX.out, HJ.out]; exact C2, X, L⟩
                case measure => simp [intOf]; omega
            
        · obtain rfl : k = l0.length := by omega
          rw [List.take_length] at C
          have e0 := X.c0
          go_wp2
          go_ret
          exact ⟨b, cp, rfl, by omega, C, L⟩
end Go.Proofs.Ytphchdjbhbmnbaa
namespace Go.Proofs.Ytphchdjbhbmnbaa
open Go.RowKit
set_option linter.unusedSimpArgs false in
set_option maxRecDepth 3000 in
set_option maxHeartbeats 1000000 in
theorem classesOf_any (a0 a1 a2 a3 : Option Addr) (c0 c1 c2 c3 : Nat) (l0 l1 l2 l3 : List (Int × Int)) (w : World) (n0 : l0.length ≤ 1048576) (ht : toks l0 = true) (r0 : PRow w a0 l0) :
    Calls Try.prog 152 #[.agg #[.slice a0 l0.length c0, .slice a1 l1.length c1, .slice a2 l2.length c2, .slice a3 l3.length c3]] w fun e w' => e = .returned (aV (clsV l0)) ∧ Below w.heap.size w w' := by
  have X0 := ((Box.new w (.slice a0 l0.length c0) (.slice a1 l1.length c1) (.slice a2 l2.length c2) (.slice a3 l3.length c3) 28).alloc (.cells z16 102)).alloc (.cells z16 102)
  have R0 := (OwnI.zeros (w.alloc (.cells #[.slice a0 l0.length c0, .slice a1 l1.length c1, .slice a2 l2.length c2, .slice a3 l3.length c3] 28)) 102).alloc (.cells z16 102)
  have C0 := OwnI.zeros ((w.alloc (.cells #[.slice a0 l0.length c0, .slice a1 l1.length c1, .slice a2 l2.length c2, .slice a3 l3.length c3] 28)).alloc (.cells z16 102)) 102
  have L0 : Below w.heap.size w (((w.alloc (.cells #[.slice a0 l0.length c0, .slice a1 l1.length c1, .slice a2 l2.length c2, .slice a3 l3.length c3] 28)).alloc (.cells z16 102)).alloc (.cells z16 102)) := (((Below.refl _ _).alloc (Nat.le_refl _) _).alloc (by simp) _).alloc (by simp; omega) _
  rw [World.size_alloc] at R0 C0
  rw [World.size_alloc] at C0
  go_enter Try.func152, Try.ntmps152
  go_wp2_with fail
  generalize (((w.alloc (.cells #[.slice a0 l0.length c0, .slice a1 l1.length c1, .slice a2 l2.length c2, .slice a3 l3.length c3] 28)).alloc (.cells z16 102)).alloc (.cells z16 102)) = W at *
  go_loopw [7] (fun i wr => ∃ k : Nat, k ≤ 16 ∧ i = .int .i64 k ∧ Mix wr (w.heap.size + 1 + 1) ids (List.replicate 16 0) k ∧ OwnI wr (w.heap.size + 1) 16 (List.replicate 16 0) 16 ∧ Box wr w.heap.size (.slice a0 l0.length c0) (.slice a1 l1.length c1) (.slice a2 l2.length c2) (.slice a3 l3.length c3) ∧ Below w.heap.size w wr) (fun i _ => 16 - (intOf i).toNat)
  case atStart => exact ⟨0, Nat.zero_le _, rfl, Mix.start _ C0, R0, X0, L0⟩
  case round =>
    clear X0 R0 C0 L0
    obtain ⟨k, hk, rfl, M, R, X, L⟩ := hrel
    by_cases hlt : k < 16
    · have hkn : (k : Int) < 16 := by omega
      have hk0' : (0 : Int) ≤ (k : Int) := by omega
      have hcell := M.2.2 k hlt
      have hfr := M.2.1 k hlt
      have hst := M.step
      rw [ids_at hlt] at hst
      have R2 := R.set_other (w.heap.size + 1 + 1) k (by omega) (.int .i64 k)
      have X2 := X.other (w.heap.size + 1 + 1) k (by omega) (.int .i64 k)
      have L2 := Below.set L (w.heap.size + 1 + 1) k (by omega) (.int .i64 k)
      generalize (if k < k then ids.getD k 0 else (List.replicate 16 (0 : Int)).getD k 0) = x at *
      clear M R X L
      go_wp2
      go_roundw
      case rel => exact ⟨k + 1, by omega, by go_num, hst, R2, X2, L2⟩
      case measure => simp [intOf]; omega
    · have D : OwnI wr (w.heap.size + 1 + 1) 16 ids 16 := by obtain rfl : k = 16 := by omega
                                                             exact M.done
      clear M
      have y0 := X.c0
      clear X
      go_wp2_with fail
      clear y0 hlt
      have C1 : OwnI wr (w.heap.size + 1 + 1) 16 (clsV (l0.take 0)) 16 := by simpa [clsV] using D
      clear D
      go_loopw [17] (fun i wr => ∃ k : Nat, k ≤ l0.length ∧ i = .int .i64 k ∧ OwnI wr (w.heap.size + 1 + 1) 16 (clsV (l0.take k)) 16 ∧ OwnI wr (w.heap.size + 1) 16 (List.replicate 16 0) 16 ∧ Below w.heap.size w wr) (fun i _ => l0.length - (intOf i).toNat)
      case atStart => exact ⟨0, Nat.zero_le _, rfl, C1, R, L⟩
      case round =>
        clear C1 R L
        obtain ⟨k, hk, rfl, C, R, L⟩ := hrel
        by_cases hlt : k < l0.length
        · rcases r0 with hnil | ⟨b, off, rfl, hb, hc⟩
          · rw [hnil] at hlt; simp at hlt
          have hq0 : wr.cell? ⟨b, off + k * 2, none⟩ = some (.int .i64 (l0.getD k (0, 0)).1) := by rw [L.cell (p := ⟨b, _, none⟩) hb]; exact (hc k hlt).1
          have hq1 : wr.cell? ⟨b, off + k * 2 + 1, none⟩ = some (.int .i64 (l0.getD k (0, 0)).2) := by rw [L.cell (p := ⟨b, _, none⟩) hb]; exact (hc k hlt).2
          have hkn : (k : Int) < (l0.length : Int) := by omega
          have hk0' : (0 : Int) ≤ (k : Int) := by omega
          have htk := toks_get ht hlt
          have hcs := Cls.take ht k hk
          have hnx := clsV_step hlt
          have hnl := (Cls.take ht (k + 1) hlt).1
          generalize hp : l0.getD k (0, 0) = p at *
          clear hp hc
          obtain ⟨⟨q1, q2⟩, q3, q4⟩ := htk
          obtain ⟨x, y, rfl, hx, hy⟩ : ∃ x y : Nat, p = ((x : Int), (y : Int)) ∧ x < 16 ∧ y < 16 := ⟨p.1.toNat, p.2.toNat, by rw [Int.toNat_of_nonneg q1, Int.toNat_of_nonneg q3], by omega, by omega⟩
          clear q1 q2 q3 q4
          dsimp only at hq0 hq1
          rw [hnx] at hnl
          have HNX : Hid (clsV (l0.take (k + 1)) = jn (clsV (l0.take k)) ((x : Int), (y : Int))) := hnx
          clear hnx ht
          have hX := hcs.2 x hx
          have hY := hcs.2 y hy
          have HL := hcs.1
          clear hcs
          generalize clsV (l0.take k) = c at *
          have HJ : Hid (jn c ((x : Int), (y : Int)) = reps c (max (c.getD x 0) (c.getD y 0)) (min (c.getD x 0) (c.getD y 0))) := by simp [Hid, jn]
          go_wp2_with fail
          have B1 := PBox.new wr x y 69
          have L1 := L.alloc L.size (.cells #[.int .i64 (x : Int), .int .i64 (y : Int)] 69)
          have C1 := C.alloc (.cells #[.int .i64 (x : Int), .int .i64 (y : Int)] 69)
          have R1 := R.alloc (.cells #[.int .i64 (x : Int), .int .i64 (y : Int)] 69)
          have s1 := C.1
          have s2 := B1.lt
          have s0 := L1.size
          clear L C R hq0 hq1 hb
          generalize wr.alloc (.cells #[.int .i64 (x : Int), .int .i64 (y : Int)] 69) = W2 at *
          generalize wr.heap.size = q at *
          replace L1 := L1.drew; replace C1 := C1.drew; replace R1 := R1.drew; replace B1 := B1.drew
          have u67 := Try.underlying102
          have u60 := Try.underlying69
          have i67 : (Try.prog.info? 102).map (·.size) = some (ic c).length := by rw [ic_length, HL]; kernel_rfl
          have i60 : (Try.prog.info? 69).map (·.size) = some [Value.int .i64 (x : Int), Value.int .i64 (y : Int)].length := by kernel_rfl
          replace HL : Hid (c.length = 16) := HL
          have HNL : Hid ((jn c ((x : Int), (y : Int))).length = 16) := hnl
          clear hnl
          refine wp_region_held_drew (S := fun _ => True) (by kernel_rfl) trivial (fun _ => ?_)
          generalize W2.drew = W3 at *
          refine wpAnyH_ready (rs := [0, 1, 2]) (by kernel_rfl) (by simp) ?_
          refine AllReadyH.cons rfl (fun K hK => ?_) ?_
          · rw [if_pos (by rfl)]
            refine wp_load_mid 102 _ rfl _ 0 rfl (ic c) _ (C1.range HL.out) u67 rfl i67 ?_
            refine hK.out _ _ trivial (fun _ => ?_)
            clear hK K
            simp only [Act.put, List.setIfInBounds_toArray, List.set_cons_zero, List.set_cons_succ]
            refine wpAnyH_ready (rs := [1, 2]) (by kernel_rfl) (by simp) ?_
            refine AllReadyH.cons rfl (fun K hK => ?_) ?_
            · rw [if_pos (by rfl)]
              refine wp_load_mid 102 _ rfl _ 0 rfl (ic c) _ (C1.range HL.out) u67 rfl i67 ?_
              refine hK.out _ _ trivial (fun _ => ?_)
              clear hK K
              simp only [Act.put, List.setIfInBounds_toArray, List.set_cons_zero, List.set_cons_succ]
              refine wpAnyH_ready (rs := [2]) (by kernel_rfl) (by simp) ?_
              refine AllReadyH.cons rfl (fun K hK => ?_) ?_
              · rw [if_pos (by rfl)]
                refine wp_load_mid 69 _ rfl _ 0 rfl [.int .i64 (x : Int), .int .i64 (y : Int)] _ B1.range u60 rfl i60 ?_
                refine hK.out _ _ trivial (fun _ => ?_)
                clear hK K
                simp only [Act.put, List.setIfInBounds_toArray, List.set_cons_zero, List.set_cons_succ]
                refine wpAnyH_ready (rs := [3]) (by kernel_rfl) (by simp) ?_
                refine AllReadyH.cons rfl (fun K hK => ?_) ?_
                · rw [if_pos (by rfl)]
                  go_simp
                  refine (of_any c x y _ HL.out hx hy).mono ?_
                  rintro e u0 ⟨rfl, h0⟩
                  have C2 := C1.below h0 C1.1; have R2 := R1.below h0 R1.1; have B2 := B1.below h0 B1.lt; have L2 := L1.trans (h0.mono L1.size); clear h0
                  refine hK.out _ _ trivial (fun _ => ?_)
                  clear hK K
                  refine wpAnyH_ready (rs := [4]) (by kernel_rfl) (by simp) ?_
                  refine AllReadyH.cons rfl (fun K hK => ?_) ?_
                  · rw [if_pos (by rfl)]
                    go_simp
                    refine (joined_any c _ _ HL.out hX.1 hX.2 hY.1 hY.2 _).mono ?_
                    rintro e u1 ⟨rfl, h1⟩
                    have C3 := C2.below h1 C2.1; have R3 := R2.below h1 R2.1; have L3 := L2.trans (h1.mono L2.size); clear h1
                    rw [← HJ.out]
                    unfold aV
                    refine hK.out _ _ trivial (fun _ => ?_)
                    clear hK K
                    refine wpAnyH_ready (rs := [5]) (by kernel_rfl) (by simp) ?_
                    refine AllReadyH.cons rfl (fun K hK => ?_) ?_
                    · rw [if_pos (by rfl)]
                      refine wp_store_mid 102 _ _ rfl _ 0 (ic (jn c ((x : Int), (y : Int)))).toArray rfl rfl (by rw [ic_size, HNL.out]; exact C3.there) (by rw [ic_size, HNL.out]; kernel_rfl) (ic_one _) ?_
                      refine hK.out _ _ trivial (fun _ => ?_)
                      clear hK K
                      simp only [Act.put, List.setIfInBounds_toArray, List.set_cons_zero, List.set_cons_succ]
                      refine wpAnyH_done (by kernel_rfl) ?_ _
                      have C4 := C3.setAll HNL.out
                      have R4 := R3.setCells (w.heap.size + 1 + 1) (by omega) (ic (jn c ((x : Int), (y : Int))))
                      have L4 := Below.setCells (w.heap.size + 1 + 1) (by omega) (ic (jn c ((x : Int), (y : Int)))) 0 _ L3
                      clear C3 R3 L3
                      generalize World.setCells _ (w.heap.size + 1 + 1) 0 (ic (jn c ((x : Int), (y : Int)))) = u2 at *
                      go_wp2
                      go_roundw
                      case rel => exact ⟨k + 1, by omega, by go_num, by rw [HNX.out]; exact C4, R4, L4⟩
                      case measure => simp [intOf]; omega
                    exact AllReadyH.nil
                  exact AllReadyH.nil
                exact AllReadyH.nil
              exact AllReadyH.nil
            refine AllReadyH.cons rfl (fun K hK => ?_) ?_
            · rw [if_pos (by rfl)]
              refine wp_load_mid 69 _ rfl _ 0 rfl [.int .i64 (x : Int), .int .i64 (y : Int)] _ B1.range u60 rfl i60 ?_
              refine hK.out _ _ trivial (fun _ => ?_)
              clear hK K
              simp only [Act.put, List.setIfInBounds_toArray, List.set_cons_zero, List.set_cons_succ]
              refine wpAnyH_ready (rs := [1]) (by kernel_rfl) (by simp) ?_
              refine AllReadyH.cons rfl (fun K hK => ?_) ?_
              · rw [if_pos (by rfl)]
                refine wp_load_mid 102 _ rfl _ 0 rfl (ic c) _ (C1.range HL.out) u67 rfl i67 ?_
                refine hK.out _ _ trivial (fun _ => ?_)
                clear hK K
                simp only [Act.put, List.setIfInBounds_toArray, List.set_cons_zero, List.set_cons_succ]
                refine wpAnyH_ready (rs := [3]) (by kernel_rfl) (by simp) ?_
                refine AllReadyH.cons rfl (fun K hK => ?_) ?_
                · rw [if_pos (by rfl)]
                  go_simp
                  refine (of_any c x y _ HL.out hx hy).mono ?_
                  rintro e u0 ⟨rfl, h0⟩
                  have C2 := C1.below h0 C1.1; have R2 := R1.below h0 R1.1; have B2 := B1.below h0 B1.lt; have L2 := L1.trans (h0.mono L1.size); clear h0
                  refine hK.out _ _ trivial (fun _ => ?_)
                  clear hK K
                  refine wpAnyH_ready (rs := [4]) (by kernel_rfl) (by simp) ?_
                  refine AllReadyH.cons rfl (fun K hK => ?_) ?_
                  · rw [if_pos (by rfl)]
                    go_simp
                    refine (joined_any c _ _ HL.out hX.1 hX.2 hY.1 hY.2 _).mono ?_
                    rintro e u1 ⟨rfl, h1⟩
                    have C3 := C2.below h1 C2.1; have R3 := R2.below h1 R2.1; have L3 := L2.trans (h1.mono L2.size); clear h1
                    rw [← HJ.out]
                    unfold aV
                    refine hK.out _ _ trivial (fun _ => ?_)
                    clear hK K
                    refine wpAnyH_ready (rs := [5]) (by kernel_rfl) (by simp) ?_
                    refine AllReadyH.cons rfl (fun K hK => ?_) ?_
                    · rw [if_pos (by rfl)]
                      refine wp_store_mid 102 _ _ rfl _ 0 (ic (jn c ((x : Int), (y : Int)))).toArray rfl rfl (by rw [ic_size, HNL.out]; exact C3.there) (by rw [ic_size, HNL.out]; kernel_rfl) (ic_one _) ?_
                      refine hK.out _ _ trivial (fun _ => ?_)
                      clear hK K
                      simp only [Act.put, List.setIfInBounds_toArray, List.set_cons_zero, List.set_cons_succ]
                      refine wpAnyH_done (by kernel_rfl) ?_ _
                      have C4 := C3.setAll HNL.out
                      have R4 := R3.setCells (w.heap.size + 1 + 1) (by omega) (ic (jn c ((x : Int), (y : Int))))
                      have L4 := Below.setCells (w.heap.size + 1 + 1) (by omega) (ic (jn c ((x : Int), (y : Int)))) 0 _ L3
                      clear C3 R3 L3
                      generalize World.setCells _ (w.heap.size + 1 + 1) 0 (ic (jn c ((x : Int), (y : Int)))) = u2 at *
                      go_wp2
                      go_roundw
                      case rel => exact ⟨k + 1, by omega, by go_num, by rw [HNX.out]; exact C4, R4, L4⟩
                      case measure => simp [intOf]; omega
                    exact AllReadyH.nil
                  exact AllReadyH.nil
                exact AllReadyH.nil
              exact AllReadyH.nil
            exact AllReadyH.nil
          refine AllReadyH.cons rfl (fun K hK => ?_) ?_
          · rw [if_pos (by rfl)]
            refine wp_load_mid 102 _ rfl _ 0 rfl (ic c) _ (C1.range HL.out) u67 rfl i67 ?_
            refine hK.out _ _ trivial (fun _ => ?_)
            clear hK K
            simp only [Act.put, List.setIfInBounds_toArray, List.set_cons_zero, List.set_cons_succ]
            refine wpAnyH_ready (rs := [0, 2]) (by kernel_rfl) (by simp) ?_
            refine AllReadyH.cons rfl (fun K hK => ?_) ?_
            · rw [if_pos (by rfl)]
              refine wp_load_mid 102 _ rfl _ 0 rfl (ic c) _ (C1.range HL.out) u67 rfl i67 ?_
              refine hK.out _ _ trivial (fun _ => ?_)
              clear hK K
              simp only [Act.put, List.setIfInBounds_toArray, List.set_cons_zero, List.set_cons_succ]
              refine wpAnyH_ready (rs := [2]) (by kernel_rfl) (by simp) ?_
              refine AllReadyH.cons rfl (fun K hK => ?_) ?_
              · rw [if_pos (by rfl)]
                refine wp_load_mid 69 _ rfl _ 0 rfl [.int .i64 (x : Int), .int .i64 (y : Int)] _ B1.range u60 rfl i60 ?_
                refine hK.out _ _ trivial (fun _ => ?_)
                clear hK K
                simp only [Act.put, List.setIfInBounds_toArray, List.set_cons_zero, List.set_cons_succ]
                refine wpAnyH_ready (rs := [3]) (by kernel_rfl) (by simp) ?_
                refine AllReadyH.cons rfl (fun K hK => ?_) ?_
                · rw [if_pos (by rfl)]
                  go_simp
                  refine (of_any c x y _ HL.out hx hy).mono ?_
                  rintro e u0 ⟨rfl, h0⟩
                  have C2 := C1.below h0 C1.1; have R2 := R1.below h0 R1.1; have B2 := B1.below h0 B1.lt; have L2 := L1.trans (h0.mono L1.size); clear h0
                  refine hK.out _ _ trivial (fun _ => ?_)
                  clear hK K
                  refine wpAnyH_ready (rs := [4]) (by kernel_rfl) (by simp) ?_
                  refine AllReadyH.cons rfl (fun K hK => ?_) ?_
                  · rw [if_pos (by rfl)]
                    go_simp
                    refine (joined_any c _ _ HL.out hX.1 hX.2 hY.1 hY.2 _).mono ?_
                    rintro e u1 ⟨rfl, h1⟩
                    have C3 := C2.below h1 C2.1; have R3 := R2.below h1 R2.1; have L3 := L2.trans (h1.mono L2.size); clear h1
                    rw [← HJ.out]
                    unfold aV
                    refine hK.out _ _ trivial (fun _ => ?_)
                    clear hK K
                    refine wpAnyH_ready (rs := [5]) (by kernel_rfl) (by simp) ?_
                    refine AllReadyH.cons rfl (fun K hK => ?_) ?_
                    · rw [if_pos (by rfl)]
                      refine wp_store_mid 102 _ _ rfl _ 0 (ic (jn c ((x : Int), (y : Int)))).toArray rfl rfl (by rw [ic_size, HNL.out]; exact C3.there) (by rw [ic_size, HNL.out]; kernel_rfl) (ic_one _) ?_
                      refine hK.out _ _ trivial (fun _ => ?_)
                      clear hK K
                      simp only [Act.put, List.setIfInBounds_toArray, List.set_cons_zero, List.set_cons_succ]
                      refine wpAnyH_done (by kernel_rfl) ?_ _
                      have C4 := C3.setAll HNL.out
                      have R4 := R3.setCells (w.heap.size + 1 + 1) (by omega) (ic (jn c ((x : Int), (y : Int))))
                      have L4 := Below.setCells (w.heap.size + 1 + 1) (by omega) (ic (jn c ((x : Int), (y : Int)))) 0 _ L3
                      clear C3 R3 L3
                      generalize World.setCells _ (w.heap.size + 1 + 1) 0 (ic (jn c ((x : Int), (y : Int)))) = u2 at *
                      go_wp2
                      go_roundw
                      case rel => exact ⟨k + 1, by omega, by go_num, by rw [HNX.out]; exact C4, R4, L4⟩
                      case measure => simp [intOf]; omega
                    exact AllReadyH.nil
                  exact AllReadyH.nil
                exact AllReadyH.nil
              exact AllReadyH.nil
            refine AllReadyH.cons rfl (fun K hK => ?_) ?_
            · rw [if_pos (by rfl)]
              refine wp_load_mid 69 _ rfl _ 0 rfl [.int .i64 (x : Int), .int .i64 (y : Int)] _ B1.range u60 rfl i60 ?_
              refine hK.out _ _ trivial (fun _ => ?_)
              clear hK K
              simp only [Act.put, List.setIfInBounds_toArray, List.set_cons_zero, List.set_cons_succ]
              refine wpAnyH_ready (rs := [0, 3]) (by kernel_rfl) (by simp) ?_
              refine AllReadyH.cons rfl (fun K hK => ?_) ?_
              · rw [if_pos (by rfl)]
                refine wp_load_mid 102 _ rfl _ 0 rfl (ic c) _ (C1.range HL.out) u67 rfl i67 ?_
                refine hK.out _ _ trivial (fun _ => ?_)
                clear hK K
                simp only [Act.put, List.setIfInBounds_toArray, List.set_cons_zero, List.set_cons_succ]
                refine wpAnyH_ready (rs := [3]) (by kernel_rfl) (by simp) ?_
                refine AllReadyH.cons rfl (fun K hK => ?_) ?_
                · rw [if_pos (by rfl)]
                  go_simp
                  refine (of_any c x y _ HL.out hx hy).mono ?_
                  rintro e u0 ⟨rfl, h0⟩
                  have C2 := C1.below h0 C1.1; have R2 := R1.below h0 R1.1; have B2 := B1.below h0 B1.lt; have L2 := L1.trans (h0.mono L1.size); clear h0
                  refine hK.out _ _ trivial (fun _ => ?_)
                  clear hK K
                  refine wpAnyH_ready (rs := [4]) (by kernel_rfl) (by simp) ?_
                  refine AllReadyH.cons rfl (fun K hK => ?_) ?_
                  · rw [if_pos (by rfl)]
                    go_simp
                    refine (joined_any c _ _ HL.out hX.1 hX.2 hY.1 hY.2 _).mono ?_
                    rintro e u1 ⟨rfl, h1⟩
                    have C3 := C2.below h1 C2.1; have R3 := R2.below h1 R2.1; have L3 := L2.trans (h1.mono L2.size); clear h1
                    rw [← HJ.out]
                    unfold aV
                    refine hK.out _ _ trivial (fun _ => ?_)
                    clear hK K
                    refine wpAnyH_ready (rs := [5]) (by kernel_rfl) (by simp) ?_
                    refine AllReadyH.cons rfl (fun K hK => ?_) ?_
                    · rw [if_pos (by rfl)]
                      refine wp_store_mid 102 _ _ rfl _ 0 (ic (jn c ((x : Int), (y : Int)))).toArray rfl rfl (by rw [ic_size, HNL.out]; exact C3.there) (by rw [ic_size, HNL.out]; kernel_rfl) (ic_one _) ?_
                      refine hK.out _ _ trivial (fun _ => ?_)
                      clear hK K
                      simp only [Act.put, List.setIfInBounds_toArray, List.set_cons_zero, List.set_cons_succ]
                      refine wpAnyH_done (by kernel_rfl) ?_ _
                      have C4 := C3.setAll HNL.out
                      have R4 := R3.setCells (w.heap.size + 1 + 1) (by omega) (ic (jn c ((x : Int), (y : Int))))
                      have L4 := Below.setCells (w.heap.size + 1 + 1) (by omega) (ic (jn c ((x : Int), (y : Int)))) 0 _ L3
                      clear C3 R3 L3
                      generalize World.setCells _ (w.heap.size + 1 + 1) 0 (ic (jn c ((x : Int), (y : Int)))) = u2 at *
                      go_wp2
                      go_roundw
                      case rel => exact ⟨k + 1, by omega, by go_num, by rw [HNX.out]; exact C4, R4, L4⟩
                      case measure => simp [intOf]; omega
                    exact AllReadyH.nil
                  exact AllReadyH.nil
                exact AllReadyH.nil
              refine AllReadyH.cons rfl (fun K hK => ?_) ?_
              · rw [if_pos (by rfl)]
                go_simp
                refine (of_any c x y _ HL.out hx hy).mono ?_
                rintro e u0 ⟨rfl, h0⟩
                have C2 := C1.below h0 C1.1; have R2 := R1.below h0 R1.1; have B2 := B1.below h0 B1.lt; have L2 := L1.trans (h0.mono L1.size); clear h0
                refine hK.out _ _ trivial (fun _ => ?_)
                clear hK K
                refine wpAnyH_ready (rs := [0]) (by kernel_rfl) (by simp) ?_
                refine AllReadyH.cons rfl (fun K hK => ?_) ?_
                · rw [if_pos (by rfl)]
                  refine wp_load_mid 102 _ rfl _ 0 rfl (ic c) _ (C2.range HL.out) u67 rfl i67 ?_
                  refine hK.out _ _ trivial (fun _ => ?_)
                  clear hK K
                  simp only [Act.put, List.setIfInBounds_toArray, List.set_cons_zero, List.set_cons_succ]
                  refine wpAnyH_ready (rs := [4]) (by kernel_rfl) (by simp) ?_
                  refine AllReadyH.cons rfl (fun K hK => ?_) ?_
                  · rw [if_pos (by rfl)]
                    go_simp
                    refine (joined_any c _ _ HL.out hX.1 hX.2 hY.1 hY.2 _).mono ?_
                    rintro e u1 ⟨rfl, h1⟩
                    have C3 := C2.below h1 C2.1; have R3 := R2.below h1 R2.1; have L3 := L2.trans (h1.mono L2.size); clear h1
                    rw [← HJ.out]
                    unfold aV
                    refine hK.out _ _ trivial (fun _ => ?_)
                    clear hK K
                    refine wpAnyH_ready (rs := [5]) (by kernel_rfl) (by simp) ?_
                    refine AllReadyH.cons rfl (fun K hK => ?_) ?_
                    · rw [if_pos (by rfl)]
                      refine wp_store_mid 102 _ _ rfl _ 0 (ic (jn c ((x : Int), (y : Int)))).toArray rfl rfl (by rw [ic_size, HNL.out]; exact C3.there) (by rw [ic_size, HNL.out]; kernel_rfl) (ic_one _) ?_
                      refine hK.out _ _ trivial (fun _ => ?_)
                      clear hK K
                      simp only [Act.put, List.setIfInBounds_toArray, List.set_cons_zero, List.set_cons_succ]
                      refine wpAnyH_done (by kernel_rfl) ?_ _
                      have C4 := C3.setAll HNL.out
                      have R4 := R3.setCells (w.heap.size + 1 + 1) (by omega) (ic (jn c ((x : Int), (y : Int))))
                      have L4 := Below.setCells (w.heap.size + 1 + 1) (by omega) (ic (jn c ((x : Int), (y : Int)))) 0 _ L3
                      clear C3 R3 L3
                      generalize World.setCells _ (w.heap.size + 1 + 1) 0 (ic (jn c ((x : Int), (y : Int)))) = u2 at *
                      go_wp2
                      go_roundw
                      case rel => exact ⟨k + 1, by omega, by go_num, by rw [HNX.out]; exact C4, R4, L4⟩
                      case measure => simp [intOf]; omega
                    exact AllReadyH.nil
                  exact AllReadyH.nil
                exact AllReadyH.nil
              exact AllReadyH.nil
            exact AllReadyH.nil
          refine AllReadyH.cons rfl (fun K hK => ?_) ?_
          · rw [if_pos (by rfl)]
            refine wp_load_mid 69 _ rfl _ 0 rfl [.int .i64 (x : Int), .int .i64 (y : Int)] _ B1.range u60 rfl i60 ?_
            refine hK.out _ _ trivial (fun _ => ?_)
            clear hK K
            simp only [Act.put, List.setIfInBounds_toArray, List.set_cons_zero, List.set_cons_succ]
            refine wpAnyH_ready (rs := [0, 1]) (by kernel_rfl) (by simp) ?_
            refine AllReadyH.cons rfl (fun K hK => ?_) ?_
            · rw [if_pos (by rfl)]
              refine wp_load_mid 102 _ rfl _ 0 rfl (ic c) _ (C1.range HL.out) u67 rfl i67 ?_
              refine hK.out _ _ trivial (fun _ => ?_)
              clear hK K
              simp only [Act.put, List.setIfInBounds_toArray, List.set_cons_zero, List.set_cons_succ]
              refine wpAnyH_ready (rs := [1]) (by kernel_rfl) (by simp) ?_
              refine AllReadyH.cons rfl (fun K hK => ?_) ?_
              · rw [if_pos (by rfl)]
                refine wp_load_mid 102 _ rfl _ 0 rfl (ic c) _ (C1.range HL.out) u67 rfl i67 ?_
                refine hK.out _ _ trivial (fun _ => ?_)
                clear hK K
                simp only [Act.put, List.setIfInBounds_toArray, List.set_cons_zero, List.set_cons_succ]
                refine wpAnyH_ready (rs := [3]) (by kernel_rfl) (by simp) ?_
                refine AllReadyH.cons rfl (fun K hK => ?_) ?_
                · rw [if_pos (by rfl)]
                  go_simp
                  refine (of_any c x y _ HL.out hx hy).mono ?_
                  rintro e u0 ⟨rfl, h0⟩
                  have C2 := C1.below h0 C1.1; have R2 := R1.below h0 R1.1; have B2 := B1.below h0 B1.lt; have L2 := L1.trans (h0.mono L1.size); clear h0
                  refine hK.out _ _ trivial (fun _ => ?_)
                  clear hK K
                  refine wpAnyH_ready (rs := [4]) (by kernel_rfl) (by simp) ?_
                  refine AllReadyH.cons rfl (fun K hK => ?_) ?_
                  · rw [if_pos (by rfl)]
                    go_simp
                    refine (joined_any c _ _ HL.out hX.1 hX.2 hY.1 hY.2 _).mono ?_
                    rintro e u1 ⟨rfl, h1⟩
                    have C3 := C2.below h1 C2.1; have R3 := R2.below h1 R2.1; have L3 := L2.trans (h1.mono L2.size); clear h1
                    rw [← HJ.out]
                    unfold aV
                    refine hK.out _ _ trivial (fun _ => ?_)
                    clear hK K
                    refine wpAnyH_ready (rs := [5]) (by kernel_rfl) (by simp) ?_
                    refine AllReadyH.cons rfl (fun K hK => ?_) ?_
                    · rw [if_pos (by rfl)]
                      refine wp_store_mid 102 _ _ rfl _ 0 (ic (jn c ((x : Int), (y : Int)))).toArray rfl rfl (by rw [ic_size, HNL.out]; exact C3.there) (by rw [ic_size, HNL.out]; kernel_rfl) (ic_one _) ?_
                      refine hK.out _ _ trivial (fun _ => ?_)
                      clear hK K
                      simp only [Act.put, List.setIfInBounds_toArray, List.set_cons_zero, List.set_cons_succ]
                      refine wpAnyH_done (by kernel_rfl) ?_ _
                      have C4 := C3.setAll HNL.out
                      have R4 := R3.setCells (w.heap.size + 1 + 1) (by omega) (ic (jn c ((x : Int), (y : Int))))
                      have L4 := Below.setCells (w.heap.size + 1 + 1) (by omega) (ic (jn c ((x : Int), (y : Int)))) 0 _ L3
                      clear C3 R3 L3
                      generalize World.setCells _ (w.heap.size + 1 + 1) 0 (ic (jn c ((x : Int), (y : Int)))) = u2 at *
                      go_wp2
                      go_roundw
                      case rel => exact ⟨k + 1, by omega, by go_num, by rw [HNX.out]; exact C4, R4, L4⟩
                      case measure => simp [intOf]; omega
                    exact AllReadyH.nil
                  exact AllReadyH.nil
                exact AllReadyH.nil
              exact AllReadyH.nil
            refine AllReadyH.cons rfl (fun K hK => ?_) ?_
            · rw [if_pos (by rfl)]
              refine wp_load_mid 102 _ rfl _ 0 rfl (ic c) _ (C1.range HL.out) u67 rfl i67 ?_
              refine hK.out _ _ trivial (fun _ => ?_)
              clear hK K
              simp only [Act.put, List.setIfInBounds_toArray, List.set_cons_zero, List.set_cons_succ]
              refine wpAnyH_ready (rs := [0, 3]) (by kernel_rfl) (by simp) ?_
              refine AllReadyH.cons rfl (fun K hK => ?_) ?_
              · rw [if_pos (by rfl)]
                refine wp_load_mid 102 _ rfl _ 0 rfl (ic c) _ (C1.range HL.out) u67 rfl i67 ?_
                refine hK.out _ _ trivial (fun _ => ?_)
                clear hK K
                simp only [Act.put, List.setIfInBounds_toArray, List.set_cons_zero, List.set_cons_succ]
                refine wpAnyH_ready (rs := [3]) (by kernel_rfl) (by simp) ?_
                refine AllReadyH.cons rfl (fun K hK => ?_) ?_
                · rw [if_pos (by rfl)]
                  go_simp
                  refine (of_any c x y _ HL.out hx hy).mono ?_
                  rintro e u0 ⟨rfl, h0⟩
                  have C2 := C1.below h0 C1.1; have R2 := R1.below h0 R1.1; have B2 := B1.below h0 B1.lt; have L2 := L1.trans (h0.mono L1.size); clear h0
                  refine hK.out _ _ trivial (fun _ => ?_)
                  clear hK K
                  refine wpAnyH_ready (rs := [4]) (by kernel_rfl) (by simp) ?_
                  refine AllReadyH.cons rfl (fun K hK => ?_) ?_
                  · rw [if_pos (by rfl)]
                    go_simp
                    refine (joined_any c _ _ HL.out hX.1 hX.2 hY.1 hY.2 _).mono ?_
                    rintro e u1 ⟨rfl, h1⟩
                    have C3 := C2.below h1 C2.1; have R3 := R2.below h1 R2.1; have L3 := L2.trans (h1.mono L2.size); clear h1
                    rw [← HJ.out]
                    unfold aV
                    refine hK.out _ _ trivial (fun _ => ?_)
                    clear hK K
                    refine wpAnyH_ready (rs := [5]) (by kernel_rfl) (by simp) ?_
                    refine AllReadyH.cons rfl (fun K hK => ?_) ?_
                    · rw [if_pos (by rfl)]
                      refine wp_store_mid 102 _ _ rfl _ 0 (ic (jn c ((x : Int), (y : Int)))).toArray rfl rfl (by rw [ic_size, HNL.out]; exact C3.there) (by rw [ic_size, HNL.out]; kernel_rfl) (ic_one _) ?_
                      refine hK.out _ _ trivial (fun _ => ?_)
                      clear hK K
                      simp only [Act.put, List.setIfInBounds_toArray, List.set_cons_zero, List.set_cons_succ]
                      refine wpAnyH_done (by kernel_rfl) ?_ _
                      have C4 := C3.setAll HNL.out
                      have R4 := R3.setCells (w.heap.size + 1 + 1) (by omega) (ic (jn c ((x : Int), (y : Int))))
                      have L4 := Below.setCells (w.heap.size + 1 + 1) (by omega) (ic (jn c ((x : Int), (y : Int)))) 0 _ L3
                      clear C3 R3 L3
                      generalize World.setCells _ (w.heap.size + 1 + 1) 0 (ic (jn c ((x : Int), (y : Int)))) = u2 at *
                      go_wp2
                      go_roundw
                      case rel => exact ⟨k + 1, by omega, by go_num, by rw [HNX.out]; exact C4, R4, L4⟩
                      case measure => simp [intOf]; omega
                    exact AllReadyH.nil
                  exact AllReadyH.nil
                exact AllReadyH.nil
              refine AllReadyH.cons rfl (fun K hK => ?_) ?_
              · rw [if_pos (by rfl)]
                go_simp
                refine (of_any c x y _ HL.out hx hy).mono ?_
                rintro e u0 ⟨rfl, h0⟩
                have C2 := C1.below h0 C1.1; have R2 := R1.below h0 R1.1; have B2 := B1.below h0 B1.lt; have L2 := L1.trans (h0.mono L1.size); clear h0
                refine hK.out _ _ trivial (fun _ => ?_)
                clear hK K
                refine wpAnyH_ready (rs := [0]) (by kernel_rfl) (by simp) ?_
                refine AllReadyH.cons rfl (fun K hK => ?_) ?_
                · rw [if_pos (by rfl)]
                  refine wp_load_mid 102 _ rfl _ 0 rfl (ic c) _ (C2.range HL.out) u67 rfl i67 ?_
                  refine hK.out _ _ trivial (fun _ => ?_)
                  clear hK K
                  simp only [Act.put, List.setIfInBounds_toArray, List.set_cons_zero, List.set_cons_succ]
                  refine wpAnyH_ready (rs := [4]) (by kernel_rfl) (by simp) ?_
                  refine AllReadyH.cons rfl (fun K hK => ?_) ?_
                  · rw [if_pos (by rfl)]
                    go_simp
                    refine (joined_any c _ _ HL.out hX.1 hX.2 hY.1 hY.2 _).mono ?_
                    rintro e u1 ⟨rfl, h1⟩
                    have C3 := C2.below h1 C2.1; have R3 := R2.below h1 R2.1; have L3 := L2.trans (h1.mono L2.size); clear h1
                    rw [← HJ.out]
                    unfold aV
                    refine hK.out _ _ trivial (fun _ => ?_)
                    clear hK K
                    refine wpAnyH_ready (rs := [5]) (by kernel_rfl) (by simp) ?_
                    refine AllReadyH.cons rfl (fun K hK => ?_) ?_
                    · rw [if_pos (by rfl)]
                      refine wp_store_mid 102 _ _ rfl _ 0 (ic (jn c ((x : Int), (y : Int)))).toArray rfl rfl (by rw [ic_size, HNL.out]; exact C3.there) (by rw [ic_size, HNL.out]; kernel_rfl) (ic_one _) ?_
                      refine hK.out _ _ trivial (fun _ => ?_)
                      clear hK K
                      simp only [Act.put, List.setIfInBounds_toArray, List.set_cons_zero, List.set_cons_succ]
                      refine wpAnyH_done (by kernel_rfl) ?_ _
                      have C4 := C3.setAll HNL.out
                      have R4 := R3.setCells (w.heap.size + 1 + 1) (by omega) (ic (jn c ((x : Int), (y : Int))))
                      have L4 := Below.setCells (w.heap.size + 1 + 1) (by omega) (ic (jn c ((x : Int), (y : Int)))) 0 _ L3
                      clear C3 R3 L3
                      generalize World.setCells _ (w.heap.size + 1 + 1) 0 (ic (jn c ((x : Int), (y : Int)))) = u2 at *
                      go_wp2
                      go_roundw
                      case rel => exact ⟨k + 1, by omega, by go_num, by rw [HNX.out]; exact C4, R4, L4⟩
                      case measure => simp [intOf]; omega
                    exact AllReadyH.nil
                  exact AllReadyH.nil
                exact AllReadyH.nil
              exact AllReadyH.nil
            exact AllReadyH.nil
          exact AllReadyH.nil
        · obtain rfl : k = l0.length := by omega
          rw [List.take_length] at C
          have HC := (Cls.all ht).1
          have hnl : ¬ ((l0.length : Int) < (l0.length : Int)) := by omega
          iterate 18 go_step
          refine wl67 rfl (.tmp 3) rfl _ rfl C HC ?_
          refine ws67 rfl (.tmp 2) (.tmp 27) rfl _ rfl (clsV l0) _ rfl R HC rfl ?_
          have F := R.setAll HC
          have L2 := Below.setCells (w.heap.size + 1) (Nat.le_succ _) (ic (clsV l0)) 0 _ L
          generalize wr.setCells (w.heap.size + 1) 0 (ic (clsV l0)) = wz at *
          iterate 5 go_step
          exact bodyPost_ret (ret67 rfl _ _ _ rfl F HC) rfl ⟨rfl, L2⟩
end Go.Proofs.Ytphchdjbhbmnbaa
namespace Go.Proofs.Ytphchdjbhbmnbaa
open Go.RowKit
def idxV (l : List Int) (v : Int) : Int := match l.findIdx? (fun z => decide (z = v)) with | some i => (i : Int) | none => -1
def hasV (l : List Int) (v : Int) : Bool := l.any fun z => decide (z = v)
theorem idx_hit {l : List Int} {v : Int} {k : Nat} (hk : k < l.length) (h : ∀ j, j < k → ¬ l.getD j 0 = v) (e : l.getD k 0 = v) : idxV l v = (k : Int) ∧ hasV l v = true := by
  have e2 : l[k] = v := by simpa [hk] using e
  have hf : l.findIdx? (fun z => decide (z = v)) = some k := by
    rw [List.findIdx?_eq_some_iff_getElem]
    refine ⟨hk, by simpa using e2, fun j hj => ?_⟩
    have := h j hj
    have hjl : j < l.length := by omega
    simpa [hjl] using this
  refine ⟨by unfold idxV; rw [hf], ?_⟩
  unfold hasV
  rw [List.any_eq_true]
  exact ⟨l[k], List.getElem_mem hk, by simpa using e2⟩
theorem idx_none {l : List Int} {v : Int} (h : ∀ j, j < l.length → ¬ l.getD j 0 = v) : idxV l v = -1 ∧ hasV l v = false := by
  have hn : ∀ z ∈ l, ¬ z = v := by
    intro z hz
    obtain ⟨j, hj, rfl⟩ := List.getElem_of_mem hz
    have := h j hj
    simpa [hj] using this
  have hf : l.findIdx? (fun z => decide (z = v)) = none := by
    rw [List.findIdx?_eq_none_iff]
    intro z hz
    simpa using hn z hz
  refine ⟨by unfold idxV; rw [hf], ?_⟩
  unfold hasV
  rw [List.any_eq_false]
  intro z hz
  simpa using hn z hz
theorem has_idx (l : List Int) (v : Int) : decide (idxV l v ≥ 0) = hasV l v := by
  by_cases h : ∃ z ∈ l, z = v
  · obtain ⟨z, hz, rfl⟩ := h
    obtain ⟨k, hk⟩ : ∃ k, l.findIdx? (fun y => decide (y = z)) = some k := by
      cases hf : l.findIdx? (fun y => decide (y = z)) with
      | some k => exact ⟨k, rfl⟩
      | none =>
        rw [List.findIdx?_eq_none_iff] at hf
        have := hf z hz
        simp at this
    have h2 : hasV l z = true := by unfold hasV; rw [List.any_eq_true]; exact ⟨z, hz, by simp⟩
    rw [h2]
    unfold idxV
    rw [hk]
    simp
  · have hn : ∀ j, j < l.length → ¬ l.getD j 0 = v := by
      intro j hj e
      exact h ⟨l[j], List.getElem_mem hj, by simpa [hj] using e⟩
    rw [(idx_none hn).1, (idx_none hn).2]
    rfl

set_option maxRecDepth 3000 in
set_option maxHeartbeats 1000000 in
theorem index_any (lo hi n cp : Nat) (a : Option Addr) (l : List Int) (v : Int) (w : World) (hn : n ≤ 1048576) (hr : IntIn w lo hi a n l) :
    Calls Try.prog 169 #[.slice a n cp, .int .i64 v] w fun e w' => e = .returned (.int .i64 (idxV l v)) ∧ w' = w := by
  obtain ⟨hl, hr⟩ := hr
  have HL : Hid (l.length = n) := hl
  clear hl
  go_enter Try.func169, Try.ntmps169
  go_wp2_with fail
  go_loop [8] (fun i => ∃ k : Nat, k ≤ n ∧ i = .int .i64 k ∧ Hid (∀ j, j < k → ¬ l.getD j 0 = v)) (fun i => n - (intOf i).toNat)
  case atStart => exact ⟨0, Nat.zero_le _, rfl, fun j hj => absurd hj (Nat.not_lt_zero _)⟩
  case round =>
    obtain ⟨k, hk, rfl, HM⟩ := hrel
    by_cases hlt : k < n
    · rcases hr with h0 | ⟨b, rfl, _, _, O⟩
      · omega
      have ev := O.2.2 k hlt
      have hkn : (k : Int) < (n : Int) := by omega
      have hk0 : (0 : Int) ≤ (k : Int) := by omega
      clear O
      by_cases hf : l.getD k 0 = v
      · have HV : Hid (idxV l v = (k : Int)) := by unfold Hid; exact (idx_hit (by have := HL.out; omega) HM.out hf).1
        rw [hf] at ev
        clear hf
        go_wp2
        go_ret
        exact ⟨by rw [HV.out]; rfl, rfl⟩
      · have HM2 : Hid (∀ j, j < k + 1 → ¬ l.getD j 0 = v) := by
          intro j hj
          by_cases e : j = k
          · subst e; exact hf
          · exact HM.out j (by omega)
        generalize l.getD k 0 = z at *
        have hf2 : ¬ v = z := fun e => hf e.symm
        go_wp2
        go_round
        case rel => exact ⟨k + 1, by omega, by go_num, HM2⟩
        case measure => simp [intOf]; omega
    · have HV : Hid (idxV l v = -1) := by unfold Hid; exact (idx_none (fun j hj => HM.out j (by have := HL.out; omega))).1
      have hge : ¬ ((k : Int) < (n : Int)) := by omega
      go_wp2
      go_ret
      exact ⟨by rw [HV.out]; rfl, rfl⟩

set_option maxRecDepth 3000 in
set_option maxHeartbeats 1000000 in
theorem l3has_any (lo hi n cp : Nat) (a : Option Addr) (l : List Int) (v : Int) (w : World) (hn : n ≤ 1048576) (hr : IntIn w lo hi a n l) :
    Calls Try.prog 216 #[.slice a n cp, .int .i64 v] w fun e w' => e = .returned (.bool (hasV l v)) ∧ w' = w := by
  obtain ⟨hl, hr⟩ := hr
  have HL : Hid (l.length = n) := hl
  clear hl
  go_enter Try.func216, Try.ntmps216
  go_wp2_with fail
  go_loop [5] (fun i => ∃ k : Nat, k ≤ n ∧ i = .int .i64 k ∧ Hid (∀ j, j < k → ¬ l.getD j 0 = v)) (fun i => n - (intOf i).toNat)
  case atStart => exact ⟨0, Nat.zero_le _, rfl, fun j hj => absurd hj (Nat.not_lt_zero _)⟩
  case round =>
    obtain ⟨k, hk, rfl, HM⟩ := hrel
    by_cases hlt : k < n
    · rcases hr with h0 | ⟨b, rfl, _, _, O⟩
      · omega
      have ev := O.2.2 k hlt
      have hkn : (k : Int) < (n : Int) := by omega
      have hk0 : (0 : Int) ≤ (k : Int) := by omega
      clear O
      by_cases hf : l.getD k 0 = v
      · have HV : Hid (hasV l v = true) := by unfold Hid; exact (idx_hit (by have := HL.out; omega) HM.out hf).2
        rw [hf] at ev
        clear hf
        go_wp2
        go_ret
        exact ⟨by rw [HV.out]; rfl, rfl⟩
      · have HM2 : Hid (∀ j, j < k + 1 → ¬ l.getD j 0 = v) := by
          intro j hj
          by_cases e : j = k
          · subst e; exact hf
          · exact HM.out j (by omega)
        generalize l.getD k 0 = z at *
        have hf2 : ¬ v = z := fun e => hf e.symm
        go_wp2
        go_round
        case rel => exact ⟨k + 1, by omega, by go_num, HM2⟩
        case measure => simp [intOf]; omega
    · have HV : Hid (hasV l v = false) := by unfold Hid; exact (idx_none (fun j hj => HM.out j (by have := HL.out; omega))).2
      have hge : ¬ ((k : Int) < (n : Int)) := by omega
      go_wp2
      go_ret
      exact ⟨by rw [HV.out]; rfl, rfl⟩

set_option maxHeartbeats 1000000 in
theorem contains_any (lo hi n cp : Nat) (a : Option Addr) (l : List Int) (v : Int) (w : World) (hn : n ≤ 1048576) (hr : IntIn w lo hi a n l) :
    Calls Try.prog 219 #[.slice a n cp, .int .i64 v] w fun e w' => e = .returned (.bool (hasV l v)) ∧ w' = w := by
  have HV : Hid (decide (idxV l v ≥ 0) = hasV l v) := has_idx l v
  go_enter Try.func219, Try.ntmps219
  go_wp2_with fail
  refine (index_any lo hi n cp a l v _ hn hr).mono ?_
  rintro e wz ⟨rfl, rfl⟩
  generalize idxV l v = q at *
  go_wp2
  go_ret
  exact ⟨by rw [← HV.out]; rfl, rfl⟩
end Go.Proofs.Ytphchdjbhbmnbaa
namespace Go.Proofs.Ytphchdjbhbmnbaa
open Go.RowKit
def headsOf (c : List Int) (l : List (Int × Int)) : List Int := l.map fun p => c.getD p.1.toNat 0
def headsV (c : List Int) (l2 l3 : List (Int × Int)) : List Int := headsOf c l2 ++ headsOf c l3
theorem headsOf_len (c : List Int) (l : List (Int × Int)) : (headsOf c l).length = l.length := by simp [headsOf]
theorem headsOf_step (c : List Int) {l : List (Int × Int)} {k : Nat} (hk : k < l.length) : headsOf c (l.take (k + 1)) = headsOf c (l.take k) ++ [c.getD (l.getD k (0, 0)).1.toNat 0] := by
  unfold headsOf
  rw [List.take_add_one, List.getElem?_eq_getElem hk]
  simp only [Option.toList_some, List.map_append, List.map_cons, List.map_nil]
  rw [List.getD_eq_getElem?_getD (l := l), List.getElem?_eq_getElem hk, Option.getD_some]

set_option maxRecDepth 3000 in
set_option maxHeartbeats 2000000 in
theorem l3heads_any (a0 a1 a2 a3 : Option Addr) (c0 c1 c2 c3 : Nat) (l0 l1 l2 l3 : List (Int × Int)) (b cp : Nat) (c : List Int) (hl : c.length = 16) (w : World) (n2 : l2.length ≤ 1048576) (n3 : l3.length ≤ 1048576) (t2 : toks l2 = true) (t3 : toks l3 = true) (r2 : PRow w a2 l2) (r3 : PRow w a3 l3) (CO : OwnI w b 16 c 16) :
    Calls Try.prog 163 #[.agg #[.slice a0 l0.length c0, .slice a1 l1.length c1, .slice a2 l2.length c2, .slice a3 l3.length c3], .slice (some ⟨b, 0, none⟩) 16 cp] w fun e w' => ∃ a cq, e = .returned (.slice a (headsV c l2 l3).length cq) ∧ IntIn w' w.heap.size w'.heap.size a (headsV c l2 l3).length (headsV c l2 l3) ∧ Below w.heap.size w w' := by
  have CW := CO.alloc (.cells #[.slice a0 l0.length c0, .slice a1 l1.length c1, .slice a2 l2.length c2, .slice a3 l3.length c3] 28)
  have BW := Box.new w (.slice a0 l0.length c0) (.slice a1 l1.length c1) (.slice a2 l2.length c2) (.slice a3 l3.length c3) 28
  have LW : Below w.heap.size w (w.alloc (.cells #[.slice a0 l0.length c0, .slice a1 l1.length c1, .slice a2 l2.length c2, .slice a3 l3.length c3] 28)) := (Below.refl _ _).alloc (Nat.le_refl _) _
  have y2 := BW.c2; have y3 := BW.c3
  have sW : w.heap.size ≤ (w.alloc (.cells #[.slice a0 l0.length c0, .slice a1 l1.length c1, .slice a2 l2.length c2, .slice a3 l3.length c3] 28)).heap.size := by simp
  obtain ⟨i0, hi, hz0, hz1, hz2⟩ := Try.i3
  have HV : Hid (headsV c l2 l3 = headsOf c l2 ++ headsOf c l3) := rfl
  have HHL : Hid (c.length = 16) := hl
  clear hl
  go_enter Try.func163, Try.ntmps163
  go_wp2_with fail
  generalize (w.alloc (.cells #[.slice a0 l0.length c0, .slice a1 l1.length c1, .slice a2 l2.length c2, .slice a3 l3.length c3] 28)) = W at *
  clear y2 y3
  go_loopw [5, 6] (fun v i wr => ∃ k : Nat, k ≤ l2.length ∧ i = .int .i64 k ∧ wr.ownsRow W.heap.size 3 1 v (headsOf c (l2.take k)).length (ic (headsOf c (l2.take k))) ∧ Below W.heap.size W wr) (fun _ i _ => l2.length - (intOf i).toNat)
  case atStart => exact ⟨0, Nat.zero_le _, rfl, World.ownsRow_nil _ _ _ _, Below.refl _ _⟩
  case round =>
    skip
    obtain ⟨k, hk, rfl, hown, hbw⟩ := hrel
    by_cases hlt : k < l2.length
    · rcases r2 with hnil | ⟨b2, off, rfl, hb, hc⟩
      · rw [hnil] at hlt; simp at hlt
      have hq0 : wr.cell? ⟨b2, off + k * 2, none⟩ = some (.int .i64 (l2.getD k (0, 0)).1) := by rw [hbw.cell (p := ⟨b2, _, none⟩) (Nat.lt_of_lt_of_le hb sW)]; rw [LW.cell (p := ⟨b2, _, none⟩) hb]; exact (hc k hlt).1
      have hq1 : wr.cell? ⟨b2, off + k * 2 + 1, none⟩ = some (.int .i64 (l2.getD k (0, 0)).2) := by rw [hbw.cell (p := ⟨b2, _, none⟩) (Nat.lt_of_lt_of_le hb sW)]; rw [LW.cell (p := ⟨b2, _, none⟩) hb]; exact (hc k hlt).2
      have hkn : (k : Int) < (l2.length : Int) := by omega
      have hk0' : (0 : Int) ≤ (k : Int) := by omega
      have htk := (toks_get t2 hlt).1
      have HF : Hid ((headsOf c (l2.take (k + 1))) = (headsOf c (l2.take k)) ++ [c.getD (l2.getD k (0, 0)).1.toNat 0]) := by unfold Hid; rw [headsOf_step c hlt]
      have hle : (headsOf c (l2.take k)).length ≤ 2097152 := by have := headsOf_len c (l2.take k); simp only [List.length_take] at *; omega
      generalize (headsOf c (l2.take k)) = ls at *
      generalize l2.getD k (0, 0) = p at *
      clear hc
      obtain ⟨q1, q2⟩ := htk
      obtain ⟨x, y, rfl, hx⟩ : ∃ (x : Nat) (y : Int), p = ((x : Int), y) ∧ x < 16 := ⟨p.1.toNat, p.2, by rw [Int.toNat_of_nonneg q1], by omega⟩
      clear q1 q2
      dsimp only at hq0 hq1
      rw [Int.toNat_natCast] at HF
      have hxi : (x : Int) < 16 := by omega
      have hx0 : (0 : Int) ≤ (x : Int) := by omega
      have eb := (BW.below hbw BW.lt).c2
      have eu := (CW.below hbw CW.1).2.2 x hx
      have hbw0 := hbw
      have hown0 := hown
      skip
      generalize c.getD x 0 = u at *
      go_wp2_with (at_builtin; refine wpList_append_own _ rfl _ _ 44 rfl W.heap.size 3 i0 (.int .i64 0) 1 8 Try.underlying44 hi hz0 hz1 hz2 rfl (by decide) _ _ _ rfl (hown.alloc _) ⟨wr.heap.size, 0, none⟩ 1 1 [.int .i64 u] rfl rfl ?c1 ?c2 ?c3 ?c4 ?c5 ?_)
      case c1 =>
        intro j u hj
        match j, hj with
        | 0, hj => simp at hj; subst hj; simp [Addr.add]
      case c2 => intro u hu; simp at hu; subst hu; rfl
      case c3 => unfold maxLen; omega
      case c4 => omega
      case c5 => have := hbw0.size; simp; omega
      · intro v' w4 hown' hg hiff
        have hb2 := (hbw.alloc hbw.size _).grown hg (Nat.le_trans hbw.size (by simp)) (by intro q hq; exact (hown.lt q hq).1)
        clear hiff hg hown hbw hown0 hbw0 eu eb
        go_wp2
        first
          | (go_roundw
             case rel => exact ⟨k + 1, by omega, by go_num, by rw [HF.out]; simpa [ic] using hown', hb2⟩
             case measure => simp [intOf]; omega)
          | ((repeat apply Exists.intro); exact ⟨⟨k + 1, by omega, by go_num, by rw [HF.out]; simpa [ic] using hown', hb2⟩, rfl⟩)
    · have hown2 := hown
      rw [show k = l2.length by omega, List.take_length] at hown2
      clear hown
      have hge : ¬ ((k : Int) < (l2.length : Int)) := by omega
      have eb := (BW.below hbw BW.lt).c2
      have eb3 := (BW.below hbw BW.lt).c3
      rw [show headsOf c l2 = headsOf c l2 ++ headsOf c (l3.take 0) by simp [headsOf]] at hown2
      go_wp2_with fail
      have hbwA := hbw
      clear hbw eb eb3
      go_loopw [5, 7] (fun v i wr => ∃ k : Nat, k ≤ l3.length ∧ i = .int .i64 k ∧ wr.ownsRow W.heap.size 3 1 v (headsOf c l2 ++ headsOf c (l3.take k)).length (ic (headsOf c l2 ++ headsOf c (l3.take k))) ∧ Below W.heap.size W wr) (fun _ i _ => l3.length - (intOf i).toNat)
      case atStart => exact ⟨0, Nat.zero_le _, rfl, hown2, hbwA⟩
      case round =>
        clear hown2 hbwA
        obtain ⟨k, hk, rfl, hown, hbw⟩ := hrel
        by_cases hlt : k < l3.length
        · rcases r3 with hnil | ⟨b3, off, rfl, hb, hc⟩
          · rw [hnil] at hlt; simp at hlt
          have hq0 : wr.cell? ⟨b3, off + k * 2, none⟩ = some (.int .i64 (l3.getD k (0, 0)).1) := by rw [hbw.cell (p := ⟨b3, _, none⟩) (Nat.lt_of_lt_of_le hb sW)]; rw [LW.cell (p := ⟨b3, _, none⟩) hb]; exact (hc k hlt).1
          have hq1 : wr.cell? ⟨b3, off + k * 2 + 1, none⟩ = some (.int .i64 (l3.getD k (0, 0)).2) := by rw [hbw.cell (p := ⟨b3, _, none⟩) (Nat.lt_of_lt_of_le hb sW)]; rw [LW.cell (p := ⟨b3, _, none⟩) hb]; exact (hc k hlt).2
          have hkn : (k : Int) < (l3.length : Int) := by omega
          have hk0' : (0 : Int) ≤ (k : Int) := by omega
          have htk := (toks_get t3 hlt).1
          have HF : Hid ((headsOf c l2 ++ headsOf c (l3.take (k + 1))) = (headsOf c l2 ++ headsOf c (l3.take k)) ++ [c.getD (l3.getD k (0, 0)).1.toNat 0]) := by unfold Hid; rw [headsOf_step c hlt]; simp
          have hle : (headsOf c l2 ++ headsOf c (l3.take k)).length ≤ 2097152 := by have := headsOf_len c (l3.take k); have := headsOf_len c l2; simp only [List.length_append, List.length_take] at *; omega
          generalize (headsOf c l2 ++ headsOf c (l3.take k)) = ls at *
          generalize l3.getD k (0, 0) = p at *
          clear hc
          obtain ⟨q1, q2⟩ := htk
          obtain ⟨x, y, rfl, hx⟩ : ∃ (x : Nat) (y : Int), p = ((x : Int), y) ∧ x < 16 := ⟨p.1.toNat, p.2, by rw [Int.toNat_of_nonneg q1], by omega⟩
          clear q1 q2
          dsimp only at hq0 hq1
          rw [Int.toNat_natCast] at HF
          have hxi : (x : Int) < 16 := by omega
          have hx0 : (0 : Int) ≤ (x : Int) := by omega
          have eb := (BW.below hbw BW.lt).c3
          have eu := (CW.below hbw CW.1).2.2 x hx
          have hbw0 := hbw
          have hown0 := hown
          skip
          generalize c.getD x 0 = u at *
          go_wp2_with (at_builtin; refine wpList_append_own _ rfl _ _ 44 rfl W.heap.size 3 i0 (.int .i64 0) 1 8 Try.underlying44 hi hz0 hz1 hz2 rfl (by decide) _ _ _ rfl (hown.alloc _) ⟨wr.heap.size, 0, none⟩ 1 1 [.int .i64 u] rfl rfl ?c1 ?c2 ?c3 ?c4 ?c5 ?_)
          case c1 =>
            intro j u hj
            match j, hj with
            | 0, hj => simp at hj; subst hj; simp [Addr.add]
          case c2 => intro u hu; simp at hu; subst hu; rfl
          case c3 => unfold maxLen; omega
          case c4 => omega
          case c5 => have := hbw0.size; simp; omega
          · intro v' w4 hown' hg hiff
            have hb2 := (hbw.alloc hbw.size _).grown hg (Nat.le_trans hbw.size (by simp)) (by intro q hq; exact (hown.lt q hq).1)
            clear hiff hg hown hbw hown0 hbw0 eu eb
            go_wp2
            first
              | (go_roundw
                 case rel => exact ⟨k + 1, by omega, by go_num, by rw [HF.out]; simpa [ic] using hown', hb2⟩
                 case measure => simp [intOf]; omega)
              | ((repeat apply Exists.intro); exact ⟨⟨k + 1, by omega, by go_num, by rw [HF.out]; simpa [ic] using hown', hb2⟩, rfl⟩)
        · have hown2 := hown
          rw [show k = l3.length by omega, List.take_length] at hown2
          clear hown
          have hge : ¬ ((k : Int) < (l3.length : Int)) := by omega
          have eb := (BW.below hbw BW.lt).c3
          have eb3 := (BW.below hbw BW.lt).c3
          obtain ⟨a, cq, rfl, hr⟩ := IntIn.ofOwns hown2
          have L3 := LW.trans (hbw.mono sW)
          go_wp2
          go_ret
          exact ⟨a, ⟨cq, by rw [HV.out, List.length_append]; rfl⟩, by rw [HV.out]; exact hr.mono sW (Nat.le_refl _), L3⟩

set_option maxRecDepth 3000 in
set_option maxHeartbeats 2000000 in
theorem heads_any (a0 a1 a2 a3 : Option Addr) (c0 c1 c2 c3 : Nat) (l0 l1 l2 l3 : List (Int × Int)) (c : List Int) (hl : c.length = 16) (w : World) (n2 : l2.length ≤ 1048576) (n3 : l3.length ≤ 1048576) (t2 : toks l2 = true) (t3 : toks l3 = true) (r2 : PRow w a2 l2) (r3 : PRow w a3 l3) :
    Calls Try.prog 159 #[aV c, .agg #[.slice a0 l0.length c0, .slice a1 l1.length c1, .slice a2 l2.length c2, .slice a3 l3.length c3]] w fun e w' => ∃ a cq, e = .returned (.slice a (headsV c l2 l3).length cq) ∧ IntIn w' w.heap.size w'.heap.size a (headsV c l2 l3).length (headsV c l2 l3) ∧ Below w.heap.size w w' := by
  have CW := (OwnI.new w c 16 hl 102).alloc (.cells #[.slice a0 l0.length c0, .slice a1 l1.length c1, .slice a2 l2.length c2, .slice a3 l3.length c3] 28)
  have BW := Box.new (w.alloc (.cells (ic c).toArray 102)) (.slice a0 l0.length c0) (.slice a1 l1.length c1) (.slice a2 l2.length c2) (.slice a3 l3.length c3) 28
  have LW : Below w.heap.size w ((w.alloc (.cells (ic c).toArray 102)).alloc (.cells #[.slice a0 l0.length c0, .slice a1 l1.length c1, .slice a2 l2.length c2, .slice a3 l3.length c3] 28)) := ((Below.refl _ _).alloc (Nat.le_refl _) _).alloc (by simp) _
  rw [World.size_alloc] at BW
  have y2 := BW.c2; have y3 := BW.c3
  unfold aV
  have sW : w.heap.size ≤ ((w.alloc (.cells (ic c).toArray 102)).alloc (.cells #[.slice a0 l0.length c0, .slice a1 l1.length c1, .slice a2 l2.length c2, .slice a3 l3.length c3] 28)).heap.size := by simp; omega
  obtain ⟨i0, hi, hz0, hz1, hz2⟩ := Try.i3
  have HV : Hid (headsV c l2 l3 = headsOf c l2 ++ headsOf c l3) := rfl
  have HHL : Hid (c.length = 16) := hl
  clear hl
  go_enter Try.func159, Try.ntmps159
  go_wp2_with fail
  generalize ((w.alloc (.cells (ic c).toArray 102)).alloc (.cells #[.slice a0 l0.length c0, .slice a1 l1.length c1, .slice a2 l2.length c2, .slice a3 l3.length c3] 28)) = W at *
  clear y2 y3
  go_loopw [5, 13] (fun v i wr => ∃ k : Nat, k ≤ l2.length ∧ i = .int .i64 k ∧ wr.ownsRow W.heap.size 3 1 v (headsOf c (l2.take k)).length (ic (headsOf c (l2.take k))) ∧ Below W.heap.size W wr) (fun _ i _ => l2.length - (intOf i).toNat)
  case atStart => exact ⟨0, Nat.zero_le _, rfl, World.ownsRow_nil _ _ _ _, Below.refl _ _⟩
  case round =>
    skip
    obtain ⟨k, hk, rfl, hown, hbw⟩ := hrel
    by_cases hlt : k < l2.length
    · rcases r2 with hnil | ⟨b2, off, rfl, hb, hc⟩
      · rw [hnil] at hlt; simp at hlt
      have hq0 : wr.cell? ⟨b2, off + k * 2, none⟩ = some (.int .i64 (l2.getD k (0, 0)).1) := by rw [hbw.cell (p := ⟨b2, _, none⟩) (Nat.lt_of_lt_of_le hb sW)]; rw [LW.cell (p := ⟨b2, _, none⟩) hb]; exact (hc k hlt).1
      have hq1 : wr.cell? ⟨b2, off + k * 2 + 1, none⟩ = some (.int .i64 (l2.getD k (0, 0)).2) := by rw [hbw.cell (p := ⟨b2, _, none⟩) (Nat.lt_of_lt_of_le hb sW)]; rw [LW.cell (p := ⟨b2, _, none⟩) hb]; exact (hc k hlt).2
      have hkn : (k : Int) < (l2.length : Int) := by omega
      have hk0' : (0 : Int) ≤ (k : Int) := by omega
      have htk := (toks_get t2 hlt).1
      have HF : Hid ((headsOf c (l2.take (k + 1))) = (headsOf c (l2.take k)) ++ [c.getD (l2.getD k (0, 0)).1.toNat 0]) := by unfold Hid; rw [headsOf_step c hlt]
      have hle : (headsOf c (l2.take k)).length ≤ 2097152 := by have := headsOf_len c (l2.take k); simp only [List.length_take] at *; omega
      generalize (headsOf c (l2.take k)) = ls at *
      generalize l2.getD k (0, 0) = p at *
      clear hc
      obtain ⟨q1, q2⟩ := htk
      obtain ⟨x, y, rfl, hx⟩ : ∃ (x : Nat) (y : Int), p = ((x : Int), y) ∧ x < 16 := ⟨p.1.toNat, p.2, by rw [Int.toNat_of_nonneg q1], by omega⟩
      clear q1 q2
      dsimp only at hq0 hq1
      rw [Int.toNat_natCast] at HF
      have hxi : (x : Int) < 16 := by omega
      have hx0 : (0 : Int) ≤ (x : Int) := by omega
      have eb := (BW.below hbw BW.lt).c2
      have eu := (CW.below hbw CW.1).2.2 x hx
      have hbw0 := hbw
      have hown0 := hown
      replace hown := hown.alloc (.cells #[.int .i64 (x : Int), .int .i64 y] 69)
      replace hbw := hbw.alloc hbw.size (.cells #[.int .i64 (x : Int), .int .i64 y] 69)
      have PB := PBox.new wr x y 69
      have p0 := PB.c0
      replace eu := ((CW.below hbw0 CW.1).alloc (.cells #[.int .i64 (x : Int), .int .i64 y] 69)).2.2 x hx
      generalize c.getD x 0 = u at *
      go_wp2_with (at_builtin; refine wpList_append_own _ rfl _ _ 44 rfl W.heap.size 3 i0 (.int .i64 0) 1 8 Try.underlying44 hi hz0 hz1 hz2 rfl (by decide) _ _ _ rfl (hown.alloc _) ⟨wr.heap.size + 1, 0, none⟩ 1 1 [.int .i64 u] rfl rfl ?c1 ?c2 ?c3 ?c4 ?c5 ?_)
      case c1 =>
        intro j u hj
        match j, hj with
        | 0, hj => simp at hj; subst hj; simp [Addr.add]
      case c2 => intro u hu; simp at hu; subst hu; rfl
      case c3 => unfold maxLen; omega
      case c4 => omega
      case c5 => have := hbw0.size; simp; omega
      · intro v' w4 hown' hg hiff
        have hb2 := (hbw.alloc hbw.size _).grown hg (Nat.le_trans hbw.size (by simp)) (by intro q hq; exact (hown.lt q hq).1)
        clear hiff hg hown hbw hown0 hbw0 eu eb
        go_wp2
        first
          | (go_roundw
             case rel => exact ⟨k + 1, by omega, by go_num, by rw [HF.out]; simpa [ic] using hown', hb2⟩
             case measure => simp [intOf]; omega)
          | ((repeat apply Exists.intro); exact ⟨⟨k + 1, by omega, by go_num, by rw [HF.out]; simpa [ic] using hown', hb2⟩, rfl⟩)
    · have hown2 := hown
      rw [show k = l2.length by omega, List.take_length] at hown2
      clear hown
      have hge : ¬ ((k : Int) < (l2.length : Int)) := by omega
      have eb := (BW.below hbw BW.lt).c2
      have eb3 := (BW.below hbw BW.lt).c3
      rw [show headsOf c l2 = headsOf c l2 ++ headsOf c (l3.take 0) by simp [headsOf]] at hown2
      go_wp2_with fail
      have hbwA := hbw
      clear hbw eb eb3
      go_loopw [5, 28] (fun v i wr => ∃ k : Nat, k ≤ l3.length ∧ i = .int .i64 k ∧ wr.ownsRow W.heap.size 3 1 v (headsOf c l2 ++ headsOf c (l3.take k)).length (ic (headsOf c l2 ++ headsOf c (l3.take k))) ∧ Below W.heap.size W wr) (fun _ i _ => l3.length - (intOf i).toNat)
      case atStart => exact ⟨0, Nat.zero_le _, rfl, hown2, hbwA⟩
      case round =>
        clear hown2 hbwA
        obtain ⟨k, hk, rfl, hown, hbw⟩ := hrel
        by_cases hlt : k < l3.length
        · rcases r3 with hnil | ⟨b3, off, rfl, hb, hc⟩
          · rw [hnil] at hlt; simp at hlt
          have hq0 : wr.cell? ⟨b3, off + k * 2, none⟩ = some (.int .i64 (l3.getD k (0, 0)).1) := by rw [hbw.cell (p := ⟨b3, _, none⟩) (Nat.lt_of_lt_of_le hb sW)]; rw [LW.cell (p := ⟨b3, _, none⟩) hb]; exact (hc k hlt).1
          have hq1 : wr.cell? ⟨b3, off + k * 2 + 1, none⟩ = some (.int .i64 (l3.getD k (0, 0)).2) := by rw [hbw.cell (p := ⟨b3, _, none⟩) (Nat.lt_of_lt_of_le hb sW)]; rw [LW.cell (p := ⟨b3, _, none⟩) hb]; exact (hc k hlt).2
          have hkn : (k : Int) < (l3.length : Int) := by omega
          have hk0' : (0 : Int) ≤ (k : Int) := by omega
          have htk := (toks_get t3 hlt).1
          have HF : Hid ((headsOf c l2 ++ headsOf c (l3.take (k + 1))) = (headsOf c l2 ++ headsOf c (l3.take k)) ++ [c.getD (l3.getD k (0, 0)).1.toNat 0]) := by unfold Hid; rw [headsOf_step c hlt]; simp
          have hle : (headsOf c l2 ++ headsOf c (l3.take k)).length ≤ 2097152 := by have := headsOf_len c (l3.take k); have := headsOf_len c l2; simp only [List.length_append, List.length_take] at *; omega
          generalize (headsOf c l2 ++ headsOf c (l3.take k)) = ls at *
          generalize l3.getD k (0, 0) = p at *
          clear hc
          obtain ⟨q1, q2⟩ := htk
          obtain ⟨x, y, rfl, hx⟩ : ∃ (x : Nat) (y : Int), p = ((x : Int), y) ∧ x < 16 := ⟨p.1.toNat, p.2, by rw [Int.toNat_of_nonneg q1], by omega⟩
          clear q1 q2
          dsimp only at hq0 hq1
          rw [Int.toNat_natCast] at HF
          have hxi : (x : Int) < 16 := by omega
          have hx0 : (0 : Int) ≤ (x : Int) := by omega
          have eb := (BW.below hbw BW.lt).c3
          have eu := (CW.below hbw CW.1).2.2 x hx
          have hbw0 := hbw
          have hown0 := hown
          replace hown := hown.alloc (.cells #[.int .i64 (x : Int), .int .i64 y] 69)
          replace hbw := hbw.alloc hbw.size (.cells #[.int .i64 (x : Int), .int .i64 y] 69)
          have PB := PBox.new wr x y 69
          have p0 := PB.c0
          replace eu := ((CW.below hbw0 CW.1).alloc (.cells #[.int .i64 (x : Int), .int .i64 y] 69)).2.2 x hx
          generalize c.getD x 0 = u at *
          go_wp2_with (at_builtin; refine wpList_append_own _ rfl _ _ 44 rfl W.heap.size 3 i0 (.int .i64 0) 1 8 Try.underlying44 hi hz0 hz1 hz2 rfl (by decide) _ _ _ rfl (hown.alloc _) ⟨wr.heap.size + 1, 0, none⟩ 1 1 [.int .i64 u] rfl rfl ?c1 ?c2 ?c3 ?c4 ?c5 ?_)
          case c1 =>
            intro j u hj
            match j, hj with
            | 0, hj => simp at hj; subst hj; simp [Addr.add]
          case c2 => intro u hu; simp at hu; subst hu; rfl
          case c3 => unfold maxLen; omega
          case c4 => omega
          case c5 => have := hbw0.size; simp; omega
          · intro v' w4 hown' hg hiff
            have hb2 := (hbw.alloc hbw.size _).grown hg (Nat.le_trans hbw.size (by simp)) (by intro q hq; exact (hown.lt q hq).1)
            clear hiff hg hown hbw hown0 hbw0 eu eb
            go_wp2
            first
              | (go_roundw
                 case rel => exact ⟨k + 1, by omega, by go_num, by rw [HF.out]; simpa [ic] using hown', hb2⟩
                 case measure => simp [intOf]; omega)
              | ((repeat apply Exists.intro); exact ⟨⟨k + 1, by omega, by go_num, by rw [HF.out]; simpa [ic] using hown', hb2⟩, rfl⟩)
        · have hown2 := hown
          rw [show k = l3.length by omega, List.take_length] at hown2
          clear hown
          have hge : ¬ ((k : Int) < (l3.length : Int)) := by omega
          have eb := (BW.below hbw BW.lt).c3
          have eb3 := (BW.below hbw BW.lt).c3
          obtain ⟨a, cq, rfl, hr⟩ := IntIn.ofOwns hown2
          have L3 := LW.trans (hbw.mono sW)
          go_wp2
          go_ret
          exact ⟨a, ⟨cq, by rw [HV.out, List.length_append]; rfl⟩, by rw [HV.out]; exact hr.mono sW (Nat.le_refl _), L3⟩

end Go.Proofs.Ytphchdjbhbmnbaa
namespace Go.Proofs.Ytphchdjbhbmnbaa
open Go.RowKit
def alikeV (l0 l1 l2 l3 : List (Int × Int)) (x y : Int) : Bool := asnB l0 l1 l2 l3 && (tok x && (tok y && decide ((clsV l0).getD x.toNat 0 = (clsV l0).getD y.toNat 0)))
theorem tok_iff {x : Int} : tok x = true ↔ 0 ≤ x ∧ x < 16 := by simp [tok]
theorem asnB_tokA {l0 l1 l2 l3 : List (Int × Int)} (h : asnB l0 l1 l2 l3 = true) : toks l0 = true ∧ toks l1 = true ∧ toks l2 = true ∧ toks l3 = true := by
  unfold asnB at h
  simp only [Bool.and_eq_true] at h
  exact ⟨h.1.1.1.1.1.1, h.1.1.1.1.1.2, h.1.1.1.1.2, h.1.1.1.2⟩

set_option maxRecDepth 3000 in
set_option maxHeartbeats 1000000 in
theorem sAlike_any (a0 a1 a2 a3 : Option Addr) (c0 c1 c2 c3 : Nat) (l0 l1 l2 l3 : List (Int × Int)) (x y : Int) (w : World)
    (n0 : l0.length ≤ 1048576) (n1 : l1.length ≤ 1048576) (n2 : l2.length ≤ 1048576) (n3 : l3.length ≤ 1048576)
    (r0 : PRow w a0 l0) (r1 : PRow w a1 l1) (r2 : PRow w a2 l2) (r3 : PRow w a3 l3) :
    Calls Try.prog 64 #[.agg #[.slice a0 l0.length c0, .slice a1 l1.length c1, .slice a2 l2.length c2, .slice a3 l3.length c3], .int .i64 x, .int .i64 y] w fun e w' => e = .returned (.bool (alikeV l0 l1 l2 l3 x y)) ∧ Below w.heap.size w w' := by
  have B0 := Box.new w (.slice a0 l0.length c0) (.slice a1 l1.length c1) (.slice a2 l2.length c2) (.slice a3 l3.length c3) 28
  have L0 : Below w.heap.size w (w.alloc (.cells #[.slice a0 l0.length c0, .slice a1 l1.length c1, .slice a2 l2.length c2, .slice a3 l3.length c3] 28)) := (Below.refl _ _).alloc (Nat.le_refl _) _
  go_enter Try.func64, Try.ntmps64
  go_wp2_with fail
  refine (sAsnOk_any _ _ _ _ _ _ _ _ _ _ _ _ _ n0 n1 n2 n3 (by exact r0.below L0 (Nat.le_refl _)) (by exact r1.below L0 (Nat.le_refl _)) (by exact r2.below L0 (Nat.le_refl _)) (by exact r3.below L0 (Nat.le_refl _))).mono ?_
  rintro e w1 ⟨rfl, hb⟩
  have B1 := B0.below hb B0.lt; have L1 := L0.trans (hb.mono L0.size)
  clear hb B0 L0
  cases ha : asnB l0 l1 l2 l3
  · have HE : Hid (alikeV l0 l1 l2 l3 x y = false) := by unfold Hid alikeV; rw [ha]; rfl
    go_wp2
    go_ret
    exact ⟨by rw [HE.out]; rfl, L1⟩
  go_wp2_with fail
  refine (sTermOk_any x _).mono ?_
  rintro e wz ⟨rfl, rfl⟩
  cases hx : tok x
  · have HE : Hid (alikeV l0 l1 l2 l3 x y = false) := by unfold Hid alikeV; rw [ha, hx]; rfl
    go_wp2
    go_ret
    exact ⟨by rw [HE.out]; rfl, L1⟩
  go_wp2_with fail
  refine (sTermOk_any y _).mono ?_
  rintro e wz ⟨rfl, rfl⟩
  cases hy : tok y
  · have HE : Hid (alikeV l0 l1 l2 l3 x y = false) := by unfold Hid alikeV; rw [ha, hx, hy]; rfl
    go_wp2
    go_ret
    exact ⟨by rw [HE.out]; rfl, L1⟩
  have HE : Hid (alikeV l0 l1 l2 l3 x y = decide ((clsV l0).getD x.toNat 0 = (clsV l0).getD y.toNat 0)) := by unfold Hid alikeV; rw [ha, hx, hy]; simp
  have ht := (asnB_tokA ha).1
  have hxx := tok_iff.1 hx
  have hyy := tok_iff.1 hy
  obtain ⟨x, rfl⟩ := Int.eq_ofNat_of_zero_le hxx.1
  obtain ⟨y, rfl⟩ := Int.eq_ofNat_of_zero_le hyy.1
  rw [Int.toNat_natCast, Int.toNat_natCast] at HE
  obtain ⟨hx0, hx1⟩ := hxx
  obtain ⟨hy0, hy1⟩ := hyy
  clear hx hy ha
  have x0 := B1.c0; have x1 := B1.c1; have x2 := B1.c2; have x3 := B1.c3
  go_wp2_with fail
  refine (l3classes_any _ _ _ _ _ _ _ _ _ _ _ _ _ n0 ht (by exact r0.below L1 (Nat.le_refl _))).mono ?_
  rintro e w2 ⟨b, cp, rfl, hbb, O, hb⟩
  have L2 := L1.trans (hb.mono L1.size)
  clear hb B1 L1 x0 x1 x2 x3
  have eu := O.2.2 x (by omega)
  have ev := O.2.2 y (by omega)
  generalize (clsV l0).getD x 0 = u at *
  generalize (clsV l0).getD y 0 = v at *
  go_wp2_with fail
  have hS0 : Below w.heap.size w w2.drew ∧ w2.drew.cell? ⟨b, x, none⟩ = some (.int .i64 u) ∧ w2.drew.cell? ⟨b, y, none⟩ = some (.int .i64 v) := ⟨L2.drew, eu, ev⟩
  go_region_held3 (fun w' => Below w.heap.size w w' ∧ w'.cell? ⟨b, x, none⟩ = some (.int .i64 u) ∧ w'.cell? ⟨b, y, none⟩ = some (.int .i64 v))
    (first | exact hS0 | assumption | (refine ⟨?_, ?_, ?_⟩ <;> assumption))
    (fail)
  go_wp2
  go_ret
  exact ⟨by rw [HE.out]; rfl, hS0.1⟩

set_option maxRecDepth 3000 in
set_option maxHeartbeats 1000000 in
theorem iAlike_any (a0 a1 a2 a3 : Option Addr) (c0 c1 c2 c3 : Nat) (l0 l1 l2 l3 : List (Int × Int)) (x y : Int) (w : World)
    (n0 : l0.length ≤ 1048576) (n1 : l1.length ≤ 1048576) (n2 : l2.length ≤ 1048576) (n3 : l3.length ≤ 1048576)
    (r0 : PRow w a0 l0) (r1 : PRow w a1 l1) (r2 : PRow w a2 l2) (r3 : PRow w a3 l3) :
    Calls Try.prog 65 #[.agg #[.slice a0 l0.length c0, .slice a1 l1.length c1, .slice a2 l2.length c2, .slice a3 l3.length c3], .int .i64 x, .int .i64 y] w fun e w' => e = .returned (.bool (alikeV l0 l1 l2 l3 x y)) ∧ Below w.heap.size w w' := by
  have B0 := Box.new w (.slice a0 l0.length c0) (.slice a1 l1.length c1) (.slice a2 l2.length c2) (.slice a3 l3.length c3) 28
  have L0 : Below w.heap.size w (w.alloc (.cells #[.slice a0 l0.length c0, .slice a1 l1.length c1, .slice a2 l2.length c2, .slice a3 l3.length c3] 28)) := (Below.refl _ _).alloc (Nat.le_refl _) _
  go_enter Try.func65, Try.ntmps65
  go_wp2_with fail
  refine (iAsnOk_any _ _ _ _ _ _ _ _ _ _ _ _ _ n0 n1 n2 n3 (by exact r0.below L0 (Nat.le_refl _)) (by exact r1.below L0 (Nat.le_refl _)) (by exact r2.below L0 (Nat.le_refl _)) (by exact r3.below L0 (Nat.le_refl _))).mono ?_
  rintro e w1 ⟨rfl, hb⟩
  have B1 := B0.below hb B0.lt; have L1 := L0.trans (hb.mono L0.size)
  clear hb B0 L0
  cases ha : asnB l0 l1 l2 l3
  · have HE : Hid (alikeV l0 l1 l2 l3 x y = false) := by unfold Hid alikeV; rw [ha]; rfl
    go_wp2
    go_ret
    exact ⟨by rw [HE.out]; rfl, L1⟩
  go_wp2_with fail
  refine (iTermOk_any x _).mono ?_
  rintro e wz ⟨rfl, rfl⟩
  cases hx : tok x
  · have HE : Hid (alikeV l0 l1 l2 l3 x y = false) := by unfold Hid alikeV; rw [ha, hx]; rfl
    go_wp2
    go_ret
    exact ⟨by rw [HE.out]; rfl, L1⟩
  go_wp2_with fail
  refine (iTermOk_any y _).mono ?_
  rintro e wz ⟨rfl, rfl⟩
  cases hy : tok y
  · have HE : Hid (alikeV l0 l1 l2 l3 x y = false) := by unfold Hid alikeV; rw [ha, hx, hy]; rfl
    go_wp2
    go_ret
    exact ⟨by rw [HE.out]; rfl, L1⟩
  have HE : Hid (alikeV l0 l1 l2 l3 x y = decide ((clsV l0).getD x.toNat 0 = (clsV l0).getD y.toNat 0)) := by unfold Hid alikeV; rw [ha, hx, hy]; simp
  have ht := (asnB_tokA ha).1
  have hxx := tok_iff.1 hx
  have hyy := tok_iff.1 hy
  obtain ⟨x, rfl⟩ := Int.eq_ofNat_of_zero_le hxx.1
  obtain ⟨y, rfl⟩ := Int.eq_ofNat_of_zero_le hyy.1
  rw [Int.toNat_natCast, Int.toNat_natCast] at HE
  obtain ⟨hx0, hx1⟩ := hxx
  obtain ⟨hy0, hy1⟩ := hyy
  clear hx hy ha
  have x0 := B1.c0; have x1 := B1.c1; have x2 := B1.c2; have x3 := B1.c3
  go_wp2_with fail
  refine (classesOf_any _ _ _ _ _ _ _ _ _ _ _ _ _ n0 ht (by exact r0.below L1 (Nat.le_refl _))).mono ?_
  rintro e w2 ⟨rfl, hb⟩
  have L2 := L1.trans (hb.mono L1.size)
  clear hb B1 L1 x0 x1 x2 x3
  unfold aV
  have HC := (Cls.all ht).1
  dsimp only
  iterate 4 go_step
  have Z := OwnI.zeros w2 102
  refine ws67 rfl (.tmp 7) (.tmp 22) rfl _ rfl (clsV l0) _ rfl Z HC rfl ?_
  have C := Z.setAll HC
  have L3 := Below.setCells w2.heap.size L2.size (ic (clsV l0)) 0 _ (L2.alloc L2.size (.cells z16 102))
  clear Z L2
  generalize (w2.alloc (.cells z16 102)).setCells w2.heap.size 0 (ic (clsV l0)) = w3 at *
  have eu := C.2.2 x (by omega)
  have ev := C.2.2 y (by omega)
  generalize (clsV l0).getD x 0 = u at *
  generalize (clsV l0).getD y 0 = v at *
  clear HC C
  generalize w2.heap.size = b at *
  go_wp2_with fail
  have hS0 : Below w.heap.size w w3.drew ∧ w3.drew.cell? ⟨b, x, none⟩ = some (.int .i64 u) ∧ w3.drew.cell? ⟨b, y, none⟩ = some (.int .i64 v) := ⟨L3.drew, eu, ev⟩
  go_region_held3 (fun w' => Below w.heap.size w w' ∧ w'.cell? ⟨b, x, none⟩ = some (.int .i64 u) ∧ w'.cell? ⟨b, y, none⟩ = some (.int .i64 v))
    (first | exact hS0 | assumption | (refine ⟨?_, ?_, ?_⟩ <;> assumption))
    (fail)
  go_wp2
  go_ret
  exact ⟨by rw [HE.out]; rfl, hS0.1⟩
end Go.Proofs.Ytphchdjbhbmnbaa
