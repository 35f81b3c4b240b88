/-
  Pairs with their classes in the place of their terms: the contracts of spec.l3swap and of the method inClasses.
-/
import Derived.Test.YtmiiebmnjijhoaaLk
import Derived.Deep.AppendLies
import Derived.Deep.RegionHeld3
namespace Go.Proofs.Ytmiiebmnjijhoaa
open Go.RowKit
def inC (c : List Int) (l : List (Int × Int)) : List (Int × Int) := l.map fun p => (c.getD p.1.toNat 0, c.getD p.2.toNat 0)
theorem inC_len (c : List Int) (l : List (Int × Int)) : (inC c l).length = l.length := by simp [inC]
theorem inC_step (c : List Int) {l : List (Int × Int)} {k : Nat} (hk : k < l.length) : inC c (l.take (k + 1)) = inC c (l.take k) ++ [(c.getD (l.getD k (0, 0)).1.toNat 0, c.getD (l.getD k (0, 0)).2.toNat 0)] := by
  unfold inC
  rw [List.take_add_one, List.getElem?_eq_getElem hk]
  simp only [Option.toList_some, List.map_append, List.map_cons, List.map_nil]
  rw [List.getD_eq_getElem?_getD (l := l), List.getElem?_eq_getElem hk, Option.getD_some]
theorem news1 (w : World) (p q : Int) (t : TypeId) : ∀ j u, (pc [(p, q)])[j]? = some u → (w.alloc (.cells #[.int .i64 p, .int .i64 q] t)).cell? ((⟨w.heap.size, 0, none⟩ : Addr).add j) = some u := by
  intro j u hj
  match j, hj with
  | 0, hj => simp [pc] at hj; subst hj; simp [Addr.add]
  | 1, hj => simp [pc] at hj; subst hj; simp [Addr.add]
  | j + 2, hj => simp [pc] at hj

set_option maxRecDepth 3000 in
set_option maxHeartbeats 2000000 in
theorem l3swap_any (a : Option Addr) (cp : Nat) (b cp2 : Nat) (l : List (Int × Int)) (c : List Int) (w : World) (n1 : l.length ≤ 1048576) (ht : toks l = true) (r : PRow w a l) (CO : OwnI w b 16 c 16) :
    Calls Try.prog 131 #[.slice a l.length cp, .slice (some ⟨b, 0, none⟩) 16 cp2] w fun e w' => ∃ a' cq, e = .returned (.slice a' (inC c l).length cq) ∧ RowIn w' w.heap.size w'.heap.size a' (inC c l).length (inC c l) ∧ Below w.heap.size w w' := by
  have CW := CO
  have LW : Below w.heap.size w w := Below.refl _ _
  have sW : w.heap.size ≤ w.heap.size := Nat.le_refl _
  obtain ⟨i0, hi, hz0, hz1, hz2⟩ := Try.i57
  have HLE : Hid (∀ k, (inC c (l.take k)).length ≤ 1048576) := fun k => by rw [inC_len, List.length_take]; omega
  go_enter Try.func131, Try.ntmps131
  go_wp2_with fail
  go_loopw [5, 6] (fun v i wr => ∃ k : Nat, k ≤ l.length ∧ i = .int .i64 k ∧ wr.ownsRow w.heap.size 67 2 v (inC c (l.take k)).length (pc (inC c (l.take k))) ∧ Below w.heap.size w wr) (fun _ i _ => l.length - (intOf i).toNat)
  case atStart => exact ⟨0, Nat.zero_le _, rfl, World.ownsRow_nil _ _ _ _, Below.refl _ _⟩
  case round =>
    obtain ⟨k, hk, rfl, hown, hbw⟩ := hrel
    by_cases hlt : k < l.length
    · rcases r with hnil | ⟨b1, off, rfl, hb, hc⟩
      · rw [hnil] at hlt; simp at hlt
      have j0 : w.cell? ⟨b1, off + k * 2, none⟩ = some (.int .i64 (l.getD k (0, 0)).1) := (hc k hlt).1
      have j1 : w.cell? ⟨b1, off + k * 2 + 1, none⟩ = some (.int .i64 (l.getD k (0, 0)).2) := (hc k hlt).2
      have hkn : (k : Int) < (l.length : Int) := by omega
      have hk0' : (0 : Int) ≤ (k : Int) := by omega
      have htk := toks_get ht hlt
      have HF : Hid (inC c (l.take (k + 1)) = inC c (l.take k) ++ [(c.getD (l.getD k (0, 0)).1.toNat 0, c.getD (l.getD k (0, 0)).2.toNat 0)]) := inC_step c hlt
      have hle := HLE.out k
      generalize inC c (l.take k) = ls at *
      generalize l.getD k (0, 0) = pp at *
      clear hc
      obtain ⟨⟨q1, q2⟩, q3, q4⟩ := htk
      obtain ⟨s, t, rfl, hs, hts⟩ : ∃ s t : Nat, pp = ((s : Int), (t : Int)) ∧ s < 16 ∧ t < 16 := ⟨pp.1.toNat, pp.2.toNat, by rw [Int.toNat_of_nonneg q1, Int.toNat_of_nonneg q3], by omega, by omega⟩
      clear q1 q2 q3 q4
      dsimp only at j0 j1
      simp only [Int.toNat_natCast] at HF
      have hsa : (s : Int) < 16 := by omega
      have hta : (t : Int) < 16 := by omega
      have hsb : (0 : Int) ≤ (s : Int) := by omega
      have htb : (0 : Int) ≤ (t : Int) := by omega
      have hq0 : wr.cell? ⟨b1, off + k * 2, none⟩ = some (.int .i64 s) := by rw [hbw.cell (p := ⟨b1, _, none⟩) (Nat.lt_of_lt_of_le hb sW)]; rw [LW.cell (p := ⟨b1, _, none⟩) hb]; exact j0
      have hq1 : wr.cell? ⟨b1, off + k * 2 + 1, none⟩ = some (.int .i64 t) := by rw [hbw.cell (p := ⟨b1, _, none⟩) (Nat.lt_of_lt_of_le hb sW)]; rw [LW.cell (p := ⟨b1, _, none⟩) hb]; exact j1
      have ep := CW.2.2 s hs
      have eq := CW.2.2 t hts
      have hcb := CW.1
      generalize c.getD s 0 = p at *
      generalize c.getD t 0 = q at *
      have hown0 := hown
      go_wp2_with fail
      have k0 := hq0; have k1 := hq1
      have szb := hbw.size
      have szp : Hid (wr.heap.size = wr.heap.size) := rfl
      have hbd := hbw.drew
      have hS0 : Below w.heap.size w wr.drew ∧ wr.drew.cell? ⟨b1, off + k * 2, none⟩ = some (.int .i64 s) ∧ wr.drew.cell? ⟨b1, off + k * 2 + 1, none⟩ = some (.int .i64 t) ∧ wr.drew.cell? ⟨b, s, none⟩ = some (.int .i64 p) ∧ wr.drew.cell? ⟨b, t, none⟩ = some (.int .i64 q) := ⟨hbd, k0, k1, (by rw [hbd.cell (p := ⟨b, _, none⟩) hcb]; exact ep), (by rw [hbd.cell (p := ⟨b, _, none⟩) hcb]; exact eq)⟩
      replace hown := hown.drew
      have szd : Hid (wr.drew.heap.size = wr.heap.size) := szp.out
      clear k0 k1 hbw hq0 hq1
      have NW := news1 wr.drew p q 67
      have hb1 := hbd.alloc hbd.size (.cells #[.int .i64 p, .int .i64 q] 67)
      have hA1 := (Below.refl wr.drew.heap.size wr.drew).alloc (Nat.le_refl _) (.cells #[.int .i64 p, .int .i64 q] 67)
      have hS1 : Below w.heap.size w (wr.drew.alloc (.cells #[.int .i64 p, .int .i64 q] 67)) ∧ (wr.drew.alloc (.cells #[.int .i64 p, .int .i64 q] 67)).cell? ⟨b1, off + k * 2, none⟩ = some (.int .i64 s) ∧ (wr.drew.alloc (.cells #[.int .i64 p, .int .i64 q] 67)).cell? ⟨b1, off + k * 2 + 1, none⟩ = some (.int .i64 t) ∧ (wr.drew.alloc (.cells #[.int .i64 p, .int .i64 q] 67)).cell? ⟨b, s, none⟩ = some (.int .i64 p) ∧ (wr.drew.alloc (.cells #[.int .i64 p, .int .i64 q] 67)).cell? ⟨b, t, none⟩ = some (.int .i64 q) := ⟨hb1, by rw [hA1.cell (p := ⟨b1, off + k * 2, none⟩) (Nat.lt_of_lt_of_le hb hbd.size)]; exact hS0.2.1, by rw [hA1.cell (p := ⟨b1, off + k * 2 + 1, none⟩) (Nat.lt_of_lt_of_le hb hbd.size)]; exact hS0.2.2.1, by rw [hb1.cell (p := ⟨b, _, none⟩) hcb]; exact ep, by rw [hb1.cell (p := ⟨b, _, none⟩) hcb]; exact eq⟩
      clear hA1
      have hown1 := hown.alloc (.cells #[.int .i64 p, .int .i64 q] 67)
      have HNW : Hid (∀ j u, (pc [(p, q)])[j]? = some u → (wr.drew.alloc (.cells #[.int .i64 p, .int .i64 q] 67)).cell? ((⟨wr.drew.heap.size, 0, none⟩ : Addr).add j) = some u) := NW
      have HOW : Hid ((wr.drew.alloc (.cells #[.int .i64 p, .int .i64 q] 67)).ownsRow w.heap.size 67 2 u5 ls.length (pc ls)) := hown1
      have hS1z : Hid (Below w.heap.size w (wr.drew.alloc (.cells #[.int .i64 p, .int .i64 q] 67)) ∧ (wr.drew.alloc (.cells #[.int .i64 p, .int .i64 q] 67)).cell? ⟨b1, off + k * 2, none⟩ = some (.int .i64 s) ∧ (wr.drew.alloc (.cells #[.int .i64 p, .int .i64 q] 67)).cell? ⟨b1, off + k * 2 + 1, none⟩ = some (.int .i64 t) ∧ (wr.drew.alloc (.cells #[.int .i64 p, .int .i64 q] 67)).cell? ⟨b, s, none⟩ = some (.int .i64 p) ∧ (wr.drew.alloc (.cells #[.int .i64 p, .int .i64 q] 67)).cell? ⟨b, t, none⟩ = some (.int .i64 q)) := hS1
      have hlo : ∀ q, u5.ownBlock = some q → w.heap.size ≤ q := fun q hq => (hown0.lt q hq).1
      replace hlo : Hid (∀ q, u5.ownBlock = some q → w.heap.size ≤ q) := hlo
      clear NW hown1 hown0 hown hb1
      go_region_held3 (fun w' => Below w.heap.size w w' ∧ w'.cell? ⟨b1, off + k * 2, none⟩ = some (.int .i64 s) ∧ w'.cell? ⟨b1, off + k * 2 + 1, none⟩ = some (.int .i64 t) ∧ w'.cell? ⟨b, s, none⟩ = some (.int .i64 p) ∧ w'.cell? ⟨b, t, none⟩ = some (.int .i64 q))
        (first | exact hS0 | exact hS1z.out | exact hS2 | assumption | (refine ⟨?_, ?_, ?_, ?_, ?_⟩ <;> assumption))
        (first
          | (refine step_append_lies _ (by rfl) _ _ 26 (by rfl) w.heap.size 67 i0 (.agg #[.int .i64 0, .int .i64 0]) 2 16 Try.underlying26 hi hz0 hz1 hz2 rfl (by decide) u5 ls.length (pc ls) (by rfl) HOW.out ⟨wr.drew.heap.size, 0, none⟩ 1 1 (pc [(p, q)]) (by rfl) rfl HNW.out pc_one (by omega) (by unfold maxLen; omega) (by omega) (by simp; have := hbd.size; have := szd.out; have := szp.out; omega) (wr.drew.heap.size + 1) (by simp) ?_; intro g cap w4 hown' hg hat hlt'; have hb4 : Below w.heap.size w w4 := (hbd.alloc hbd.size (.cells #[.int .i64 p, .int .i64 q] 67)).grown hg (by simp; have := hbd.size; have := szd.out; have := szp.out; omega) hlo.out; have hS2 : Below w.heap.size w w4 ∧ w4.cell? ⟨b1, off + k * 2, none⟩ = some (.int .i64 s) ∧ w4.cell? ⟨b1, off + k * 2 + 1, none⟩ = some (.int .i64 t) ∧ w4.cell? ⟨b, s, none⟩ = some (.int .i64 p) ∧ w4.cell? ⟨b, t, none⟩ = some (.int .i64 q) := ⟨hb4, (by rw [hb4.cell (p := ⟨b1, _, none⟩) hb]; exact j0), (by rw [hb4.cell (p := ⟨b1, _, none⟩) hb]; exact j1), (by rw [hb4.cell (p := ⟨b, _, none⟩) hcb]; exact ep), (by rw [hb4.cell (p := ⟨b, _, none⟩) hcb]; exact eq)⟩))
      all_goals
        have hb5 := hS2.1
        rw [← pc_append] at hown'
        clear hS2 hS0 hS1 hS1z HOW HNW hg hat hlt'
        go_wp2
        first
          | (go_roundw
             case rel => exact ⟨k + 1, by omega, by go_num, by rw [HF.out]; simpa using hown', hb5⟩
             case measure => simp [intOf]; omega)
          | ((repeat apply Exists.intro); exact ⟨⟨k + 1, by omega, by go_num, by rw [HF.out]; simpa using hown', hb5⟩, rfl⟩)
    · have hown2 := hown
      rw [show k = l.length by omega, List.take_length] at hown2
      have hge : ¬ ((k : Int) < (l.length : Int)) := by omega
      clear hown
      obtain ⟨a', cq, rfl, hr⟩ := RowIn.ofOwns hown2
      have L3 := LW.trans (hbw.mono sW)
      go_wp2
      go_ret
      exact ⟨a', ⟨cq, rfl⟩, hr.mono sW (Nat.le_refl _), L3⟩

set_option maxRecDepth 3000 in
set_option maxHeartbeats 2000000 in
theorem inClasses_any (a : Option Addr) (cp : Nat) (l : List (Int × Int)) (c : List Int) (hl : c.length = 16) (w : World) (n1 : l.length ≤ 1048576) (ht : toks l = true) (r : PRow w a l) :
    Calls Try.prog 133 #[aV c, .slice a l.length cp] w fun e w' => ∃ a' cq, e = .returned (.slice a' (inC c l).length cq) ∧ RowIn w' w.heap.size w'.heap.size a' (inC c l).length (inC c l) ∧ Below w.heap.size w w' := by
  have CW := OwnI.new w c 16 hl 88
  have LW : Below w.heap.size w (w.alloc (.cells (ic c).toArray 88)) := (Below.refl _ _).alloc (Nat.le_refl _) _
  have sW : w.heap.size ≤ (w.alloc (.cells (ic c).toArray 88)).heap.size := by simp
  obtain ⟨i0, hi, hz0, hz1, hz2⟩ := Try.i57
  have HLE : Hid (∀ k, (inC c (l.take k)).length ≤ 1048576) := fun k => by rw [inC_len, List.length_take]; omega
  clear hl
  unfold aV
  go_enter Try.func133, Try.ntmps133
  go_wp2_with fail
  generalize w.alloc (.cells (ic c).toArray 88) = W at *
  go_loopw [5, 10] (fun v i wr => ∃ k : Nat, k ≤ l.length ∧ i = .int .i64 k ∧ wr.ownsRow W.heap.size 67 2 v (inC c (l.take k)).length (pc (inC c (l.take k))) ∧ Below W.heap.size W wr) (fun _ i _ => l.length - (intOf i).toNat)
  case atStart => exact ⟨0, Nat.zero_le _, rfl, World.ownsRow_nil _ _ _ _, Below.refl _ _⟩
  case round =>
    obtain ⟨k, hk, rfl, hown, hbw⟩ := hrel
    by_cases hlt : k < l.length
    · rcases r with hnil | ⟨b1, off, rfl, hb, hc⟩
      · rw [hnil] at hlt; simp at hlt
      have j0 : w.cell? ⟨b1, off + k * 2, none⟩ = some (.int .i64 (l.getD k (0, 0)).1) := (hc k hlt).1
      have j1 : w.cell? ⟨b1, off + k * 2 + 1, none⟩ = some (.int .i64 (l.getD k (0, 0)).2) := (hc k hlt).2
      have hkn : (k : Int) < (l.length : Int) := by omega
      have hk0' : (0 : Int) ≤ (k : Int) := by omega
      have htk := toks_get ht hlt
      have HF : Hid (inC c (l.take (k + 1)) = inC c (l.take k) ++ [(c.getD (l.getD k (0, 0)).1.toNat 0, c.getD (l.getD k (0, 0)).2.toNat 0)]) := inC_step c hlt
      have hle := HLE.out k
      generalize inC c (l.take k) = ls at *
      generalize l.getD k (0, 0) = pp at *
      clear hc
      obtain ⟨⟨q1, q2⟩, q3, q4⟩ := htk
      obtain ⟨s, t, rfl, hs, hts⟩ : ∃ s t : Nat, pp = ((s : Int), (t : Int)) ∧ s < 16 ∧ t < 16 := ⟨pp.1.toNat, pp.2.toNat, by rw [Int.toNat_of_nonneg q1, Int.toNat_of_nonneg q3], by omega, by omega⟩
      clear q1 q2 q3 q4
      dsimp only at j0 j1
      simp only [Int.toNat_natCast] at HF
      have hsa : (s : Int) < 16 := by omega
      have hta : (t : Int) < 16 := by omega
      have hsb : (0 : Int) ≤ (s : Int) := by omega
      have htb : (0 : Int) ≤ (t : Int) := by omega
      have hq0 : wr.cell? ⟨b1, off + k * 2, none⟩ = some (.int .i64 s) := by rw [hbw.cell (p := ⟨b1, _, none⟩) (Nat.lt_of_lt_of_le hb sW)]; rw [LW.cell (p := ⟨b1, _, none⟩) hb]; exact j0
      have hq1 : wr.cell? ⟨b1, off + k * 2 + 1, none⟩ = some (.int .i64 t) := by rw [hbw.cell (p := ⟨b1, _, none⟩) (Nat.lt_of_lt_of_le hb sW)]; rw [LW.cell (p := ⟨b1, _, none⟩) hb]; exact j1
      have ep := CW.2.2 s hs
      have eq := CW.2.2 t hts
      have hcb := CW.1
      generalize c.getD s 0 = p at *
      generalize c.getD t 0 = q at *
      have hown0 := hown
      go_wp2_with fail
      have PB := PBox.new wr s t 67
      replace hown := hown.alloc (.cells #[.int .i64 (s : Int), .int .i64 (t : Int)] 67)
      have hbw0 := hbw
      replace hbw := hbw.alloc hbw.size (.cells #[.int .i64 (s : Int), .int .i64 (t : Int)] 67)
      have hpb : ∀ q, u5.ownBlock = some q → q < wr.heap.size := fun q hq => (hown0.lt q hq).2
      have szp : (wr.alloc (.cells #[.int .i64 (s : Int), .int .i64 (t : Int)] 67)).heap.size = wr.heap.size + 1 := by simp
      generalize wr.alloc (.cells #[.int .i64 (s : Int), .int .i64 (t : Int)] 67) = wv at *
      have szb := hbw0.size
      generalize wr.heap.size = pb at *
      replace szp : Hid (wv.heap.size = pb + 1) := szp
      have k0 := PB.c0; have k1 := PB.c1
      clear PB hq0 hq1
      have hbd := hbw.drew
      have hS0 : Below W.heap.size W wv.drew ∧ wv.drew.cell? ⟨pb, 0, none⟩ = some (.int .i64 s) ∧ wv.drew.cell? ⟨pb, 1, none⟩ = some (.int .i64 t) ∧ wv.drew.cell? ⟨w.heap.size, s, none⟩ = some (.int .i64 p) ∧ wv.drew.cell? ⟨w.heap.size, t, none⟩ = some (.int .i64 q) := ⟨hbd, k0, k1, (by rw [hbd.cell (p := ⟨w.heap.size, _, none⟩) hcb]; exact ep), (by rw [hbd.cell (p := ⟨w.heap.size, _, none⟩) hcb]; exact eq)⟩
      replace hown := hown.drew
      have szd : Hid (wv.drew.heap.size = (pb + 1)) := szp.out
      clear k0 k1 hbw hbw0
      have NW := news1 wv.drew p q 67
      have hb1 := hbd.alloc hbd.size (.cells #[.int .i64 p, .int .i64 q] 67)
      have hA1 := (Below.refl wv.drew.heap.size wv.drew).alloc (Nat.le_refl _) (.cells #[.int .i64 p, .int .i64 q] 67)
      have hS1 : Below W.heap.size W (wv.drew.alloc (.cells #[.int .i64 p, .int .i64 q] 67)) ∧ (wv.drew.alloc (.cells #[.int .i64 p, .int .i64 q] 67)).cell? ⟨pb, 0, none⟩ = some (.int .i64 s) ∧ (wv.drew.alloc (.cells #[.int .i64 p, .int .i64 q] 67)).cell? ⟨pb, 1, none⟩ = some (.int .i64 t) ∧ (wv.drew.alloc (.cells #[.int .i64 p, .int .i64 q] 67)).cell? ⟨w.heap.size, s, none⟩ = some (.int .i64 p) ∧ (wv.drew.alloc (.cells #[.int .i64 p, .int .i64 q] 67)).cell? ⟨w.heap.size, t, none⟩ = some (.int .i64 q) := ⟨hb1, by rw [hA1.cell (p := ⟨pb, 0, none⟩) (by have := szd.out; show pb < _; omega)]; exact hS0.2.1, by rw [hA1.cell (p := ⟨pb, 1, none⟩) (by have := szd.out; show pb < _; omega)]; exact hS0.2.2.1, by rw [hb1.cell (p := ⟨w.heap.size, _, none⟩) hcb]; exact ep, by rw [hb1.cell (p := ⟨w.heap.size, _, none⟩) hcb]; exact eq⟩
      clear hA1
      have hown1 := hown.alloc (.cells #[.int .i64 p, .int .i64 q] 67)
      have HNW : Hid (∀ j u, (pc [(p, q)])[j]? = some u → (wv.drew.alloc (.cells #[.int .i64 p, .int .i64 q] 67)).cell? ((⟨wv.drew.heap.size, 0, none⟩ : Addr).add j) = some u) := NW
      have HOW : Hid ((wv.drew.alloc (.cells #[.int .i64 p, .int .i64 q] 67)).ownsRow W.heap.size 67 2 u5 ls.length (pc ls)) := hown1
      have hS1z : Hid (Below W.heap.size W (wv.drew.alloc (.cells #[.int .i64 p, .int .i64 q] 67)) ∧ (wv.drew.alloc (.cells #[.int .i64 p, .int .i64 q] 67)).cell? ⟨pb, 0, none⟩ = some (.int .i64 s) ∧ (wv.drew.alloc (.cells #[.int .i64 p, .int .i64 q] 67)).cell? ⟨pb, 1, none⟩ = some (.int .i64 t) ∧ (wv.drew.alloc (.cells #[.int .i64 p, .int .i64 q] 67)).cell? ⟨w.heap.size, s, none⟩ = some (.int .i64 p) ∧ (wv.drew.alloc (.cells #[.int .i64 p, .int .i64 q] 67)).cell? ⟨w.heap.size, t, none⟩ = some (.int .i64 q)) := hS1
      have hlo : ∀ q, u5.ownBlock = some q → W.heap.size ≤ q := fun q hq => (hown0.lt q hq).1
      replace hlo : Hid (∀ q, u5.ownBlock = some q → W.heap.size ≤ q) := hlo
      clear NW hown1 hown0 hown hb1
      go_region_held3 (fun w' => Below W.heap.size W w' ∧ w'.cell? ⟨pb, 0, none⟩ = some (.int .i64 s) ∧ w'.cell? ⟨pb, 1, none⟩ = some (.int .i64 t) ∧ w'.cell? ⟨w.heap.size, s, none⟩ = some (.int .i64 p) ∧ w'.cell? ⟨w.heap.size, t, none⟩ = some (.int .i64 q))
        (first | exact hS0 | exact hS1z.out | exact hS2 | assumption | (refine ⟨?_, ?_, ?_, ?_, ?_⟩ <;> assumption))
        (first
          | (refine step_append_lies _ (by rfl) _ _ 26 (by rfl) W.heap.size 67 i0 (.agg #[.int .i64 0, .int .i64 0]) 2 16 Try.underlying26 hi hz0 hz1 hz2 rfl (by decide) u5 ls.length (pc ls) (by rfl) HOW.out ⟨wv.drew.heap.size, 0, none⟩ 1 1 (pc [(p, q)]) (by rfl) rfl HNW.out pc_one (by omega) (by unfold maxLen; omega) (by omega) (by simp; have := hbd.size; have := szd.out; have := szp.out; omega) (wv.drew.heap.size + 1) (by simp) ?_; intro g cap w4 hown' hg hat hlt'; have hb4 : Below W.heap.size W w4 := (hbd.alloc hbd.size (.cells #[.int .i64 p, .int .i64 q] 67)).grown hg (by simp; have := hbd.size; have := szd.out; have := szp.out; omega) hlo.out; have hS2 : Below W.heap.size W w4 ∧ w4.cell? ⟨pb, 0, none⟩ = some (.int .i64 s) ∧ w4.cell? ⟨pb, 1, none⟩ = some (.int .i64 t) ∧ w4.cell? ⟨w.heap.size, s, none⟩ = some (.int .i64 p) ∧ w4.cell? ⟨w.heap.size, t, none⟩ = some (.int .i64 q) := ⟨hb4, (by rw [hg.cell_far ⟨pb, 0, none⟩ (by have := szd.out; have := szp.out; simp; omega) (fun e => by have := hpb pb e.symm; omega)]; exact hS1.2.1), (by rw [hg.cell_far ⟨pb, 1, none⟩ (by have := szd.out; have := szp.out; simp; omega) (fun e => by have := hpb pb e.symm; omega)]; exact hS1.2.2.1), (by rw [hb4.cell (p := ⟨w.heap.size, _, none⟩) hcb]; exact ep), (by rw [hb4.cell (p := ⟨w.heap.size, _, none⟩) hcb]; exact eq)⟩))
      all_goals
        have hb5 := hS2.1
        rw [← pc_append] at hown'
        clear hS2 hS0 hS1 hS1z HOW HNW hg hat hlt'
        go_wp2
        first
          | (go_roundw
             case rel => exact ⟨k + 1, by omega, by go_num, by rw [HF.out]; simpa using hown', hb5⟩
             case measure => simp [intOf]; omega)
          | ((repeat apply Exists.intro); exact ⟨⟨k + 1, by omega, by go_num, by rw [HF.out]; simpa using hown', hb5⟩, rfl⟩)
    · have hown2 := hown
      rw [show k = l.length by omega, List.take_length] at hown2
      have hge : ¬ ((k : Int) < (l.length : Int)) := by omega
      clear hown
      obtain ⟨a', cq, rfl, hr⟩ := RowIn.ofOwns hown2
      have L3 := LW.trans (hbw.mono sW)
      go_wp2
      go_ret
      exact ⟨a', ⟨cq, rfl⟩, hr.mono sW (Nat.le_refl _), L3⟩

end Go.Proofs.Ytmiiebmnjijhoaa
