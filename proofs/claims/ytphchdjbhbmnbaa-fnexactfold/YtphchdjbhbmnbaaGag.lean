/-
  Plain lemmas and contracts of functions for the other texts of this seat: Ar, Jn, Jc, L3, Cl, Am.
-/
import Derived.Test.YtphchdjbhbmnbaaGaf
import Derived.Deep.MidRow
import Derived.Deep.RegionHeld3
import Derived.Laws.AppendOwnNone
namespace Go.Proofs.Ytphchdjbhbmnbaa
open Go.RowKit
/-- An array of whole numbers as a value. -/
def aV (c : List Int) : Value := .agg (ic c).toArray
theorem ic_get (c : List Int) {i : Nat} (h : i < c.length) : (ic c)[i]? = some (.int .i64 (c.getD i 0)) := by simp [ic, h]
theorem ic_size (c : List Int) : (ic c).toArray.size = c.length := by simp [ic]
theorem OwnI.new (w : World) (c : List Int) (n : Nat) (hn : c.length = n) (t : TypeId) : OwnI (w.alloc (.cells (ic c).toArray t)) w.heap.size n c n := by
  have hc : ∀ i, i < n → (w.alloc (.cells (ic c).toArray t)).cell? ⟨w.heap.size, i, none⟩ = some (.int .i64 (c.getD i 0)) := by
    intro i hi
    have h := ic_get c (i := i) (by omega)
    simp [h]
  exact ⟨by simp, fun j hj => ⟨⟨_, hc j hj⟩, by simp⟩, hc⟩
theorem OwnI.alloc {w : World} {b n k : Nat} {l : List Int} (h : OwnI w b n l k) (o : Obj) : OwnI (w.alloc o) b n l k := h.below ((Below.refl _ _).alloc (Nat.le_refl _) _) h.1
theorem OwnI.drew {w : World} {b n k : Nat} {l : List Int} (h : OwnI w b n l k) : OwnI w.drew b n l k := h.below ((Below.refl _ _).drew) h.1
theorem OwnI.range {w : World} {b n : Nat} {l : List Int} (h : OwnI w b n l n) (hn : l.length = n) : w.rangeAt b 0 (ic l) := by
  intro j v hv
  have hj : j < l.length := by
    have := (List.getElem?_eq_some_iff.1 hv).1
    simpa [ic] using this
  rw [ic_get l hj] at hv
  cases hv
  rw [Nat.zero_add]
  exact h.2.2 j (by omega)
theorem ld67 {w : World} {b : Nat} {c : List Int} (h : OwnI w b 16 c 16) (hl : c.length = 16) : (Instr.loadAt 102 (.pointer (some ⟨b, 0, none⟩))).run Try.prog w = .ok (.agg (ic c).toArray) w :=
  run_loadAt_mid (P := Try.prog) w b 0 102 (ic c) _ (h.range hl) Try.underlying102 rfl (by rw [ic_length, hl]; kernel_rfl)
/-- A load of a whole array. -/
theorem wl67 {ops : Array Oper} {rest : List Oper} {op : Oper} {a : Act} {w : World} {Q : Exit → Act → World → Prop} (hgd : op.guard = none) (x : Operand) (ho : op.op = .load 102 x)
    (b : Nat) (hx : a.eval x = .pointer (some ⟨b, 0, none⟩)) {c : List Int} (h : OwnI w b 16 c 16) (hl : c.length = 16)
    (k : wpList Try.prog ops Q rest (a.put op.dst (.agg (ic c).toArray)) w) : wpList Try.prog ops Q (op :: rest) a w :=
  wpList_load_mid hgd 102 x ho b 0 hx (ic c) _ (h.range hl) Try.underlying102 rfl (by rw [ic_length, hl]; kernel_rfl) k
theorem ic_one (c : List Int) : (ic c).toArray.all (·.oneCell') = true := all_oneCell_toArray (by intro v hv; simp only [ic, List.mem_map] at hv; obtain ⟨x, _, rfl⟩ := hv; rfl)
theorem OwnI.there {w : World} {b n k : Nat} {l : List Int} (h : OwnI w b n l k) : w.there b 0 n := fun j hj => by
  obtain ⟨⟨v, hv⟩, hf⟩ := h.2.1 j hj
  rw [Nat.zero_add]
  exact ⟨by rw [hv]; rfl, hf⟩
/-- A store of a whole array. -/
theorem ws67 {ops : Array Oper} {rest : List Oper} {op : Oper} {a : Act} {w : World} {Q : Exit → Act → World → Prop} (hgd : op.guard = none) (x y : Operand) (ho : op.op = .store 102 x y)
    (b : Nat) (hx : a.eval x = .pointer (some ⟨b, 0, none⟩)) (c d : List Int) (hy : a.eval y = .agg (ic c).toArray) {k : Nat} (h : OwnI w b 16 d k) (hl : c.length = 16) (hn : op.dst = none)
    (kk : wpList Try.prog ops Q rest a (w.setCells b 0 (ic c))) : wpList Try.prog ops Q (op :: rest) a w := by
  refine wpList_store_mid hgd 102 x y ho b 0 (ic c).toArray hx hy (by rw [ic_size, hl]; exact h.there) (by rw [ic_size, hl]; kernel_rfl) (ic_one c) ?_
  simpa [hn, Act.put] using kk
theorem Below.setCells {B : Nat} {a : World} (b : Nat) (hp : B ≤ b) : ∀ (vs : List Value) (o : Nat) (w : World), Below B a w → Below B a (w.setCells b o vs)
  | [], _, _, h => h
  | v :: vs, o, w, h => by
    simp only [World.setCells]
    exact Below.setCells b hp vs (o + 1) _ (Below.set h b o hp v)
theorem OwnI.setAll {w : World} {b k : Nat} {d c : List Int} (h : OwnI w b 16 d k) (hl : c.length = 16) : OwnI (w.setCells b 0 (ic c)) b 16 c 16 := by
  have ht := h.there
  have hr := World.rangeAt_setCells_same w b 0 (ic c) (by rw [ic_length, hl]; exact ht)
  have ht2 := World.there_setCells ht b 0 (ic c)
  have hc : ∀ i, i < 16 → (w.setCells b 0 (ic c)).cell? ⟨b, i, none⟩ = some (.int .i64 (c.getD i 0)) := fun i hi => by
    have := hr i _ (ic_get c (i := i) (by omega))
    rwa [Nat.zero_add] at this
  refine ⟨?_, fun j hj => ⟨⟨_, hc j hj⟩, ?_⟩, hc⟩
  · exact Nat.lt_of_lt_of_le h.1 (Below.setCells (B := 0) (a := w) b (Nat.zero_le _) (ic c) 0 w (Below.refl _ _)).size
  · have := (ht2 j hj).2
    rwa [Nat.zero_add] at this
theorem idx67 (c : List Int) (k : Nat) (hl : c.length = 16) (hk : k < 16) (w : World) : (Instr.index 102 (.agg (ic c).toArray) (.int .i64 k)).run Try.prog w = .ok (.int .i64 (c.getD k 0)) w := by
  have h0 : (0 : Int) ≤ (k : Int) ∧ (k : Int) < (16 : Nat) := by omega
  have hg := ic_get c (i := k) (by omega)
  have hi : (sizeOf 3).run Try.prog w = .ok 1 w := by kernel_rfl
  simp [Instr.index, run_underlying Try.underlying102, asIntOf, h0, part, isAgg, run_underlying Try.underlying3, hi, hg, Sem.run_bind, go_sem]
  omega
/-- The result is a whole array in a block. -/
theorem ret67 {fn : Func} {p : Tmp} (h : fn.results = #[.cell p 102]) (tmps : Array Value) (w : World) (b : Nat) (hb : tmps.getD p undef = .pointer (some ⟨b, 0, none⟩)) {c : List Int} (ho : OwnI w b 16 c 16) (hl : c.length = 16) :
    (results fn tmps).run Try.prog w = .ok (.agg (ic c).toArray) w := by
  have hv := run_loadVar_mid (P := Try.prog) w b 0 102 (ic c) _ (ho.range hl) Try.underlying102 rfl (by rw [ic_length, hl]; kernel_rfl)
  simp only [results, h]
  have hb2 : tmps[p]?.getD undef = .pointer (some ⟨b, 0, none⟩) := by simpa using hb
  simp [hb2, asAddr, hv]
/-- A pair of whole numbers in a block. -/
structure PBox (w : World) (b : Nat) (x y : Int) : Prop where
  lt : b < w.heap.size
  c0 : w.cell? ⟨b, 0, none⟩ = some (.int .i64 x)
  c1 : w.cell? ⟨b, 1, none⟩ = some (.int .i64 y)
theorem PBox.new (w : World) (x y : Int) (t : TypeId) : PBox (w.alloc (.cells #[.int .i64 x, .int .i64 y] t)) w.heap.size x y := ⟨by simp, by simp, by simp⟩
theorem PBox.below {B : Nat} {w w' : World} {b : Nat} {x y : Int} (h : PBox w b x y) (hb : Below B w w') (hB : b < B) : PBox w' b x y :=
  ⟨Nat.lt_of_lt_of_le h.lt hb.size, by rw [hb.cell (p := ⟨b, 0, none⟩) hB]; exact h.c0, by rw [hb.cell (p := ⟨b, 1, none⟩) hB]; exact h.c1⟩
set_option maxHeartbeats 1000000 in
theorem of_any (c : List Int) (x y : Nat) (w : World) (hl : c.length = 16) (hx : x < 16) (hy : y < 16) :
    Calls Try.prog 178 #[aV c, .agg #[.int .i64 x, .int .i64 y]] w fun e w' => e = .returned (cplV (c.getD x 0) (c.getD y 0)) ∧ Below w.heap.size w w' := by
  have A0 := OwnI.new w c 16 hl 102
  have B0 := PBox.new (w.alloc (.cells (ic c).toArray 102)) x y 69
  have A1 := A0.alloc (.cells #[.int .i64 x, .int .i64 y] 69)
  have L1 : Below w.heap.size w ((w.alloc (.cells (ic c).toArray 102)).alloc (.cells #[.int .i64 x, .int .i64 y] 69)) := ((Below.refl _ _).alloc (Nat.le_refl _) _).alloc (by simp) _
  rw [World.size_alloc] at B0
  have ex := A1.2.2 x hx
  have ey := A1.2.2 y hy
  have HX : Hid (x < 16) := hx
  have HY : Hid (y < 16) := hy
  have E0 := B0.c0
  have E1 := B0.c1
  clear A0 A1 B0
  unfold aV
  generalize c.getD x 0 = u at *
  generalize c.getD y 0 = v at *
  go_enter Try.func178, Try.ntmps178
  go_wp2_with fail
  generalize ((w.alloc (.cells (ic c).toArray 102)).alloc (.cells #[.int .i64 x, .int .i64 y] 69)) = W at *
  have hS0 : Below w.heap.size w W.drew ∧ W.drew.cell? ⟨w.heap.size, x, none⟩ = some (.int .i64 u) ∧ W.drew.cell? ⟨w.heap.size, y, none⟩ = some (.int .i64 v) ∧ W.drew.cell? ⟨w.heap.size + 1, 0, none⟩ = some (.int .i64 x) ∧ W.drew.cell? ⟨w.heap.size + 1, 1, none⟩ = some (.int .i64 y) := ⟨L1.drew, ex, ey, E0, E1⟩
  have hx0 : (0 : Int) ≤ (x : Int) := by omega
  have hx1 : (x : Int) < 16 := by have := HX.out; omega
  have hy0 : (0 : Int) ≤ (y : Int) := by omega
  have hy1 : (y : Int) < 16 := by have := HY.out; omega
  clear L1 ex ey E0 E1
  go_region_held3 (fun w' => Below w.heap.size w w' ∧ w'.cell? ⟨w.heap.size, x, none⟩ = some (.int .i64 u) ∧ w'.cell? ⟨w.heap.size, y, none⟩ = some (.int .i64 v) ∧ w'.cell? ⟨w.heap.size + 1, 0, none⟩ = some (.int .i64 x) ∧ w'.cell? ⟨w.heap.size + 1, 1, none⟩ = some (.int .i64 y))
    (first | exact hS0 | assumption | (refine ⟨?_, ?_, ?_, ?_, ?_⟩ <;> assumption))
    (first
      | (go_at_call 156; refine (coupleOf_any _ _ _).mono ?_; rintro e wz ⟨rfl, rfl⟩))
  all_goals
    go_wp2
    go_ret
    exact ⟨rfl, hS0.1⟩
end Go.Proofs.Ytphchdjbhbmnbaa
namespace Go.Proofs.Ytphchdjbhbmnbaa
open Go.RowKit
abbrev z16 : Array Value := #[.int .i64 0, .int .i64 0, .int .i64 0, .int .i64 0, .int .i64 0, .int .i64 0, .int .i64 0, .int .i64 0, .int .i64 0, .int .i64 0, .int .i64 0, .int .i64 0, .int .i64 0, .int .i64 0, .int .i64 0, .int .i64 0]
theorem z16_ic : z16 = (ic (List.replicate 16 0)).toArray := rfl
/-- All of c that are h become l. -/
def reps (c : List Int) (h l : Int) : List Int := c.map fun z => rep z h l
theorem reps_length (c : List Int) (h l : Int) : (reps c h l).length = c.length := by simp [reps]
theorem reps_at (c : List Int) (h l : Int) {i : Nat} (hi : i < c.length) : (reps c h l).getD i 0 = rep (c.getD i 0) h l := by simp [reps, hi]
/-- Block b has the first k of d, and then those of c. -/
def Mix (w : World) (b : Nat) (d c : List Int) (k : Nat) : Prop :=
  b < w.heap.size ∧ (∀ j, j < 16 → w.frozen? ⟨b, j, none⟩ = false) ∧ ∀ j, j < 16 → w.cell? ⟨b, j, none⟩ = some (.int .i64 (if j < k then d.getD j 0 else c.getD j 0))
theorem Mix.start {w : World} {b : Nat} {c : List Int} (d : List Int) (h : OwnI w b 16 c 16) : Mix w b d c 0 := ⟨h.1, fun j hj => (h.2.1 j hj).2, fun j hj => by rw [if_neg (by omega)]; exact h.2.2 j hj⟩
theorem Mix.done {w : World} {b : Nat} {d c : List Int} (h : Mix w b d c 16) : OwnI w b 16 d 16 := by
  have hc : ∀ j, j < 16 → w.cell? ⟨b, j, none⟩ = some (.int .i64 (d.getD j 0)) := fun j hj => by have := h.2.2 j hj; rwa [if_pos hj] at this
  exact ⟨h.1, fun j hj => ⟨⟨_, hc j hj⟩, h.2.1 j hj⟩, hc⟩
theorem Mix.below {B : Nat} {w w' : World} {b k : Nat} {d c : List Int} (h : Mix w b d c k) (hb : Below B w w') (hB : b < B) : Mix w' b d c k :=
  ⟨Nat.lt_of_lt_of_le h.1 hb.size, fun j hj => by rw [hb.frozen (p := ⟨b, j, none⟩) hB]; exact h.2.1 j hj, fun j hj => by rw [hb.cell (p := ⟨b, j, none⟩) hB]; exact h.2.2 j hj⟩
theorem Mix.drew {w : World} {b k : Nat} {d c : List Int} (h : Mix w b d c k) : Mix w.drew b d c k := h.below ((Below.refl _ _).drew) h.1
theorem Mix.step {w : World} {b k : Nat} {d c : List Int} (h : Mix w b d c k) : Mix (w.setCell ⟨b, k, none⟩ (.int .i64 (d.getD k 0))) b d c (k + 1) := by
  obtain ⟨h1, h2, h3⟩ := h
  refine ⟨by simpa using h1, fun j hj => by simpa using h2 j hj, fun j hj => ?_⟩
  rw [cell_set (h3 j hj)]
  by_cases e : k = j
  · subst e; rw [if_pos rfl, if_pos (by omega)]
  · rw [if_neg e]
    by_cases g : j < k
    · rw [if_pos g, if_pos (by omega)]
    · rw [if_neg g, if_neg (by omega)]
theorem OwnI.set_other {w : World} {b n k : Nat} {l : List Int} (h : OwnI w b n l k) (b' i' : Nat) (hp : b' ≠ b) (u : Value) : OwnI (w.setCell ⟨b', i', none⟩ u) b n l k := by
  obtain ⟨h1, h2, h3⟩ := h
  have e : ∀ o, (w.setCell ⟨b', i', none⟩ u).cell? ⟨b, o, none⟩ = w.cell? ⟨b, o, none⟩ := fun o => World.cell?_setCell_other w _ _ u (by intro h; cases h; exact hp rfl)
  refine ⟨by simpa using h1, fun j hj => ?_, fun i hi => by rw [e]; exact h3 i hi⟩
  rw [e]
  exact ⟨(h2 j hj).1, by simpa using (h2 j hj).2⟩
set_option maxRecDepth 3000 in
set_option maxHeartbeats 1000000 in
theorem joined_any (c : List Int) (u v : Int) (hs : c.length = 16) (hu0 : 0 ≤ u) (hu1 : u < 16) (hv0 : 0 ≤ v) (hv1 : v < 16) (w : World) :
    Calls Try.prog 215 #[aV c, cplV u v] w fun e w' => e = .returned (aV (reps c (max u v) (min u v))) ∧ Below w.heap.size w w' := by
  unfold aV cplV
  have hg0 : 0 ≤ max u v := by omega
  have hg1 : max u v < 16 := by omega
  have hk0 : 0 ≤ min u v := by omega
  have hk1 : min u v < 16 := by omega
  generalize max u v = g at *
  generalize min u v = l at *
  clear hu0 hu1 hv0 hv1
  have A0 := (OwnI.new w c 16 hs 102).alloc (.cells z16 102)
  have R0 := OwnI.new (w.alloc (.cells (ic c).toArray 102)) (List.replicate 16 0) 16 rfl 102
  rw [← z16_ic, World.size_alloc] at R0
  have L0 : Below w.heap.size w ((w.alloc (.cells (ic c).toArray 102)).alloc (.cells z16 102)) := ((Below.refl _ _).alloc (Nat.le_refl _) _).alloc (by simp) _
  go_enter Try.func215, Try.ntmps215
  iterate 15 go_step
  refine wl67 rfl (.tmp 2) rfl _ rfl A0 hs ?_
  generalize (w.alloc (.cells (ic c).toArray 102)).alloc (.cells z16 102) = W at *
  have HS : Hid (c.length = 16) := hs
  clear hs
  go_wp2_with fail
  go_loopw [8] (fun i wr => ∃ k : Nat, k ≤ 16 ∧ i = .int .i64 k ∧ Mix wr w.heap.size (reps c g l) c k ∧ OwnI wr (w.heap.size + 1) 16 (List.replicate 16 0) 16 ∧ Below w.heap.size w wr) (fun i _ => 16 - (intOf i).toNat)
  case atStart => exact ⟨0, Nat.zero_le _, rfl, Mix.start _ A0, R0, L0⟩
  case round =>
    clear A0 R0 L0
    obtain ⟨k, hk, rfl, M, R, L⟩ := hrel
    by_cases hlt : k < 16
    · have hkn : (k : Int) < 16 := by omega
      have hk0' : (0 : Int) ≤ (k : Int) := by omega
      have hix := idx67 c k HS.out hlt
      have hcell := M.2.2 k hlt
      have hfr := M.2.1 k hlt
      rw [if_neg (Nat.lt_irrefl k)] at hcell
      have hst := M.step
      rw [reps_at c g l (by have := HS.out; omega)] at hst
      generalize c.getD k 0 = x at *
      go_wp2_with fail
      refine (greater_any g _ _ hg0 hg1).mono ?_
      rintro e wz ⟨rfl, rfl⟩
      go_wp2_with fail
      refine (lesser_any l _ _ hk0 hk1).mono ?_
      rintro e wz ⟨rfl, rfl⟩
      go_wp2_with fail
      refine (replaced_any _ _ _ _).mono ?_
      rintro e wz ⟨rfl, rfl⟩
      have R2 := R.set_other w.heap.size k (by omega) (.int .i64 (rep x g l))
      have L2 := Below.set L w.heap.size k (Nat.le_refl _) (.int .i64 (rep x g l))
      generalize rep x g l = y at *
      clear M R L
      go_wp2
      go_roundw
      case rel => exact ⟨k + 1, by omega, by go_num, hst, R2, L2⟩
      case measure => simp [intOf]; omega
    · obtain rfl : k = 16 := by omega
      have D := M.done
      have hnl : ¬ (((16 : Nat) : Int) < 16) := by omega
      have HR : (reps c g l).length = 16 := by rw [reps_length]; exact HS.out
      iterate 18 go_step
      refine wl67 rfl (.tmp 2) rfl _ rfl D HR ?_
      refine ws67 rfl (.tmp 4) (.tmp 21) rfl _ rfl (reps c g l) _ rfl R HR rfl ?_
      have F := R.setAll HR
      have L2 := Below.setCells (w.heap.size + 1) (Nat.le_succ _) (ic (reps c g l)) 0 _ L
      generalize wr.setCells (w.heap.size + 1) 0 (ic (reps c g l)) = wz at *
      iterate 5 go_step
      exact bodyPost_ret (ret67 rfl _ _ _ rfl F HR) rfl ⟨rfl, L2⟩
end Go.Proofs.Ytphchdjbhbmnbaa
namespace Go.Proofs.Ytphchdjbhbmnbaa
open Go.RowKit
/-- Each term's own number. -/
def ids : List Int := (List.range 16).map fun (i : Nat) => (i : Int)
theorem ids_length : ids.length = 16 := rfl
theorem ids_at {k : Nat} (h : k < 16) : ids.getD k 0 = (k : Int) := by simp [ids, h]
/-- Two classes become one. -/
def jn (c : List Int) (p : Int × Int) : List Int := reps c (max (c.getD p.1.toNat 0) (c.getD p.2.toNat 0)) (min (c.getD p.1.toNat 0) (c.getD p.2.toNat 0))
theorem jn_length (c : List Int) (p : Int × Int) : (jn c p).length = c.length := reps_length _ _ _
/-- The classes behind the pairs of l. -/
def clsV (l : List (Int × Int)) : List Int := l.foldl jn ids
theorem clsV_step {l : List (Int × Int)} {k : Nat} (hk : k < l.length) : clsV (l.take (k + 1)) = jn (clsV (l.take k)) (l.getD k (0, 0)) := by
  unfold clsV
  rw [List.take_add_one, List.getElem?_eq_getElem hk]
  simp only [Option.toList_some, List.foldl_append, List.foldl_cons, List.foldl_nil]
  rw [List.getD_eq_getElem?_getD, List.getElem?_eq_getElem hk, Option.getD_some]
/-- Sixteen numbers, each of them a term. -/
def Cls (c : List Int) : Prop := c.length = 16 ∧ ∀ k, k < 16 → 0 ≤ c.getD k 0 ∧ c.getD k 0 < 16
theorem Cls.ids : Cls ids := ⟨rfl, fun k hk => by rw [ids_at hk]; omega⟩
theorem Cls.reps {c : List Int} (h : Cls c) {u v : Int} (hv0 : 0 ≤ v) (hv1 : v < 16) : Cls (reps c u v) := by
  refine ⟨by rw [reps_length]; exact h.1, fun k hk => ?_⟩
  rw [reps_at c u v (by rw [h.1]; exact hk)]
  unfold rep
  have := h.2 k hk
  split <;> omega
theorem Cls.jn {c : List Int} (h : Cls c) {p : Int × Int} (h0 : 0 ≤ p.1 ∧ p.1 < 16) (h1 : 0 ≤ p.2 ∧ p.2 < 16) : Cls (jn c p) := by
  have := h.2 p.1.toNat (by omega)
  have := h.2 p.2.toNat (by omega)
  exact h.reps (by omega) (by omega)
theorem toks_get {l : List (Int × Int)} (h : toks l = true) {k : Nat} (hk : k < l.length) : (0 ≤ (l.getD k (0, 0)).1 ∧ (l.getD k (0, 0)).1 < 16) ∧ (0 ≤ (l.getD k (0, 0)).2 ∧ (l.getD k (0, 0)).2 < 16) := by
  simpa using toks_at h hk
theorem Cls.take {l : List (Int × Int)} (h : toks l = true) : ∀ k, k ≤ l.length → Cls (clsV (l.take k))
  | 0, _ => by simpa [clsV] using Cls.ids
  | k + 1, hk => by
    rw [clsV_step (by omega)]
    have ht := toks_get h (k := k) (by omega)
    exact (Cls.take h k (by omega)).jn ht.1 ht.2
theorem Cls.all {l : List (Int × Int)} (h : toks l = true) : Cls (clsV l) := by
  have := Cls.take h l.length (Nat.le_refl _)
  rwa [List.take_length] at this
theorem OwnI.zeros (w : World) (t : TypeId) : OwnI (w.alloc (.cells z16 t)) w.heap.size 16 (List.replicate 16 0) 16 := by
  rw [z16_ic]; exact OwnI.new w _ 16 rfl t
theorem OwnI.setCells {w : World} {b n k : Nat} {l : List Int} (h : OwnI w b n l k) (b' : Nat) (hp : b' ≠ b) : ∀ (vs : List Value), OwnI (w.setCells b' 0 vs) b n l k := by
  intro vs
  have go : ∀ (vs : List Value) (o : Nat) (w : World), OwnI w b n l k → OwnI (w.setCells b' o vs) b n l k := by
    intro vs
    induction vs with
    | nil => intro o w h; exact h
    | cons v vs ih => intro o w h; simp only [World.setCells]; exact ih _ _ (h.set_other b' o hp v)
  exact go vs 0 w h
theorem PBox.drew {w : World} {b : Nat} {x y : Int} (h : PBox w b x y) : PBox w.drew b x y := h.below ((Below.refl _ _).drew) h.lt
theorem PBox.range {w : World} {b : Nat} {x y : Int} (h : PBox w b x y) : w.rangeAt b 0 [.int .i64 x, .int .i64 y] := by
  intro j v hv
  match j, hv with
  | 0, hv => simp at hv; subst hv; exact h.c0
  | 1, hv => simp at hv; subst hv; exact h.c1
  | j + 2, hv => simp at hv
theorem OwnI.ofMid {w : World} {b : Nat} {c : List Int} (hl : c.length = 16) (h1 : w.rangeAt b 0 (ic c)) (h2 : w.there b 0 16) (h3 : b < w.heap.size) : OwnI w b 16 c 16 := by
  have hc : ∀ i, i < 16 → w.cell? ⟨b, i, none⟩ = some (.int .i64 (c.getD i 0)) := fun i hi => by
    have := h1 i _ (ic_get c (i := i) (by omega))
    rwa [Nat.zero_add] at this
  refine ⟨h3, fun j hj => ⟨⟨_, hc j hj⟩, ?_⟩, hc⟩
  have := (h2 j hj).2
  rwa [Nat.zero_add] at this

end Go.Proofs.Ytphchdjbhbmnbaa
namespace Go.Proofs.Ytphchdjbhbmnbaa
open Go.RowKit
theorem Try.i3 : ∃ i, Try.prog.info? 3 = some i ∧ i.zero = some (.int .i64 0) ∧ i.size = 1 ∧ i.bytes = 8 := by
  have h : (Try.prog.info? 3).map (fun i => (i.zero, i.size, i.bytes)) = some (some (.int .i64 0), 1, 8) := by kernel_rfl
  cases hi : Try.prog.info? 3 with
  | none => rw [hi] at h; simp at h
  | some i =>
    rw [hi] at h
    simp only [Option.map_some, Option.some.injEq, Prod.mk.injEq] at h
    exact ⟨i, rfl, h.1, h.2.1, h.2.2⟩
theorem Mix.keep {w : World} {b k : Nat} {d c : List Int} (h : Mix w b d c k) (e : d.getD k 0 = c.getD k 0) : Mix w b d c (k + 1) := by
  refine ⟨h.1, h.2.1, fun j hj => ?_⟩
  rw [h.2.2 j hj]
  by_cases g : j < k
  · rw [if_pos g, if_pos (by omega)]
  · rw [if_neg g]
    by_cases q : j = k
    · subst q; rw [if_pos (by omega), e]
    · rw [if_neg (by omega)]
theorem ids_take {k : Nat} (h : k < 16) : ids.take (k + 1) = ids.take k ++ [(k : Int)] := by
  rw [List.take_add_one, List.getElem?_eq_getElem (by rw [ids_length]; exact h)]
  simp [ids]
theorem ids_take_len {k : Nat} (h : k ≤ 16) : (ids.take k).length = k := by rw [List.length_take, ids_length]; omega

set_option maxRecDepth 3000 in
set_option maxHeartbeats 1000000 in
theorem l3classes_any (a0 a1 a2 a3 : Option Addr) (c0 c1 c2 c3 : Nat) (l0 l1 l2 l3 : List (Int × Int)) (w : World) (n0 : l0.length ≤ 1048576) (ht : toks l0 = true) (r0 : PRow w a0 l0) :
    Calls Try.prog 151 #[.agg #[.slice a0 l0.length c0, .slice a1 l1.length c1, .slice a2 l2.length c2, .slice a3 l3.length c3]] w fun e w' => ∃ b c, e = .returned (.slice (some ⟨b, 0, none⟩) 16 c) ∧ w.heap.size ≤ b ∧ OwnI w' b 16 (clsV l0) 16 ∧ Below w.heap.size w w' := by
  have B0 := Box.new w (.slice a0 l0.length c0) (.slice a1 l1.length c1) (.slice a2 l2.length c2) (.slice a3 l3.length c3) 28
  have L0 : Below w.heap.size w (w.alloc (.cells #[.slice a0 l0.length c0, .slice a1 l1.length c1, .slice a2 l2.length c2, .slice a3 l3.length c3] 28)) := (Below.refl _ _).alloc (Nat.le_refl _) _
  obtain ⟨i0, hi, hz0, hz1, hz2⟩ := Try.i3
  have s0 : w.heap.size ≤ (w.alloc (.cells #[.slice a0 l0.length c0, .slice a1 l1.length c1, .slice a2 l2.length c2, .slice a3 l3.length c3] 28)).heap.size := by simp
  go_enter Try.func151, Try.ntmps151
  go_wp2_with fail
  generalize w.alloc (.cells #[.slice a0 l0.length c0, .slice a1 l1.length c1, .slice a2 l2.length c2, .slice a3 l3.length c3] 28) = W at *
  go_loopw [3, 4] (fun v i wr => ∃ k : Nat, k ≤ 16 ∧ i = .int .i64 k ∧ wr.ownsRow W.heap.size 3 1 v k (ic (ids.take k)) ∧ Below W.heap.size W wr) (fun _ i _ => 16 - (intOf i).toNat)
  case atStart => exact ⟨0, by omega, rfl, World.ownsRow_nil _ _ _ _, Below.refl _ _⟩
  case round =>
    obtain ⟨k, hk, rfl, hown, hbw⟩ := hrel
    by_cases hlt : k < 16
    · have HF : Hid (ids.take (k + 1) = ids.take k ++ [(k : Int)]) := ids_take hlt
      generalize ids.take k = ls at *
      have hkn : (k : Int) < 16 := by omega
      go_wp2_with (at_builtin; refine wpList_append_own _ rfl _ _ 44 rfl W.heap.size 3 i0 (.int .i64 0) 1 8 Try.underlying44 hi hz0 hz1 hz2 rfl (by decide) _ _ _ rfl (hown.alloc _) ⟨wr.heap.size, 0, none⟩ 1 1 [.int .i64 k] rfl rfl ?c1 ?c2 ?c3 ?c4 ?c5 ?_)
      case c1 =>
        intro j u hj
        match j, hj with
        | 0, hj => simp at hj; subst hj; simp [Addr.add]
      case c2 => intro u hu; simp at hu; subst hu; rfl
      case c3 => unfold maxLen; omega
      case c4 => omega
      case c5 => have := hbw.size; simp; omega
      · intro v' w4 hown' hg hiff
        have hb2 := (hbw.alloc hbw.size _).grown hg (Nat.le_trans hbw.size (by simp)) (by intro q hq; exact (hown.lt q hq).1)
        clear hiff hg hown hbw
        go_wp2
        first
          | (go_roundw
             case rel => exact ⟨k + 1, by omega, by go_num, by rw [HF.out]; simpa [ic] using hown', hb2⟩
             case measure => simp [intOf]; omega)
          | ((repeat apply Exists.intro); exact ⟨⟨k + 1, by omega, by go_num, by rw [HF.out]; simpa [ic] using hown', hb2⟩, rfl⟩)
    · have hown2 := hown
      rw [show k = 16 by omega] at hown2
      obtain ⟨a, cp, rfl, hr⟩ := IntIn.ofOwns hown2
      clear hown2
      obtain ⟨hl, h0 | ⟨b, rfl, g1, g2, O⟩⟩ := hr
      · omega
      have C1 : OwnI wr b 16 (clsV (l0.take 0)) 16 := by rw [show ids.take 16 = ids from rfl] at O; simpa [clsV] using O
      have L := L0.trans (hbw.mono s0)
      have X := B0.below hbw B0.lt
      have g3 := B0.lt
      have s1 : w.heap.size + 1 ≤ W.heap.size := by omega
      clear hown hbw O hl L0 B0
      generalize W.heap.size = NW at *
      clear g2
      go_wp2_with fail
      go_loopw [5] (fun i wr => ∃ k : Nat, k ≤ l0.length ∧ i = .int .i64 k ∧ OwnI wr b 16 (clsV (l0.take k)) 16 ∧ Box wr w.heap.size (.slice a0 l0.length c0) (.slice a1 l1.length c1) (.slice a2 l2.length c2) (.slice a3 l3.length c3) ∧ Below w.heap.size w wr) (fun i _ => l0.length - (intOf i).toNat)
      case atStart => exact ⟨0, Nat.zero_le _, rfl, C1, X, L⟩
      case round =>
        clear C1 X L
        obtain ⟨k, hk, rfl, C, X, L⟩ := hrel
        by_cases hlt : k < l0.length
        · rcases r0 with hnil | ⟨b0, off, rfl, hb, hc⟩
          · rw [hnil] at hlt; simp at hlt
          have hq0 : wr.cell? ⟨b0, off + k * 2, none⟩ = some (.int .i64 (l0.getD k (0, 0)).1) := by rw [L.cell (p := ⟨b0, _, none⟩) hb]; exact (hc k hlt).1
          have hq1 : wr.cell? ⟨b0, off + k * 2 + 1, none⟩ = some (.int .i64 (l0.getD k (0, 0)).2) := by rw [L.cell (p := ⟨b0, _, none⟩) hb]; exact (hc k hlt).2
          have hkn : (k : Int) < (l0.length : Int) := by omega
          have hk0' : (0 : Int) ≤ (k : Int) := by omega
          have htk := toks_get ht hlt
          have hcs := Cls.take ht k hk
          have hnx := clsV_step hlt
          generalize hp : l0.getD k (0, 0) = p at *
          clear hp hc
          obtain ⟨⟨q1, q2⟩, q3, q4⟩ := htk
          obtain ⟨x, y, rfl, hx, hy⟩ : ∃ x y : Nat, p = ((x : Int), (y : Int)) ∧ x < 16 ∧ y < 16 := ⟨p.1.toNat, p.2.toNat, by rw [Int.toNat_of_nonneg q1, Int.toNat_of_nonneg q3], by omega, by omega⟩
          clear q1 q2 q3 q4
          dsimp only at hq0 hq1
          have HNX : Hid (clsV (l0.take (k + 1)) = jn (clsV (l0.take k)) ((x : Int), (y : Int))) := hnx
          clear hnx ht
          have HL : Hid ((clsV (l0.take k)).length = 16) := hcs.1
          clear hcs
          generalize clsV (l0.take k) = c at *
          have hxi : (x : Int) < 16 := by omega
          have hyi : (y : Int) < 16 := by omega
          have hx0 : (0 : Int) ≤ (x : Int) := by omega
          have hy0 : (0 : Int) ≤ (y : Int) := by omega
          have e0 := X.c0
          have eu := C.2.2 x hx
          have ev := C.2.2 y hy
          have HJ0 : Hid (jn c ((x : Int), (y : Int)) = reps c (max (c.getD x 0) (c.getD y 0)) (min (c.getD x 0) (c.getD y 0))) := by simp [Hid, jn]
          generalize c.getD x 0 = u at *
          generalize c.getD y 0 = v at *
          go_wp2_with fail
          have hS0 : Below w.heap.size w wr.drew ∧ wr.drew.cell? ⟨w.heap.size, 0, none⟩ = some (.slice (some ⟨b0, off, none⟩) l0.length c0) ∧ wr.drew.cell? ⟨b0, off + k * 2, none⟩ = some (.int .i64 x) ∧ wr.drew.cell? ⟨b0, off + k * 2 + 1, none⟩ = some (.int .i64 y) ∧ wr.drew.cell? ⟨b, x, none⟩ = some (.int .i64 u) ∧ wr.drew.cell? ⟨b, y, none⟩ = some (.int .i64 v) := ⟨L.drew, e0, hq0, hq1, eu, ev⟩
          have X2 := X.drew
          have C2 := C.drew
          go_region_held3 (fun w' => Below w.heap.size w w' ∧ w'.cell? ⟨w.heap.size, 0, none⟩ = some (.slice (some ⟨b0, off, none⟩) l0.length c0) ∧ w'.cell? ⟨b0, off + k * 2, none⟩ = some (.int .i64 x) ∧ w'.cell? ⟨b0, off + k * 2 + 1, none⟩ = some (.int .i64 y) ∧ w'.cell? ⟨b, x, none⟩ = some (.int .i64 u) ∧ w'.cell? ⟨b, y, none⟩ = some (.int .i64 v))
            (first | exact hS0 | assumption | (refine ⟨?_, ?_, ?_, ?_, ?_, ?_⟩ <;> assumption))
            (fail)
          replace L := hS0.1
          clear hS0 X C e0 eu ev hq0 hq1
          generalize wr.drew = wd at *
          replace X := X2; replace C := C2
          clear X2 C2
          by_cases huv : v < u
          · have HJ : Hid (jn c ((x : Int), (y : Int)) = reps c u v) := by unfold Hid; rw [HJ0.out, show max u v = u by omega, show min u v = v by omega]
            clear HJ0
            go_wp2_with fail
            go_loopw [8] (fun i wr => ∃ t : Nat, t ≤ 16 ∧ i = .int .i64 t ∧ Mix wr b (reps c u v) c t ∧ Box wr w.heap.size (.slice (some ⟨b0, off, none⟩) l0.length c0) (.slice a1 l1.length c1) (.slice a2 l2.length c2) (.slice a3 l3.length c3) ∧ Below w.heap.size w wr) (fun i _ => 16 - (intOf i).toNat)
            case atStart => exact ⟨0, Nat.zero_le _, rfl, Mix.start _ C, X, L⟩
            case round =>
              clear C X L
              obtain ⟨t, ht, rfl, M, X, L⟩ := hrel
              by_cases hlt2 : t < 16
              · have hkn2 : (t : Int) < 16 := by omega
                have hk02 : (0 : Int) ≤ (t : Int) := by omega
                have hcell := M.2.2 t hlt2
                have hfr := M.2.1 t hlt2
                rw [if_neg (Nat.lt_irrefl t)] at hcell
                have hst := M.step
                have HRA := reps_at c u v (i := t) (by have := HL.out; omega)
                rw [HRA] at hst
                have HZZ : ¬ c.getD t 0 = u → (reps c u v).getD t 0 = c.getD t 0 := fun h => by rw [HRA]; unfold rep; rw [if_neg h]
                clear HRA
                replace HZZ : Hid (¬ c.getD t 0 = u → Mix wr b (reps c u v) c (t + 1)) := fun h => M.keep (HZZ h)
                generalize c.getD t 0 = z at *
                by_cases hz : z = u
                · have HZ : Hid (rep z u v = v) := by unfold Hid rep; rw [if_pos hz]
                  rw [HZ.out] at hst
                  have X2 := X.other b t (by omega) (.int .i64 v)
                  have L2 := Below.set L b t (by omega) (.int .i64 v)
                  clear M X L HZ
                  go_wp2
                  go_roundw
                  case rel => exact ⟨t + 1, by omega, by go_num, hst, X2, L2⟩
                  case measure => simp [intOf]; omega
                · have hst2 : Mix wr b (reps c u v) c (t + 1) := HZZ.out hz
                  clear hst M
                  go_wp2
                  go_roundw
                  case rel => exact ⟨t + 1, by omega, by go_num, hst2, X, L⟩
                  case measure => simp [intOf]; omega
              · have C2 : OwnI wr b 16 (reps c u v) 16 := by obtain rfl : t = 16 := (by omega); exact M.done
                have hge : ¬ ((t : Int) < 16) := by omega
                clear M hlt2
                go_wp2
                go_roundw
                case rel => exact ⟨k + 1, by omega, by go_num, by rw [HNX.out, HJ.out]; exact C2, X, L⟩
                case measure => simp [intOf]; omega
            
          · have HJ : Hid (jn c ((x : Int), (y : Int)) = reps c v u) := by unfold Hid; rw [HJ0.out, show max u v = v by omega, show min u v = u by omega]
            clear HJ0
            go_wp2_with fail
            go_loopw [8] (fun i wr => ∃ t : Nat, t ≤ 16 ∧ i = .int .i64 t ∧ Mix wr b (reps c v u) c t ∧ Box wr w.heap.size (.slice (some ⟨b0, off, none⟩) l0.length c0) (.slice a1 l1.length c1) (.slice a2 l2.length c2) (.slice a3 l3.length c3) ∧ Below w.heap.size w wr) (fun i _ => 16 - (intOf i).toNat)
            case atStart => exact ⟨0, Nat.zero_le _, rfl, Mix.start _ C, X, L⟩
            case round =>
              clear C X L
              obtain ⟨t, ht, rfl, M, X, L⟩ := hrel
              by_cases hlt2 : t < 16
              · have hkn2 : (t : Int) < 16 := by omega
                have hk02 : (0 : Int) ≤ (t : Int) := by omega
                have hcell := M.2.2 t hlt2
                have hfr := M.2.1 t hlt2
                rw [if_neg (Nat.lt_irrefl t)] at hcell
                have hst := M.step
                have HRA := reps_at c v u (i := t) (by have := HL.out; omega)
                rw [HRA] at hst
                have HZZ : ¬ c.getD t 0 = v → (reps c v u).getD t 0 = c.getD t 0 := fun h => by rw [HRA]; unfold rep; rw [if_neg h]
                clear HRA
                replace HZZ : Hid (¬ c.getD t 0 = v → Mix wr b (reps c v u) c (t + 1)) := fun h => M.keep (HZZ h)
                generalize c.getD t 0 = z at *
                by_cases hz : z = v
                · have HZ : Hid (rep z v u = u) := by unfold Hid rep; rw [if_pos hz]
                  rw [HZ.out] at hst
                  have X2 := X.other b t (by omega) (.int .i64 u)
                  have L2 := Below.set L b t (by omega) (.int .i64 u)
                  clear M X L HZ
                  go_wp2
                  go_roundw
                  case rel => exact ⟨t + 1, by omega, by go_num, hst, X2, L2⟩
                  case measure => simp [intOf]; omega
                · have hst2 : Mix wr b (reps c v u) c (t + 1) := HZZ.out hz
                  clear hst M
                  go_wp2
                  go_roundw
                  case rel => exact ⟨t + 1, by omega, by go_num, hst2, X, L⟩
                  case measure => simp [intOf]; omega
              · have C2 : OwnI wr b 16 (reps c v u) 16 := by obtain rfl : t = 16 := (by omega); exact M.done
                have hge : ¬ ((t : Int) < 16) := by omega
                clear M hlt2
                go_wp2
                go_roundw
                case rel => exact ⟨k + 1, by omega, by go_num, by rw [HNX.out, HJ.out]; exact C2, X, L⟩
                case measure => simp [intOf]; omega
            
        · obtain rfl : k = l0.length := by omega
          rw [List.take_length] at C
          have e0 := X.c0
          go_wp2
          go_ret
          exact ⟨b, cp, rfl, by omega, C, L⟩
end Go.Proofs.Ytphchdjbhbmnbaa
namespace Go.Proofs.Ytphchdjbhbmnbaa
open Go.RowKit
set_option linter.unusedSimpArgs false in
set_option maxRecDepth 3000 in
set_option maxHeartbeats 1000000 in
theorem classesOf_any (a0 a1 a2 a3 : Option Addr) (c0 c1 c2 c3 : Nat) (l0 l1 l2 l3 : List (Int × Int)) (w : World) (n0 : l0.length ≤ 1048576) (ht : toks l0 = true) (r0 : PRow w a0 l0) :
    Calls Try.prog 152 #[.agg #[.slice a0 l0.length c0, .slice a1 l1.length c1, .slice a2 l2.length c2, .slice a3 l3.length c3]] w fun e w' => e = .returned (aV (clsV l0)) ∧ Below w.heap.size w w' := by
  have X0 := ((Box.new w (.slice a0 l0.length c0) (.slice a1 l1.length c1) (.slice a2 l2.length c2) (.slice a3 l3.length c3) 28).alloc (.cells z16 102)).alloc (.cells z16 102)
  have R0 := (OwnI.zeros (w.alloc (.cells #[.slice a0 l0.length c0, .slice a1 l1.length c1, .slice a2 l2.length c2, .slice a3 l3.length c3] 28)) 102).alloc (.cells z16 102)
  have C0 := OwnI.zeros ((w.alloc (.cells #[.slice a0 l0.length c0, .slice a1 l1.length c1, .slice a2 l2.length c2, .slice a3 l3.length c3] 28)).alloc (.cells z16 102)) 102
  have L0 : Below w.heap.size w (((w.alloc (.cells #[.slice a0 l0.length c0, .slice a1 l1.length c1, .slice a2 l2.length c2, .slice a3 l3.length c3] 28)).alloc (.cells z16 102)).alloc (.cells z16 102)) := (((Below.refl _ _).alloc (Nat.le_refl _) _).alloc (by simp) _).alloc (by simp; omega) _
  rw [World.size_alloc] at R0 C0
  rw [World.size_alloc] at C0
  go_enter Try.func152, Try.ntmps152
  go_wp2_with fail
  generalize (((w.alloc (.cells #[.slice a0 l0.length c0, .slice a1 l1.length c1, .slice a2 l2.length c2, .slice a3 l3.length c3] 28)).alloc (.cells z16 102)).alloc (.cells z16 102)) = W at *
  go_loopw [7] (fun i wr => ∃ k : Nat, k ≤ 16 ∧ i = .int .i64 k ∧ Mix wr (w.heap.size + 1 + 1) ids (List.replicate 16 0) k ∧ OwnI wr (w.heap.size + 1) 16 (List.replicate 16 0) 16 ∧ Box wr w.heap.size (.slice a0 l0.length c0) (.slice a1 l1.length c1) (.slice a2 l2.length c2) (.slice a3 l3.length c3) ∧ Below w.heap.size w wr) (fun i _ => 16 - (intOf i).toNat)
  case atStart => exact ⟨0, Nat.zero_le _, rfl, Mix.start _ C0, R0, X0, L0⟩
  case round =>
    clear X0 R0 C0 L0
    obtain ⟨k, hk, rfl, M, R, X, L⟩ := hrel
    by_cases hlt : k < 16
    · have hkn : (k : Int) < 16 := by omega
      have hk0' : (0 : Int) ≤ (k : Int) := by omega
      have hcell := M.2.2 k hlt
      have hfr := M.2.1 k hlt
      have hst := M.step
      rw [ids_at hlt] at hst
      have R2 := R.set_other (w.heap.size + 1 + 1) k (by omega) (.int .i64 k)
      have X2 := X.other (w.heap.size + 1 + 1) k (by omega) (.int .i64 k)
      have L2 := Below.set L (w.heap.size + 1 + 1) k (by omega) (.int .i64 k)
      generalize (if k < k then ids.getD k 0 else (List.replicate 16 (0 : Int)).getD k 0) = x at *
      clear M R X L
      go_wp2
      go_roundw
      case rel => exact ⟨k + 1, by omega, by go_num, hst, R2, X2, L2⟩
      case measure => simp [intOf]; omega
    · have D : OwnI wr (w.heap.size + 1 + 1) 16 ids 16 := by obtain rfl : k = 16 := by omega
                                                             exact M.done
      clear M
      have y0 := X.c0
      clear X
      go_wp2_with fail
      clear y0 hlt
      have C1 : OwnI wr (w.heap.size + 1 + 1) 16 (clsV (l0.take 0)) 16 := by simpa [clsV] using D
      clear D
      go_loopw [17] (fun i wr => ∃ k : Nat, k ≤ l0.length ∧ i = .int .i64 k ∧ OwnI wr (w.heap.size + 1 + 1) 16 (clsV (l0.take k)) 16 ∧ OwnI wr (w.heap.size + 1) 16 (List.replicate 16 0) 16 ∧ Below w.heap.size w wr) (fun i _ => l0.length - (intOf i).toNat)
      case atStart => exact ⟨0, Nat.zero_le _, rfl, C1, R, L⟩
      case round =>
        clear C1 R L
        obtain ⟨k, hk, rfl, C, R, L⟩ := hrel
        by_cases hlt : k < l0.length
        · rcases r0 with hnil | ⟨b, off, rfl, hb, hc⟩
          · rw [hnil] at hlt; simp at hlt
          have hq0 : wr.cell? ⟨b, off + k * 2, none⟩ = some (.int .i64 (l0.getD k (0, 0)).1) := by rw [L.cell (p := ⟨b, _, none⟩) hb]; exact (hc k hlt).1
          have hq1 : wr.cell? ⟨b, off + k * 2 + 1, none⟩ = some (.int .i64 (l0.getD k (0, 0)).2) := by rw [L.cell (p := ⟨b, _, none⟩) hb]; exact (hc k hlt).2
          have hkn : (k : Int) < (l0.length : Int) := by omega
          have hk0' : (0 : Int) ≤ (k : Int) := by omega
          have htk := toks_get ht hlt
          have hcs := Cls.take ht k hk
          have hnx := clsV_step hlt
          have hnl := (Cls.take ht (k + 1) hlt).1
          generalize hp : l0.getD k (0, 0) = p at *
          clear hp hc
          obtain ⟨⟨q1, q2⟩, q3, q4⟩ := htk
          obtain ⟨x, y, rfl, hx, hy⟩ : ∃ x y : Nat, p = ((x : Int), (y : Int)) ∧ x < 16 ∧ y < 16 := ⟨p.1.toNat, p.2.toNat, by rw [Int.toNat_of_nonneg q1, Int.toNat_of_nonneg q3], by omega, by omega⟩
          clear q1 q2 q3 q4
          dsimp only at hq0 hq1
          rw [hnx] at hnl
          have HNX : Hid (clsV (l0.take (k + 1)) = jn (clsV (l0.take k)) ((x : Int), (y : Int))) := hnx
          clear hnx ht
          have hX := hcs.2 x hx
          have hY := hcs.2 y hy
          have HL := hcs.1
          clear hcs
          generalize clsV (l0.take k) = c at *
          have HJ : Hid (jn c ((x : Int), (y : Int)) = reps c (max (c.getD x 0) (c.getD y 0)) (min (c.getD x 0) (c.getD y 0))) := by simp [Hid, jn]
          go_wp2_with fail
          have B1 := PBox.new wr x y 69
          have L1 := L.alloc L.size (.cells #[.int .i64 (x : Int), .int .i64 (y : Int)] 69)
          have C1 := C.alloc (.cells #[.int .i64 (x : Int), .int .i64 (y : Int)] 69)
          have R1 := R.alloc (.cells #[.int .i64 (x : Int), .int .i64 (y : Int)] 69)
          have s1 := C.1
          have s2 := B1.lt
          have s0 := L1.size
          clear L C R hq0 hq1 hb
          generalize wr.alloc (.cells #[.int .i64 (x : Int), .int .i64 (y : Int)] 69) = W2 at *
          generalize wr.heap.size = q at *
          replace L1 := L1.drew; replace C1 := C1.drew; replace R1 := R1.drew; replace B1 := B1.drew
          have u67 := Try.underlying102
          have u60 := Try.underlying69
          have i67 : (Try.prog.info? 102).map (·.size) = some (ic c).length := by rw [ic_length, HL]; kernel_rfl
          have i60 : (Try.prog.info? 69).map (·.size) = some [Value.int .i64 (x : Int), Value.int .i64 (y : Int)].length := by kernel_rfl
          replace HL : Hid (c.length = 16) := HL
          have HNL : Hid ((jn c ((x : Int), (y : Int))).length = 16) := hnl
          clear hnl
          refine wp_region_held_drew (S := fun _ => True) (by kernel_rfl) trivial (fun _ => ?_)
          generalize W2.drew = W3 at *
          refine wpAnyH_ready (rs := [0, 1, 2]) (by kernel_rfl) (by simp) ?_
          refine AllReadyH.cons rfl (fun K hK => ?_) ?_
          · rw [if_pos (by rfl)]
            refine wp_load_mid 102 _ rfl _ 0 rfl (ic c) _ (C1.range HL.out) u67 rfl i67 ?_
            refine hK.out _ _ trivial (fun _ => ?_)
            clear hK K
            simp only [Act.put, List.setIfInBounds_toArray, List.set_cons_zero, List.set_cons_succ]
            refine wpAnyH_ready (rs := [1, 2]) (by kernel_rfl) (by simp) ?_
            refine AllReadyH.cons rfl (fun K hK => ?_) ?_
            · rw [if_pos (by rfl)]
              refine wp_load_mid 102 _ rfl _ 0 rfl (ic c) _ (C1.range HL.out) u67 rfl i67 ?_
              refine hK.out _ _ trivial (fun _ => ?_)
              clear hK K
              simp only [Act.put, List.setIfInBounds_toArray, List.set_cons_zero, List.set_cons_succ]
              refine wpAnyH_ready (rs := [2]) (by kernel_rfl) (by simp) ?_
              refine AllReadyH.cons rfl (fun K hK => ?_) ?_
              · rw [if_pos (by rfl)]
                refine wp_load_mid 69 _ rfl _ 0 rfl [.int .i64 (x : Int), .int .i64 (y : Int)] _ B1.range u60 rfl i60 ?_
                refine hK.out _ _ trivial (fun _ => ?_)
                clear hK K
                simp only [Act.put, List.setIfInBounds_toArray, List.set_cons_zero, List.set_cons_succ]
                refine wpAnyH_ready (rs := [3]) (by kernel_rfl) (by simp) ?_
                refine AllReadyH.cons rfl (fun K hK => ?_) ?_
                · rw [if_pos (by rfl)]
                  go_simp
                  refine (of_any c x y _ HL.out hx hy).mono ?_
                  rintro e u0 ⟨rfl, h0⟩
                  have C2 := C1.below h0 C1.1; have R2 := R1.below h0 R1.1; have B2 := B1.below h0 B1.lt; have L2 := L1.trans (h0.mono L1.size); clear h0
                  refine hK.out _ _ trivial (fun _ => ?_)
                  clear hK K
                  refine wpAnyH_ready (rs := [4]) (by kernel_rfl) (by simp) ?_
                  refine AllReadyH.cons rfl (fun K hK => ?_) ?_
                  · rw [if_pos (by rfl)]
                    go_simp
                    refine (joined_any c _ _ HL.out hX.1 hX.2 hY.1 hY.2 _).mono ?_
                    rintro e u1 ⟨rfl, h1⟩
                    have C3 := C2.below h1 C2.1; have R3 := R2.below h1 R2.1; have L3 := L2.trans (h1.mono L2.size); clear h1
                    rw [← HJ.out]
                    unfold aV
                    refine hK.out _ _ trivial (fun _ => ?_)
                    clear hK K
                    refine wpAnyH_ready (rs := [5]) (by kernel_rfl) (by simp) ?_
                    refine AllReadyH.cons rfl (fun K hK => ?_) ?_
                    · rw [if_pos (by rfl)]
                      refine wp_store_mid 102 _ _ rfl _ 0 (ic (jn c ((x : Int), (y : Int)))).toArray rfl rfl (by rw [ic_size, HNL.out]; exact C3.there) (by rw [ic_size, HNL.out]; kernel_rfl) (ic_one _) ?_
                      refine hK.out _ _ trivial (fun _ => ?_)
                      clear hK K
                      simp only [Act.put, List.setIfInBounds_toArray, List.set_cons_zero, List.set_cons_succ]
                      refine wpAnyH_done (by kernel_rfl) ?_ _
                      have C4 := C3.setAll HNL.out
                      have R4 := R3.setCells (w.heap.size + 1 + 1) (by omega) (ic (jn c ((x : Int), (y : Int))))
                      have L4 := Below.setCells (w.heap.size + 1 + 1) (by omega) (ic (jn c ((x : Int), (y : Int)))) 0 _ L3
                      clear C3 R3 L3
                      generalize World.setCells _ (w.heap.size + 1 + 1) 0 (ic (jn c ((x : Int), (y : Int)))) = u2 at *
                      go_wp2
                      go_roundw
                      case rel => exact ⟨k + 1, by omega, by go_num, by rw [HNX.out]; exact C4, R4, L4⟩
                      case measure => simp [intOf]; omega
                    exact AllReadyH.nil
                  exact AllReadyH.nil
                exact AllReadyH.nil
              exact AllReadyH.nil
            refine AllReadyH.cons rfl (fun K hK => ?_) ?_
            · rw [if_pos (by rfl)]
              refine wp_load_mid 69 _ rfl _ 0 rfl [.int .i64 (x : Int), .int .i64 (y : Int)] _ B1.range u60 rfl i60 ?_
              refine hK.out _ _ trivial (fun _ => ?_)
              clear hK K
              simp only [Act.put, List.setIfInBounds_toArray, List.set_cons_zero, List.set_cons_succ]
              refine wpAnyH_ready (rs := [1]) (by kernel_rfl) (by simp) ?_
              refine AllReadyH.cons rfl (fun K hK => ?_) ?_
              · rw [if_pos (by rfl)]
                refine wp_load_mid 102 _ rfl _ 0 rfl (ic c) _ (C1.range HL.out) u67 rfl i67 ?_
                refine hK.out _ _ trivial (fun _ => ?_)
                clear hK K
                simp only [Act.put, List.setIfInBounds_toArray, List.set_cons_zero, List.set_cons_succ]
                refine wpAnyH_ready (rs := [3]) (by kernel_rfl) (by simp) ?_
                refine AllReadyH.cons rfl (fun K hK => ?_) ?_
                · rw [if_pos (by rfl)]
                  go_simp
                  refine (of_any c x y _ HL.out hx hy).mono ?_
                  rintro e u0 ⟨rfl, h0⟩
                  have C2 := C1.below h0 C1.1; have R2 := R1.below h0 R1.1; have B2 := B1.below h0 B1.lt; have L2 := L1.trans (h0.mono L1.size); clear h0
                  refine hK.out _ _ trivial (fun _ => ?_)
                  clear hK K
                  refine wpAnyH_ready (rs := [4]) (by kernel_rfl) (by simp) ?_
                  refine AllReadyH.cons rfl (fun K hK => ?_) ?_
                  · rw [if_pos (by rfl)]
                    go_simp
                    refine (joined_any c _ _ HL.out hX.1 hX.2 hY.1 hY.2 _).mono ?_
                    rintro e u1 ⟨rfl, h1⟩
                    have C3 := C2.below h1 C2.1; have R3 := R2.below h1 R2.1; have L3 := L2.trans (h1.mono L2.size); clear h1
                    rw [← HJ.out]
                    unfold aV
                    refine hK.out _ _ trivial (fun _ => ?_)
                    clear hK K
                    refine wpAnyH_ready (rs := [5]) (by kernel_rfl) (by simp) ?_
                    refine AllReadyH.cons rfl (fun K hK => ?_) ?_
                    · rw [if_pos (by rfl)]
                      refine wp_store_mid 102 _ _ rfl _ 0 (ic (jn c ((x : Int), (y : Int)))).toArray rfl rfl (by rw [ic_size, HNL.out]; exact C3.there) (by rw [ic_size, HNL.out]; kernel_rfl) (ic_one _) ?_
                      refine hK.out _ _ trivial (fun _ => ?_)
                      clear hK K
                      simp only [Act.put, List.setIfInBounds_toArray, List.set_cons_zero, List.set_cons_succ]
                      refine wpAnyH_done (by kernel_rfl) ?_ _
                      have C4 := C3.setAll HNL.out
                      have R4 := R3.setCells (w.heap.size + 1 + 1) (by omega) (ic (jn c ((x : Int), (y : Int))))
                      have L4 := Below.setCells (w.heap.size + 1 + 1) (by omega) (ic (jn c ((x : Int), (y : Int)))) 0 _ L3
                      clear C3 R3 L3
                      generalize World.setCells _ (w.heap.size + 1 + 1) 0 (ic (jn c ((x : Int), (y : Int)))) = u2 at *
                      go_wp2
                      go_roundw
                      case rel => exact ⟨k + 1, by omega, by go_num, by rw [HNX.out]; exact C4, R4, L4⟩
                      case measure => simp [intOf]; omega
                    exact AllReadyH.nil
                  exact AllReadyH.nil
                exact AllReadyH.nil
              exact AllReadyH.nil
            exact AllReadyH.nil
          refine AllReadyH.cons rfl (fun K hK => ?_) ?_
          · rw [if_pos (by rfl)]
            refine wp_load_mid 102 _ rfl _ 0 rfl (ic c) _ (C1.range HL.out) u67 rfl i67 ?_
            refine hK.out _ _ trivial (fun _ => ?_)
            clear hK K
            simp only [Act.put, List.setIfInBounds_toArray, List.set_cons_zero, List.set_cons_succ]
            refine wpAnyH_ready (rs := [0, 2]) (by kernel_rfl) (by simp) ?_
            refine AllReadyH.cons rfl (fun K hK => ?_) ?_
            · rw [if_pos (by rfl)]
              refine wp_load_mid 102 _ rfl _ 0 rfl (ic c) _ (C1.range HL.out) u67 rfl i67 ?_
              refine hK.out _ _ trivial (fun _ => ?_)
              clear hK K
              simp only [Act.put, List.setIfInBounds_toArray, List.set_cons_zero, List.set_cons_succ]
              refine wpAnyH_ready (rs := [2]) (by kernel_rfl) (by simp) ?_
              refine AllReadyH.cons rfl (fun K hK => ?_) ?_
              · rw [if_pos (by rfl)]
                refine wp_load_mid 69 _ rfl _ 0 rfl [.int .i64 (x : Int), .int .i64 (y : Int)] _ B1.range u60 rfl i60 ?_
                refine hK.out _ _ trivial (fun _ => ?_)
                clear hK K
                simp only [Act.put, List.setIfInBounds_toArray, List.set_cons_zero, List.set_cons_succ]
                refine wpAnyH_ready (rs := [3]) (by kernel_rfl) (by simp) ?_
                refine AllReadyH.cons rfl (fun K hK => ?_) ?_
                · rw [if_pos (by rfl)]
                  go_simp
                  refine (of_any c x y _ HL.out hx hy).mono ?_
                  rintro e u0 ⟨rfl, h0⟩
                  have C2 := C1.below h0 C1.1; have R2 := R1.below h0 R1.1; have B2 := B1.below h0 B1.lt; have L2 := L1.trans (h0.mono L1.size); clear h0
                  refine hK.out _ _ trivial (fun _ => ?_)
                  clear hK K
                  refine wpAnyH_ready (rs := [4]) (by kernel_rfl) (by simp) ?_
                  refine AllReadyH.cons rfl (fun K hK => ?_) ?_
                  · rw [if_pos (by rfl)]
                    go_simp
                    refine (joined_any c _ _ HL.out hX.1 hX.2 hY.1 hY.2 _).mono ?_
                    rintro e u1 ⟨rfl, h1⟩
                    have C3 := C2.below h1 C2.1; have R3 := R2.below h1 R2.1; have L3 := L2.trans (h1.mono L2.size); clear h1
                    rw [← HJ.out]
                    unfold aV
                    refine hK.out _ _ trivial (fun _ => ?_)
                    clear hK K
                    refine wpAnyH_ready (rs := [5]) (by kernel_rfl) (by simp) ?_
                    refine AllReadyH.cons rfl (fun K hK => ?_) ?_
                    · rw [if_pos (by rfl)]
                      refine wp_store_mid 102 _ _ rfl _ 0 (ic (jn c ((x : Int), (y : Int)))).toArray rfl rfl (by rw [ic_size, HNL.out]; exact C3.there) (by rw [ic_size, HNL.out]; kernel_rfl) (ic_one _) ?_
                      refine hK.out _ _ trivial (fun _ => ?_)
                      clear hK K
                      simp only [Act.put, List.setIfInBounds_toArray, List.set_cons_zero, List.set_cons_succ]
                      refine wpAnyH_done (by kernel_rfl) ?_ _
                      have C4 := C3.setAll HNL.out
                      have R4 := R3.setCells (w.heap.size + 1 + 1) (by omega) (ic (jn c ((x : Int), (y : Int))))
                      have L4 := Below.setCells (w.heap.size + 1 + 1) (by omega) (ic (jn c ((x : Int), (y : Int)))) 0 _ L3
                      clear C3 R3 L3
                      generalize World.setCells _ (w.heap.size + 1 + 1) 0 (ic (jn c ((x : Int), (y : Int)))) = u2 at *
                      go_wp2
                      go_roundw
                      case rel => exact ⟨k + 1, by omega, by go_num, by rw [HNX.out]; exact C4, R4, L4⟩
                      case measure => simp [intOf]; omega
                    exact AllReadyH.nil
                  exact AllReadyH.nil
                exact AllReadyH.nil
              exact AllReadyH.nil
            refine AllReadyH.cons rfl (fun K hK => ?_) ?_
            · rw [if_pos (by rfl)]
              refine wp_load_mid 69 _ rfl _ 0 rfl [.int .i64 (x : Int), .int .i64 (y : Int)] _ B1.range u60 rfl i60 ?_
              refine hK.out _ _ trivial (fun _ => ?_)
              clear hK K
              simp only [Act.put, List.setIfInBounds_toArray, List.set_cons_zero, List.set_cons_succ]
              refine wpAnyH_ready (rs := [0, 3]) (by kernel_rfl) (by simp) ?_
              refine AllReadyH.cons rfl (fun K hK => ?_) ?_
              · rw [if_pos (by rfl)]
                refine wp_load_mid 102 _ rfl _ 0 rfl (ic c) _ (C1.range HL.out) u67 rfl i67 ?_
                refine hK.out _ _ trivial (fun _ => ?_)
                clear hK K
                simp only [Act.put, List.setIfInBounds_toArray, List.set_cons_zero, List.set_cons_succ]
                refine wpAnyH_ready (rs := [3]) (by kernel_rfl) (by simp) ?_
                refine AllReadyH.cons rfl (fun K hK => ?_) ?_
                · rw [if_pos (by rfl)]
                  go_simp
                  refine (of_any c x y _ HL.out hx hy).mono ?_
                  rintro e u0 ⟨rfl, h0⟩
                  have C2 := C1.below h0 C1.1; have R2 := R1.below h0 R1.1; have B2 := B1.below h0 B1.lt; have L2 := L1.trans (h0.mono L1.size); clear h0
                  refine hK.out _ _ trivial (fun _ => ?_)
                  clear hK K
                  refine wpAnyH_ready (rs := [4]) (by kernel_rfl) (by simp) ?_
                  refine AllReadyH.cons rfl (fun K hK => ?_) ?_
                  · rw [if_pos (by rfl)]
                    go_simp
                    refine (joined_any c _ _ HL.out hX.1 hX.2 hY.1 hY.2 _).mono ?_
                    rintro e u1 ⟨rfl, h1⟩
                    have C3 := C2.below h1 C2.1; have R3 := R2.below h1 R2.1; have L3 := L2.trans (h1.mono L2.size); clear h1
                    rw [← HJ.out]
                    unfold aV
                    refine hK.out _ _ trivial (fun _ => ?_)
                    clear hK K
                    refine wpAnyH_ready (rs := [5]) (by kernel_rfl) (by simp) ?_
                    refine AllReadyH.cons rfl (fun K hK => ?_) ?_
                    · rw [if_pos (by rfl)]
                      refine wp_store_mid 102 _ _ rfl _ 0 (ic (jn c ((x : Int), (y : Int)))).toArray rfl rfl (by rw [ic_size, HNL.out]; exact C3.there) (by rw [ic_size, HNL.out]; kernel_rfl) (ic_one _) ?_
                      refine hK.out _ _ trivial (fun _ => ?_)
                      clear hK K
                      simp only [Act.put, List.setIfInBounds_toArray, List.set_cons_zero, List.set_cons_succ]
                      refine wpAnyH_done (by kernel_rfl) ?_ _
                      have C4 := C3.setAll HNL.out
                      have R4 := R3.setCells (w.heap.size + 1 + 1) (by omega) (ic (jn c ((x : Int), (y : Int))))
                      have L4 := Below.setCells (w.heap.size + 1 + 1) (by omega) (ic (jn c ((x : Int), (y : Int)))) 0 _ L3
                      clear C3 R3 L3
                      generalize World.setCells _ (w.heap.size + 1 + 1) 0 (ic (jn c ((x : Int), (y : Int)))) = u2 at *
                      go_wp2
                      go_roundw
                      case rel => exact ⟨k + 1, by omega, by go_num, by rw [HNX.out]; exact C4, R4, L4⟩
                      case measure => simp [intOf]; omega
                    exact AllReadyH.nil
                  exact AllReadyH.nil
                exact AllReadyH.nil
              refine AllReadyH.cons rfl (fun K hK => ?_) ?_
              · rw [if_pos (by rfl)]
                go_simp
                refine (of_any c x y _ HL.out hx hy).mono ?_
                rintro e u0 ⟨rfl, h0⟩
                have C2 := C1.below h0 C1.1; have R2 := R1.below h0 R1.1; have B2 := B1.below h0 B1.lt; have L2 := L1.trans (h0.mono L1.size); clear h0
                refine hK.out _ _ trivial (fun _ => ?_)
                clear hK K
                refine wpAnyH_ready (rs := [0]) (by kernel_rfl) (by simp) ?_
                refine AllReadyH.cons rfl (fun K hK => ?_) ?_
                · rw [if_pos (by rfl)]
                  refine wp_load_mid 102 _ rfl _ 0 rfl (ic c) _ (C2.range HL.out) u67 rfl i67 ?_
                  refine hK.out _ _ trivial (fun _ => ?_)
                  clear hK K
                  simp only [Act.put, List.setIfInBounds_toArray, List.set_cons_zero, List.set_cons_succ]
                  refine wpAnyH_ready (rs := [4]) (by kernel_rfl) (by simp) ?_
                  refine AllReadyH.cons rfl (fun K hK => ?_) ?_
                  · rw [if_pos (by rfl)]
                    go_simp
                    refine (joined_any c _ _ HL.out hX.1 hX.2 hY.1 hY.2 _).mono ?_
                    rintro e u1 ⟨rfl, h1⟩
                    have C3 := C2.below h1 C2.1; have R3 := R2.below h1 R2.1; have L3 := L2.trans (h1.mono L2.size); clear h1
                    rw [← HJ.out]
                    unfold aV
                    refine hK.out _ _ trivial (fun _ => ?_)
                    clear hK K
                    refine wpAnyH_ready (rs := [5]) (by kernel_rfl) (by simp) ?_
                    refine AllReadyH.cons rfl (fun K hK => ?_) ?_
                    · rw [if_pos (by rfl)]
                      refine wp_store_mid 102 _ _ rfl _ 0 (ic (jn c ((x : Int), (y : Int)))).toArray rfl rfl (by rw [ic_size, HNL.out]; exact C3.there) (by rw [ic_size, HNL.out]; kernel_rfl) (ic_one _) ?_
                      refine hK.out _ _ trivial (fun _ => ?_)
                      clear hK K
                      simp only [Act.put, List.setIfInBounds_toArray, List.set_cons_zero, List.set_cons_succ]
                      refine wpAnyH_done (by kernel_rfl) ?_ _
                      have C4 := C3.setAll HNL.out
                      have R4 := R3.setCells (w.heap.size + 1 + 1) (by omega) (ic (jn c ((x : Int), (y : Int))))
                      have L4 := Below.setCells (w.heap.size + 1 + 1) (by omega) (ic (jn c ((x : Int), (y : Int)))) 0 _ L3
                      clear C3 R3 L3
                      generalize World.setCells _ (w.heap.size + 1 + 1) 0 (ic (jn c ((x : Int), (y : Int)))) = u2 at *
                      go_wp2
                      go_roundw
                      case rel => exact ⟨k + 1, by omega, by go_num, by rw [HNX.out]; exact C4, R4, L4⟩
                      case measure => simp [intOf]; omega
                    exact AllReadyH.nil
                  exact AllReadyH.nil
                exact AllReadyH.nil
              exact AllReadyH.nil
            exact AllReadyH.nil
          refine AllReadyH.cons rfl (fun K hK => ?_) ?_
          · rw [if_pos (by rfl)]
            refine wp_load_mid 69 _ rfl _ 0 rfl [.int .i64 (x : Int), .int .i64 (y : Int)] _ B1.range u60 rfl i60 ?_
            refine hK.out _ _ trivial (fun _ => ?_)
            clear hK K
            simp only [Act.put, List.setIfInBounds_toArray, List.set_cons_zero, List.set_cons_succ]
            refine wpAnyH_ready (rs := [0, 1]) (by kernel_rfl) (by simp) ?_
            refine AllReadyH.cons rfl (fun K hK => ?_) ?_
            · rw [if_pos (by rfl)]
              refine wp_load_mid 102 _ rfl _ 0 rfl (ic c) _ (C1.range HL.out) u67 rfl i67 ?_
              refine hK.out _ _ trivial (fun _ => ?_)
              clear hK K
              simp only [Act.put, List.setIfInBounds_toArray, List.set_cons_zero, List.set_cons_succ]
              refine wpAnyH_ready (rs := [1]) (by kernel_rfl) (by simp) ?_
              refine AllReadyH.cons rfl (fun K hK => ?_) ?_
              · rw [if_pos (by rfl)]
                refine wp_load_mid 102 _ rfl _ 0 rfl (ic c) _ (C1.range HL.out) u67 rfl i67 ?_
                refine hK.out _ _ trivial (fun _ => ?_)
                clear hK K
                simp only [Act.put, List.setIfInBounds_toArray, List.set_cons_zero, List.set_cons_succ]
                refine wpAnyH_ready (rs := [3]) (by kernel_rfl) (by simp) ?_
                refine AllReadyH.cons rfl (fun K hK => ?_) ?_
                · rw [if_pos (by rfl)]
                  go_simp
                  refine (of_any c x y _ HL.out hx hy).mono ?_
                  rintro e u0 ⟨rfl, h0⟩
                  have C2 := C1.below h0 C1.1; have R2 := R1.below h0 R1.1; have B2 := B1.below h0 B1.lt; have L2 := L1.trans (h0.mono L1.size); clear h0
                  refine hK.out _ _ trivial (fun _ => ?_)
                  clear hK K
                  refine wpAnyH_ready (rs := [4]) (by kernel_rfl) (by simp) ?_
                  refine AllReadyH.cons rfl (fun K hK => ?_) ?_
                  · rw [if_pos (by rfl)]
                    go_simp
                    refine (joined_any c _ _ HL.out hX.1 hX.2 hY.1 hY.2 _).mono ?_
                    rintro e u1 ⟨rfl, h1⟩
                    have C3 := C2.below h1 C2.1; have R3 := R2.below h1 R2.1; have L3 := L2.trans (h1.mono L2.size); clear h1
                    rw [← HJ.out]
                    unfold aV
                    refine hK.out _ _ trivial (fun _ => ?_)
                    clear hK K
                    refine wpAnyH_ready (rs := [5]) (by kernel_rfl) (by simp) ?_
                    refine AllReadyH.cons rfl (fun K hK => ?_) ?_
                    · rw [if_pos (by rfl)]
                      refine wp_store_mid 102 _ _ rfl _ 0 (ic (jn c ((x : Int), (y : Int)))).toArray rfl rfl (by rw [ic_size, HNL.out]; exact C3.there) (by rw [ic_size, HNL.out]; kernel_rfl) (ic_one _) ?_
                      refine hK.out _ _ trivial (fun _ => ?_)
                      clear hK K
                      simp only [Act.put, List.setIfInBounds_toArray, List.set_cons_zero, List.set_cons_succ]
                      refine wpAnyH_done (by kernel_rfl) ?_ _
                      have C4 := C3.setAll HNL.out
                      have R4 := R3.setCells (w.heap.size + 1 + 1) (by omega) (ic (jn c ((x : Int), (y : Int))))
                      have L4 := Below.setCells (w.heap.size + 1 + 1) (by omega) (ic (jn c ((x : Int), (y : Int)))) 0 _ L3
                      clear C3 R3 L3
                      generalize World.setCells _ (w.heap.size + 1 + 1) 0 (ic (jn c ((x : Int), (y : Int)))) = u2 at *
                      go_wp2
                      go_roundw
                      case rel => exact ⟨k + 1, by omega, by go_num, by rw [HNX.out]; exact C4, R4, L4⟩
                      case measure => simp [intOf]; omega
                    exact AllReadyH.nil
                  exact AllReadyH.nil
                exact AllReadyH.nil
              exact AllReadyH.nil
            refine AllReadyH.cons rfl (fun K hK => ?_) ?_
            · rw [if_pos (by rfl)]
              refine wp_load_mid 102 _ rfl _ 0 rfl (ic c) _ (C1.range HL.out) u67 rfl i67 ?_
              refine hK.out _ _ trivial (fun _ => ?_)
              clear hK K
              simp only [Act.put, List.setIfInBounds_toArray, List.set_cons_zero, List.set_cons_succ]
              refine wpAnyH_ready (rs := [0, 3]) (by kernel_rfl) (by simp) ?_
              refine AllReadyH.cons rfl (fun K hK => ?_) ?_
              · rw [if_pos (by rfl)]
                refine wp_load_mid 102 _ rfl _ 0 rfl (ic c) _ (C1.range HL.out) u67 rfl i67 ?_
                refine hK.out _ _ trivial (fun _ => ?_)
                clear hK K
                simp only [Act.put, List.setIfInBounds_toArray, List.set_cons_zero, List.set_cons_succ]
                refine wpAnyH_ready (rs := [3]) (by kernel_rfl) (by simp) ?_
                refine AllReadyH.cons rfl (fun K hK => ?_) ?_
                · rw [if_pos (by rfl)]
                  go_simp
                  refine (of_any c x y _ HL.out hx hy).mono ?_
                  rintro e u0 ⟨rfl, h0⟩
                  have C2 := C1.below h0 C1.1; have R2 := R1.below h0 R1.1; have B2 := B1.below h0 B1.lt; have L2 := L1.trans (h0.mono L1.size); clear h0
                  refine hK.out _ _ trivial (fun _ => ?_)
                  clear hK K
                  refine wpAnyH_ready (rs := [4]) (by kernel_rfl) (by simp) ?_
                  refine AllReadyH.cons rfl (fun K hK => ?_) ?_
                  · rw [if_pos (by rfl)]
                    go_simp
                    refine (joined_any c _ _ HL.out hX.1 hX.2 hY.1 hY.2 _).mono ?_
                    rintro e u1 ⟨rfl, h1⟩
                    have C3 := C2.below h1 C2.1; have R3 := R2.below h1 R2.1; have L3 := L2.trans (h1.mono L2.size); clear h1
                    rw [← HJ.out]
                    unfold aV
                    refine hK.out _ _ trivial (fun _ => ?_)
                    clear hK K
                    refine wpAnyH_ready (rs := [5]) (by kernel_rfl) (by simp) ?_
                    refine AllReadyH.cons rfl (fun K hK => ?_) ?_
                    · rw [if_pos (by rfl)]
                      refine wp_store_mid 102 _ _ rfl _ 0 (ic (jn c ((x : Int), (y : Int)))).toArray rfl rfl (by rw [ic_size, HNL.out]; exact C3.there) (by rw [ic_size, HNL.out]; kernel_rfl) (ic_one _) ?_
                      refine hK.out _ _ trivial (fun _ => ?_)
                      clear hK K
                      simp only [Act.put, List.setIfInBounds_toArray, List.set_cons_zero, List.set_cons_succ]
                      refine wpAnyH_done (by kernel_rfl) ?_ _
                      have C4 := C3.setAll HNL.out
                      have R4 := R3.setCells (w.heap.size + 1 + 1) (by omega) (ic (jn c ((x : Int), (y : Int))))
                      have L4 := Below.setCells (w.heap.size + 1 + 1) (by omega) (ic (jn c ((x : Int), (y : Int)))) 0 _ L3
                      clear C3 R3 L3
                      generalize World.setCells _ (w.heap.size + 1 + 1) 0 (ic (jn c ((x : Int), (y : Int)))) = u2 at *
                      go_wp2
                      go_roundw
                      case rel => exact ⟨k + 1, by omega, by go_num, by rw [HNX.out]; exact C4, R4, L4⟩
                      case measure => simp [intOf]; omega
                    exact AllReadyH.nil
                  exact AllReadyH.nil
                exact AllReadyH.nil
              refine AllReadyH.cons rfl (fun K hK => ?_) ?_
              · rw [if_pos (by rfl)]
                go_simp
                refine (of_any c x y _ HL.out hx hy).mono ?_
                rintro e u0 ⟨rfl, h0⟩
                have C2 := C1.below h0 C1.1; have R2 := R1.below h0 R1.1; have B2 := B1.below h0 B1.lt; have L2 := L1.trans (h0.mono L1.size); clear h0
                refine hK.out _ _ trivial (fun _ => ?_)
                clear hK K
                refine wpAnyH_ready (rs := [0]) (by kernel_rfl) (by simp) ?_
                refine AllReadyH.cons rfl (fun K hK => ?_) ?_
                · rw [if_pos (by rfl)]
                  refine wp_load_mid 102 _ rfl _ 0 rfl (ic c) _ (C2.range HL.out) u67 rfl i67 ?_
                  refine hK.out _ _ trivial (fun _ => ?_)
                  clear hK K
                  simp only [Act.put, List.setIfInBounds_toArray, List.set_cons_zero, List.set_cons_succ]
                  refine wpAnyH_ready (rs := [4]) (by kernel_rfl) (by simp) ?_
                  refine AllReadyH.cons rfl (fun K hK => ?_) ?_
                  · rw [if_pos (by rfl)]
                    go_simp
                    refine (joined_any c _ _ HL.out hX.1 hX.2 hY.1 hY.2 _).mono ?_
                    rintro e u1 ⟨rfl, h1⟩
                    have C3 := C2.below h1 C2.1; have R3 := R2.below h1 R2.1; have L3 := L2.trans (h1.mono L2.size); clear h1
                    rw [← HJ.out]
                    unfold aV
                    refine hK.out _ _ trivial (fun _ => ?_)
                    clear hK K
                    refine wpAnyH_ready (rs := [5]) (by kernel_rfl) (by simp) ?_
                    refine AllReadyH.cons rfl (fun K hK => ?_) ?_
                    · rw [if_pos (by rfl)]
                      refine wp_store_mid 102 _ _ rfl _ 0 (ic (jn c ((x : Int), (y : Int)))).toArray rfl rfl (by rw [ic_size, HNL.out]; exact C3.there) (by rw [ic_size, HNL.out]; kernel_rfl) (ic_one _) ?_
                      refine hK.out _ _ trivial (fun _ => ?_)
                      clear hK K
                      simp only [Act.put, List.setIfInBounds_toArray, List.set_cons_zero, List.set_cons_succ]
                      refine wpAnyH_done (by kernel_rfl) ?_ _
                      have C4 := C3.setAll HNL.out
                      have R4 := R3.setCells (w.heap.size + 1 + 1) (by omega) (ic (jn c ((x : Int), (y : Int))))
                      have L4 := Below.setCells (w.heap.size + 1 + 1) (by omega) (ic (jn c ((x : Int), (y : Int)))) 0 _ L3
                      clear C3 R3 L3
                      generalize World.setCells _ (w.heap.size + 1 + 1) 0 (ic (jn c ((x : Int), (y : Int)))) = u2 at *
                      go_wp2
                      go_roundw
                      case rel => exact ⟨k + 1, by omega, by go_num, by rw [HNX.out]; exact C4, R4, L4⟩
                      case measure => simp [intOf]; omega
                    exact AllReadyH.nil
                  exact AllReadyH.nil
                exact AllReadyH.nil
              exact AllReadyH.nil
            exact AllReadyH.nil
          exact AllReadyH.nil
        · obtain rfl : k = l0.length := by omega
          rw [List.take_length] at C
          have HC := (Cls.all ht).1
          have hnl : ¬ ((l0.length : Int) < (l0.length : Int)) := by omega
          iterate 18 go_step
          refine wl67 rfl (.tmp 3) rfl _ rfl C HC ?_
          refine ws67 rfl (.tmp 2) (.tmp 27) rfl _ rfl (clsV l0) _ rfl R HC rfl ?_
          have F := R.setAll HC
          have L2 := Below.setCells (w.heap.size + 1) (Nat.le_succ _) (ic (clsV l0)) 0 _ L
          generalize wr.setCells (w.heap.size + 1) 0 (ic (clsV l0)) = wz at *
          iterate 5 go_step
          exact bodyPost_ret (ret67 rfl _ _ _ rfl F HC) rfl ⟨rfl, L2⟩
end Go.Proofs.Ytphchdjbhbmnbaa
namespace Go.Proofs.Ytphchdjbhbmnbaa
open Go.RowKit
/-- Two and two are the same, either way about. -/
def pairIs (u v x y : Int) : Bool := decide (u = x ∧ v = y ∨ u = y ∧ v = x)
theorem pairIs_cpl {u v x y : Int} (hu : 0 ≤ u ∧ u < 16) (hv : 0 ≤ v ∧ v < 16) (hx : 0 ≤ x ∧ x < 16) (hy : 0 ≤ y ∧ y < 16) :
    (FloatKind.f64.format.order (fl (min u v)) (fl (min x y)) == some .eq && FloatKind.f64.format.order (fl (max u v)) (fl (max x y)) == some .eq) = pairIs u v x y := by
  rw [fl_order (by omega) (by omega) (by omega) (by omega), fl_order (by omega) (by omega) (by omega) (by omega)]
  unfold pairIs
  rw [← Bool.decide_and]
  exact decide_eq_decide.2 (by omega)
def amongV (c : List Int) (l : List (Int × Int)) (x y : Int) : Bool := l.any fun p => pairIs (c.getD p.1.toNat 0) (c.getD p.2.toNat 0) x y
theorem among_hit {c : List Int} {l : List (Int × Int)} {x y : Int} {k : Nat} (hk : k < l.length) (h : pairIs (c.getD (l.getD k (0, 0)).1.toNat 0) (c.getD (l.getD k (0, 0)).2.toNat 0) x y = true) : amongV c l x y = true := by
  unfold amongV
  rw [List.any_eq_true]
  refine ⟨l[k], List.getElem_mem hk, ?_⟩
  simpa [hk] using h
theorem among_none {c : List Int} {l : List (Int × Int)} {x y : Int} (h : ∀ k, k < l.length → pairIs (c.getD (l.getD k (0, 0)).1.toNat 0) (c.getD (l.getD k (0, 0)).2.toNat 0) x y = false) : amongV c l x y = false := by
  unfold amongV
  rw [List.any_eq_false]
  intro p hp
  obtain ⟨k, hk, rfl⟩ := List.getElem_of_mem hp
  have := h k hk
  simpa [hk] using this
theorem eql73 (a b c d : Nat) (w : World) : (binOp .eql 108 (.complex .f64 a b) (.complex .f64 c d)).run Try.prog w = .ok (.bool (FloatKind.f64.format.order a c == some .eq && FloatKind.f64.format.order b d == some .eq)) w := run_eql_complex (P := Try.prog) w 108 .f64 a b c d

set_option maxRecDepth 3000 in
set_option maxHeartbeats 1000000 in
theorem among_any (c : List Int) (a : Option Addr) (cp : Nat) (l : List (Int × Int)) (x y : Int) (hc : Cls c) (w : World) (hn : l.length ≤ 1048576) (ht : toks l = true) (hr : PRow w a l) (hx : 0 ≤ x ∧ x < 16) (hy : 0 ≤ y ∧ y < 16) :
    Calls Try.prog 157 #[aV c, .slice a l.length cp, cplV x y] w fun e w' => e = .returned (.bool (amongV c l x y)) ∧ Below w.heap.size w w' := by
  have CW := OwnI.new w c 16 hc.1 102
  have LW : Below w.heap.size w (w.alloc (.cells (ic c).toArray 102)) := (Below.refl _ _).alloc (Nat.le_refl _) _
  have HC : Hid (Cls c) := hc
  have HXY : Hid ((0 ≤ x ∧ x < 16) ∧ (0 ≤ y ∧ y < 16)) := ⟨hx, hy⟩
  clear hc hx hy
  unfold cplV
  obtain ⟨f1, hf1⟩ : ∃ f, f = fl (min x y) := ⟨_, rfl⟩
  obtain ⟨f2, hf2⟩ : ∃ f, f = fl (max x y) := ⟨_, rfl⟩
  rw [← hf1, ← hf2]
  replace hf1 : Hid (f1 = fl (min x y)) := hf1
  replace hf2 : Hid (f2 = fl (max x y)) := hf2
  unfold aV
  go_enter Try.func157, Try.ntmps157
  go_wp2_with fail
  generalize w.alloc (.cells (ic c).toArray 102) = W at *
  go_loopw [11] (fun i wr => ∃ k : Nat, k ≤ l.length ∧ i = .int .i64 k ∧ Hid (∀ j, j < k → pairIs (c.getD (l.getD j (0, 0)).1.toNat 0) (c.getD (l.getD j (0, 0)).2.toNat 0) x y = false) ∧ OwnI wr w.heap.size 16 c 16 ∧ Below w.heap.size w wr) (fun i _ => l.length - (intOf i).toNat)
  case atStart => exact ⟨0, Nat.zero_le _, rfl, fun j hj => absurd hj (Nat.not_lt_zero _), CW, LW⟩
  case round =>
    clear CW LW
    obtain ⟨k, hk, rfl, HM, C, L⟩ := hrel
    by_cases hlt : k < l.length
    · rcases hr with hnil | ⟨b, off, rfl, hb, hcl⟩
      · rw [hnil] at hlt; simp at hlt
      have hq0 : wr.cell? ⟨b, off + k * 2, none⟩ = some (.int .i64 (l.getD k (0, 0)).1) := by rw [L.cell (p := ⟨b, _, none⟩) hb]; exact (hcl k hlt).1
      have hq1 : wr.cell? ⟨b, off + k * 2 + 1, none⟩ = some (.int .i64 (l.getD k (0, 0)).2) := by rw [L.cell (p := ⟨b, _, none⟩) hb]; exact (hcl k hlt).2
      have hkn : (k : Int) < (l.length : Int) := by omega
      have hk0' : (0 : Int) ≤ (k : Int) := by omega
      have htk := toks_get ht hlt
      have HHIT : Hid (pairIs (c.getD (l.getD k (0, 0)).1.toNat 0) (c.getD (l.getD k (0, 0)).2.toNat 0) x y = true → amongV c l x y = true) := fun h => among_hit hlt h
      have HM2 : Hid (pairIs (c.getD (l.getD k (0, 0)).1.toNat 0) (c.getD (l.getD k (0, 0)).2.toNat 0) x y = false → ∀ j, j < k + 1 → pairIs (c.getD (l.getD j (0, 0)).1.toNat 0) (c.getD (l.getD j (0, 0)).2.toNat 0) x y = false) := by
        intro hf j hj
        by_cases e : j = k
        · subst e; exact hf
        · exact HM.out j (by omega)
      generalize l.getD k (0, 0) = p at *
      clear hcl
      obtain ⟨⟨q1, q2⟩, q3, q4⟩ := htk
      obtain ⟨s, t, rfl, hs, hts⟩ : ∃ s t : Nat, p = ((s : Int), (t : Int)) ∧ s < 16 ∧ t < 16 := ⟨p.1.toNat, p.2.toNat, by rw [Int.toNat_of_nonneg q1, Int.toNat_of_nonneg q3], by omega, by omega⟩
      clear q1 q2 q3 q4
      dsimp only at hq0 hq1
      simp only [Int.toNat_natCast] at HHIT HM2
      have HB := pairIs_cpl (HC.out.2 s hs) (HC.out.2 t hts) HXY.out.1 HXY.out.2
      have B1 := PBox.new wr s t 69
      have L1 := L.alloc L.size (.cells #[.int .i64 (s : Int), .int .i64 (t : Int)] 69)
      have C1 := C.alloc (.cells #[.int .i64 (s : Int), .int .i64 (t : Int)] 69)
      iterate 35 go_step
      refine wl67 rfl (.tmp 3) rfl _ rfl C1 HC.out.1 ?_
      clear hq0 hq1 C L
      generalize wr.alloc (.cells #[.int .i64 (s : Int), .int .i64 (t : Int)] 69) = W2 at *
      have e0 := B1.c0
      have e1 := B1.c1
      go_wp2_with fail
      refine (of_any c s t _ HC.out.1 hs hts).mono ?_
      rintro e u0 ⟨rfl, h0⟩
      have C2 := C1.below h0 C1.1
      have L2 := L1.trans (h0.mono L1.size)
      clear h0 e0 e1 B1 C1 L1
      generalize c.getD s 0 = u at *
      generalize c.getD t 0 = v at *
      rw [← hf1.out, ← hf2.out] at HB
      unfold cplV
      generalize fl (min u v) = g1 at *
      generalize fl (max u v) = g2 at *
      have hE := eql73 g1 g2 f1 f2
      rw [HB] at hE
      cases hp : pairIs u v x y
      · rw [hp] at hE HB
        have HM3 : Hid (∀ j, j < k + 1 → pairIs (c.getD (l.getD j (0, 0)).1.toNat 0) (c.getD (l.getD j (0, 0)).2.toNat 0) x y = false) := HM2.out hp
        go_wp2
        go_roundw
        case rel => exact ⟨k + 1, by omega, by go_num, HM3, C2, L2⟩
        case measure => simp [intOf]; omega
      · rw [hp] at hE HB
        have HV : Hid (amongV c l x y = true) := HHIT.out hp
        go_wp2
        go_ret
        exact ⟨by rw [HV.out]; rfl, L2⟩
    · have HV : Hid (amongV c l x y = false) := among_none (fun j hj => HM.out j (by omega))
      have hge : ¬ ((k : Int) < (l.length : Int)) := by omega
      go_wp2
      go_ret
      exact ⟨by rw [HV.out]; rfl, L⟩
end Go.Proofs.Ytphchdjbhbmnbaa
