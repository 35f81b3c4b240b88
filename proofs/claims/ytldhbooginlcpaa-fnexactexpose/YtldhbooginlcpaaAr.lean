/-
  Arrays of sixteen whole numbers, by value and in a block; the contract of the method of (two classes of a pair).
-/
import Derived.Test.YtldhbooginlcpaaCp
import Derived.Deep.MidRow
import Derived.Deep.RegionHeld3
namespace Go.Proofs.Ytldhbooginlcpaa
open Go.RowKit
/-- An array of whole numbers as a value. -/
def aV (c : List Int) : Value := .agg (ic c).toArray
theorem ic_get (c : List Int) {i : Nat} (h : i < c.length) : (ic c)[i]? = some (.int .i64 (c.getD i 0)) := by simp [ic, h]
theorem ic_size (c : List Int) : (ic c).toArray.size = c.length := by simp [ic]
theorem OwnI.new (w : World) (c : List Int) (n : Nat) (hn : c.length = n) (t : TypeId) : OwnI (w.alloc (.cells (ic c).toArray t)) w.heap.size n c n := by
  have hc : ∀ i, i < n → (w.alloc (.cells (ic c).toArray t)).cell? ⟨w.heap.size, i, none⟩ = some (.int .i64 (c.getD i 0)) := by
    intro i hi
    have h := ic_get c (i := i) (by omega)
    simp [h]
  exact ⟨by simp, fun j hj => ⟨⟨_, hc j hj⟩, by simp⟩, hc⟩
theorem OwnI.alloc {w : World} {b n k : Nat} {l : List Int} (h : OwnI w b n l k) (o : Obj) : OwnI (w.alloc o) b n l k := h.below ((Below.refl _ _).alloc (Nat.le_refl _) _) h.1
theorem OwnI.drew {w : World} {b n k : Nat} {l : List Int} (h : OwnI w b n l k) : OwnI w.drew b n l k := h.below ((Below.refl _ _).drew) h.1
theorem OwnI.range {w : World} {b n : Nat} {l : List Int} (h : OwnI w b n l n) (hn : l.length = n) : w.rangeAt b 0 (ic l) := by
  intro j v hv
  have hj : j < l.length := by
    have := (List.getElem?_eq_some_iff.1 hv).1
    simpa [ic] using this
  rw [ic_get l hj] at hv
  cases hv
  rw [Nat.zero_add]
  exact h.2.2 j (by omega)
theorem ld67 {w : World} {b : Nat} {c : List Int} (h : OwnI w b 16 c 16) (hl : c.length = 16) : (Instr.loadAt 95 (.pointer (some ⟨b, 0, none⟩))).run Try.prog w = .ok (.agg (ic c).toArray) w :=
  run_loadAt_mid (P := Try.prog) w b 0 95 (ic c) _ (h.range hl) Try.underlying95 rfl (by rw [ic_length, hl]; kernel_rfl)
/-- A load of a whole array. -/
theorem wl67 {ops : Array Oper} {rest : List Oper} {op : Oper} {a : Act} {w : World} {Q : Exit → Act → World → Prop} (hgd : op.guard = none) (x : Operand) (ho : op.op = .load 95 x)
    (b : Nat) (hx : a.eval x = .pointer (some ⟨b, 0, none⟩)) {c : List Int} (h : OwnI w b 16 c 16) (hl : c.length = 16)
    (k : wpList Try.prog ops Q rest (a.put op.dst (.agg (ic c).toArray)) w) : wpList Try.prog ops Q (op :: rest) a w :=
  wpList_load_mid hgd 95 x ho b 0 hx (ic c) _ (h.range hl) Try.underlying95 rfl (by rw [ic_length, hl]; kernel_rfl) k
theorem ic_one (c : List Int) : (ic c).toArray.all (·.oneCell') = true := all_oneCell_toArray (by intro v hv; simp only [ic, List.mem_map] at hv; obtain ⟨x, _, rfl⟩ := hv; rfl)
theorem OwnI.there {w : World} {b n k : Nat} {l : List Int} (h : OwnI w b n l k) : w.there b 0 n := fun j hj => by
  obtain ⟨⟨v, hv⟩, hf⟩ := h.2.1 j hj
  rw [Nat.zero_add]
  exact ⟨by rw [hv]; rfl, hf⟩
/-- A store of a whole array. -/
theorem ws67 {ops : Array Oper} {rest : List Oper} {op : Oper} {a : Act} {w : World} {Q : Exit → Act → World → Prop} (hgd : op.guard = none) (x y : Operand) (ho : op.op = .store 95 x y)
    (b : Nat) (hx : a.eval x = .pointer (some ⟨b, 0, none⟩)) (c d : List Int) (hy : a.eval y = .agg (ic c).toArray) {k : Nat} (h : OwnI w b 16 d k) (hl : c.length = 16) (hn : op.dst = none)
    (kk : wpList Try.prog ops Q rest a (w.setCells b 0 (ic c))) : wpList Try.prog ops Q (op :: rest) a w := by
  refine wpList_store_mid hgd 95 x y ho b 0 (ic c).toArray hx hy (by rw [ic_size, hl]; exact h.there) (by rw [ic_size, hl]; kernel_rfl) (ic_one c) ?_
  simpa [hn, Act.put] using kk
theorem Below.setCells {B : Nat} {a : World} (b : Nat) (hp : B ≤ b) : ∀ (vs : List Value) (o : Nat) (w : World), Below B a w → Below B a (w.setCells b o vs)
  | [], _, _, h => h
  | v :: vs, o, w, h => by
    simp only [World.setCells]
    exact Below.setCells b hp vs (o + 1) _ (Below.set h b o hp v)
theorem OwnI.setAll {w : World} {b k : Nat} {d c : List Int} (h : OwnI w b 16 d k) (hl : c.length = 16) : OwnI (w.setCells b 0 (ic c)) b 16 c 16 := by
  have ht := h.there
  have hr := World.rangeAt_setCells_same w b 0 (ic c) (by rw [ic_length, hl]; exact ht)
  have ht2 := World.there_setCells ht b 0 (ic c)
  have hc : ∀ i, i < 16 → (w.setCells b 0 (ic c)).cell? ⟨b, i, none⟩ = some (.int .i64 (c.getD i 0)) := fun i hi => by
    have := hr i _ (ic_get c (i := i) (by omega))
    rwa [Nat.zero_add] at this
  refine ⟨?_, fun j hj => ⟨⟨_, hc j hj⟩, ?_⟩, hc⟩
  · exact Nat.lt_of_lt_of_le h.1 (Below.setCells (B := 0) (a := w) b (Nat.zero_le _) (ic c) 0 w (Below.refl _ _)).size
  · have := (ht2 j hj).2
    rwa [Nat.zero_add] at this
theorem idx67 (c : List Int) (k : Nat) (hl : c.length = 16) (hk : k < 16) (w : World) : (Instr.index 95 (.agg (ic c).toArray) (.int .i64 k)).run Try.prog w = .ok (.int .i64 (c.getD k 0)) w := by
  have h0 : (0 : Int) ≤ (k : Int) ∧ (k : Int) < (16 : Nat) := by omega
  have hg := ic_get c (i := k) (by omega)
  have hi : (sizeOf 3).run Try.prog w = .ok 1 w := by kernel_rfl
  simp [Instr.index, run_underlying Try.underlying95, asIntOf, h0, part, isAgg, run_underlying Try.underlying3, hi, hg, Sem.run_bind, go_sem]
  omega
/-- The result is a whole array in a block. -/
theorem ret67 {fn : Func} {p : Tmp} (h : fn.results = #[.cell p 95]) (tmps : Array Value) (w : World) (b : Nat) (hb : tmps.getD p undef = .pointer (some ⟨b, 0, none⟩)) {c : List Int} (ho : OwnI w b 16 c 16) (hl : c.length = 16) :
    (results fn tmps).run Try.prog w = .ok (.agg (ic c).toArray) w := by
  have hv := run_loadVar_mid (P := Try.prog) w b 0 95 (ic c) _ (ho.range hl) Try.underlying95 rfl (by rw [ic_length, hl]; kernel_rfl)
  simp only [results, h]
  have hb2 : tmps[p]?.getD undef = .pointer (some ⟨b, 0, none⟩) := by simpa using hb
  simp [hb2, asAddr, hv]
/-- A pair of whole numbers in a block. -/
structure PBox (w : World) (b : Nat) (x y : Int) : Prop where
  lt : b < w.heap.size
  c0 : w.cell? ⟨b, 0, none⟩ = some (.int .i64 x)
  c1 : w.cell? ⟨b, 1, none⟩ = some (.int .i64 y)
theorem PBox.new (w : World) (x y : Int) (t : TypeId) : PBox (w.alloc (.cells #[.int .i64 x, .int .i64 y] t)) w.heap.size x y := ⟨by simp, by simp, by simp⟩
theorem PBox.below {B : Nat} {w w' : World} {b : Nat} {x y : Int} (h : PBox w b x y) (hb : Below B w w') (hB : b < B) : PBox w' b x y :=
  ⟨Nat.lt_of_lt_of_le h.lt hb.size, by rw [hb.cell (p := ⟨b, 0, none⟩) hB]; exact h.c0, by rw [hb.cell (p := ⟨b, 1, none⟩) hB]; exact h.c1⟩
set_option maxHeartbeats 1000000 in
theorem of_any (c : List Int) (x y : Nat) (w : World) (hl : c.length = 16) (hx : x < 16) (hy : y < 16) :
    Calls Try.prog 160 #[aV c, .agg #[.int .i64 x, .int .i64 y]] w fun e w' => e = .returned (cplV (c.getD x 0) (c.getD y 0)) ∧ Below w.heap.size w w' := by
  have A0 := OwnI.new w c 16 hl 95
  have B0 := PBox.new (w.alloc (.cells (ic c).toArray 95)) x y 67
  have A1 := A0.alloc (.cells #[.int .i64 x, .int .i64 y] 67)
  have L1 : Below w.heap.size w ((w.alloc (.cells (ic c).toArray 95)).alloc (.cells #[.int .i64 x, .int .i64 y] 67)) := ((Below.refl _ _).alloc (Nat.le_refl _) _).alloc (by simp) _
  rw [World.size_alloc] at B0
  have ex := A1.2.2 x hx
  have ey := A1.2.2 y hy
  have HX : Hid (x < 16) := hx
  have HY : Hid (y < 16) := hy
  have E0 := B0.c0
  have E1 := B0.c1
  clear A0 A1 B0
  unfold aV
  generalize c.getD x 0 = u at *
  generalize c.getD y 0 = v at *
  go_enter Try.func160, Try.ntmps160
  go_wp2_with fail
  generalize ((w.alloc (.cells (ic c).toArray 95)).alloc (.cells #[.int .i64 x, .int .i64 y] 67)) = W at *
  have hS0 : Below w.heap.size w W.drew ∧ W.drew.cell? ⟨w.heap.size, x, none⟩ = some (.int .i64 u) ∧ W.drew.cell? ⟨w.heap.size, y, none⟩ = some (.int .i64 v) ∧ W.drew.cell? ⟨w.heap.size + 1, 0, none⟩ = some (.int .i64 x) ∧ W.drew.cell? ⟨w.heap.size + 1, 1, none⟩ = some (.int .i64 y) := ⟨L1.drew, ex, ey, E0, E1⟩
  have hx0 : (0 : Int) ≤ (x : Int) := by omega
  have hx1 : (x : Int) < 16 := by have := HX.out; omega
  have hy0 : (0 : Int) ≤ (y : Int) := by omega
  have hy1 : (y : Int) < 16 := by have := HY.out; omega
  clear L1 ex ey E0 E1
  go_region_held3 (fun w' => Below w.heap.size w w' ∧ w'.cell? ⟨w.heap.size, x, none⟩ = some (.int .i64 u) ∧ w'.cell? ⟨w.heap.size, y, none⟩ = some (.int .i64 v) ∧ w'.cell? ⟨w.heap.size + 1, 0, none⟩ = some (.int .i64 x) ∧ w'.cell? ⟨w.heap.size + 1, 1, none⟩ = some (.int .i64 y))
    (first | exact hS0 | assumption | (refine ⟨?_, ?_, ?_, ?_, ?_⟩ <;> assumption))
    (first
      | (go_at_call 138; refine (coupleOf_any _ _ _).mono ?_; rintro e wz ⟨rfl, rfl⟩))
  all_goals
    go_wp2
    go_ret
    exact ⟨rfl, hS0.1⟩
end Go.Proofs.Ytldhbooginlcpaa
