/-
  The contract of the method joined: all of the greater class go to the lesser.
-/
import Derived.Test.YtldhbooginlcpaaAr
namespace Go.Proofs.Ytldhbooginlcpaa
open Go.RowKit
abbrev z16 : Array Value := #[.int .i64 0, .int .i64 0, .int .i64 0, .int .i64 0, .int .i64 0, .int .i64 0, .int .i64 0, .int .i64 0, .int .i64 0, .int .i64 0, .int .i64 0, .int .i64 0, .int .i64 0, .int .i64 0, .int .i64 0, .int .i64 0]
theorem z16_ic : z16 = (ic (List.replicate 16 0)).toArray := rfl
/-- All of c that are h become l. -/
def reps (c : List Int) (h l : Int) : List Int := c.map fun z => rep z h l
theorem reps_length (c : List Int) (h l : Int) : (reps c h l).length = c.length := by simp [reps]
theorem reps_at (c : List Int) (h l : Int) {i : Nat} (hi : i < c.length) : (reps c h l).getD i 0 = rep (c.getD i 0) h l := by simp [reps, hi]
/-- Block b has the first k of d, and then those of c. -/
def Mix (w : World) (b : Nat) (d c : List Int) (k : Nat) : Prop :=
  b < w.heap.size ∧ (∀ j, j < 16 → w.frozen? ⟨b, j, none⟩ = false) ∧ ∀ j, j < 16 → w.cell? ⟨b, j, none⟩ = some (.int .i64 (if j < k then d.getD j 0 else c.getD j 0))
theorem Mix.start {w : World} {b : Nat} {c : List Int} (d : List Int) (h : OwnI w b 16 c 16) : Mix w b d c 0 := ⟨h.1, fun j hj => (h.2.1 j hj).2, fun j hj => by rw [if_neg (by omega)]; exact h.2.2 j hj⟩
theorem Mix.done {w : World} {b : Nat} {d c : List Int} (h : Mix w b d c 16) : OwnI w b 16 d 16 := by
  have hc : ∀ j, j < 16 → w.cell? ⟨b, j, none⟩ = some (.int .i64 (d.getD j 0)) := fun j hj => by have := h.2.2 j hj; rwa [if_pos hj] at this
  exact ⟨h.1, fun j hj => ⟨⟨_, hc j hj⟩, h.2.1 j hj⟩, hc⟩
theorem Mix.below {B : Nat} {w w' : World} {b k : Nat} {d c : List Int} (h : Mix w b d c k) (hb : Below B w w') (hB : b < B) : Mix w' b d c k :=
  ⟨Nat.lt_of_lt_of_le h.1 hb.size, fun j hj => by rw [hb.frozen (p := ⟨b, j, none⟩) hB]; exact h.2.1 j hj, fun j hj => by rw [hb.cell (p := ⟨b, j, none⟩) hB]; exact h.2.2 j hj⟩
theorem Mix.drew {w : World} {b k : Nat} {d c : List Int} (h : Mix w b d c k) : Mix w.drew b d c k := h.below ((Below.refl _ _).drew) h.1
theorem Mix.step {w : World} {b k : Nat} {d c : List Int} (h : Mix w b d c k) : Mix (w.setCell ⟨b, k, none⟩ (.int .i64 (d.getD k 0))) b d c (k + 1) := by
  obtain ⟨h1, h2, h3⟩ := h
  refine ⟨by simpa using h1, fun j hj => by simpa using h2 j hj, fun j hj => ?_⟩
  rw [cell_set (h3 j hj)]
  by_cases e : k = j
  · subst e; rw [if_pos rfl, if_pos (by omega)]
  · rw [if_neg e]
    by_cases g : j < k
    · rw [if_pos g, if_pos (by omega)]
    · rw [if_neg g, if_neg (by omega)]
theorem OwnI.set_other {w : World} {b n k : Nat} {l : List Int} (h : OwnI w b n l k) (b' i' : Nat) (hp : b' ≠ b) (u : Value) : OwnI (w.setCell ⟨b', i', none⟩ u) b n l k := by
  obtain ⟨h1, h2, h3⟩ := h
  have e : ∀ o, (w.setCell ⟨b', i', none⟩ u).cell? ⟨b, o, none⟩ = w.cell? ⟨b, o, none⟩ := fun o => World.cell?_setCell_other w _ _ u (by intro h; cases h; exact hp rfl)
  refine ⟨by simpa using h1, fun j hj => ?_, fun i hi => by rw [e]; exact h3 i hi⟩
  rw [e]
  exact ⟨(h2 j hj).1, by simpa using (h2 j hj).2⟩
set_option maxRecDepth 3000 in
set_option maxHeartbeats 1000000 in
theorem joined_any (c : List Int) (u v : Int) (hs : c.length = 16) (hu0 : 0 ≤ u) (hu1 : u < 16) (hv0 : 0 ≤ v) (hv1 : v < 16) (w : World) :
    Calls Try.prog 188 #[aV c, cplV u v] w fun e w' => e = .returned (aV (reps c (max u v) (min u v))) ∧ Below w.heap.size w w' := by
  unfold aV cplV
  have hg0 : 0 ≤ max u v := by omega
  have hg1 : max u v < 16 := by omega
  have hk0 : 0 ≤ min u v := by omega
  have hk1 : min u v < 16 := by omega
  generalize max u v = g at *
  generalize min u v = l at *
  clear hu0 hu1 hv0 hv1
  have A0 := (OwnI.new w c 16 hs 95).alloc (.cells z16 95)
  have R0 := OwnI.new (w.alloc (.cells (ic c).toArray 95)) (List.replicate 16 0) 16 rfl 95
  rw [← z16_ic, World.size_alloc] at R0
  have L0 : Below w.heap.size w ((w.alloc (.cells (ic c).toArray 95)).alloc (.cells z16 95)) := ((Below.refl _ _).alloc (Nat.le_refl _) _).alloc (by simp) _
  go_enter Try.func188, Try.ntmps188
  iterate 15 go_step
  refine wl67 rfl (.tmp 2) rfl _ rfl A0 hs ?_
  generalize (w.alloc (.cells (ic c).toArray 95)).alloc (.cells z16 95) = W at *
  have HS : Hid (c.length = 16) := hs
  clear hs
  go_wp2_with fail
  go_loopw [8] (fun i wr => ∃ k : Nat, k ≤ 16 ∧ i = .int .i64 k ∧ Mix wr w.heap.size (reps c g l) c k ∧ OwnI wr (w.heap.size + 1) 16 (List.replicate 16 0) 16 ∧ Below w.heap.size w wr) (fun i _ => 16 - (intOf i).toNat)
  case atStart => exact ⟨0, Nat.zero_le _, rfl, Mix.start _ A0, R0, L0⟩
  case round =>
    clear A0 R0 L0
    obtain ⟨k, hk, rfl, M, R, L⟩ := hrel
    by_cases hlt : k < 16
    · have hkn : (k : Int) < 16 := by omega
      have hk0' : (0 : Int) ≤ (k : Int) := by omega
      have hix := idx67 c k HS.out hlt
      have hcell := M.2.2 k hlt
      have hfr := M.2.1 k hlt
      rw [if_neg (Nat.lt_irrefl k)] at hcell
      have hst := M.step
      rw [reps_at c g l (by have := HS.out; omega)] at hst
      generalize c.getD k 0 = x at *
      go_wp2_with fail
      refine (greater_any g _ _ hg0 hg1).mono ?_
      rintro e wz ⟨rfl, rfl⟩
      go_wp2_with fail
      refine (lesser_any l _ _ hk0 hk1).mono ?_
      rintro e wz ⟨rfl, rfl⟩
      go_wp2_with fail
      refine (replaced_any _ _ _ _).mono ?_
      rintro e wz ⟨rfl, rfl⟩
      have R2 := R.set_other w.heap.size k (by omega) (.int .i64 (rep x g l))
      have L2 := Below.set L w.heap.size k (Nat.le_refl _) (.int .i64 (rep x g l))
      generalize rep x g l = y at *
      clear M R L
      go_wp2
      go_roundw
      case rel => exact ⟨k + 1, by omega, by go_num, hst, R2, L2⟩
      case measure => simp [intOf]; omega
    · obtain rfl : k = 16 := by omega
      have D := M.done
      have hnl : ¬ (((16 : Nat) : Int) < 16) := by omega
      have HR : (reps c g l).length = 16 := by rw [reps_length]; exact HS.out
      iterate 18 go_step
      refine wl67 rfl (.tmp 2) rfl _ rfl D HR ?_
      refine ws67 rfl (.tmp 4) (.tmp 21) rfl _ rfl (reps c g l) _ rfl R HR rfl ?_
      have F := R.setAll HR
      have L2 := Below.setCells (w.heap.size + 1) (Nat.le_succ _) (ic (reps c g l)) 0 _ L
      generalize wr.setCells (w.heap.size + 1) 0 (ic (reps c g l)) = wz at *
      iterate 5 go_step
      exact bodyPost_ret (ret67 rfl _ _ _ rfl F HR) rfl ⟨rfl, L2⟩
end Go.Proofs.Ytldhbooginlcpaa
