/-
  The contracts of slices.Clone at integers, of impl's list and of impl.withHeap.
-/
import Derived.Test.YtokdhbegkbilbaaSeg
import Derived.Test.YtokdhbegkbilbaaNx
import Derived.Lib.SliceRun
namespace Go.Proofs.Ytokdhbegkbilbaa
open Go.RowKit Go.Maps

theorem owns_empty (w : World) : (w.alloc (.cells #[] 3)).ownsRow w.heap.size 3 1 (.slice (some ⟨w.heap.size, 0, none⟩) 0 0) 0 [] :=
  ⟨rfl, .inr ⟨w.heap.size, 0, #[], rfl, Nat.le_refl _, (MapKept.heap_alloc w _).1, Nat.le_refl _, Nat.zero_le _, rfl, rfl⟩⟩

set_option maxRecDepth 100000 in
set_option maxHeartbeats 1000000 in
theorem clone_any (b c : Nat) (l : List Int) (w : World) (hn : l.length ≤ 1048576) (hp : 0 < l.length) (ho : OwnI w b l.length l l.length) :
    Calls Try.prog 124 #[.slice (some ⟨b, 0, none⟩) l.length c] w fun e w' => ∃ d q, e = .returned (.slice (some ⟨d, 0, none⟩) l.length q) ∧ w.heap.size ≤ d ∧ OwnI w' d l.length l l.length ∧ Below w.heap.size w w' := by
  obtain ⟨i0, hi, hz0, hz1, hz2⟩ := Try.i3
  have h0 := owns_empty w
  have L0 : Below w.heap.size w (w.alloc (.cells #[] 3)) := (Below.refl _ _).alloc (Nat.le_refl _) _
  have o1 := ho.alloc (.cells #[] 3)
  have hl : (ic l).length = l.length * 1 := ic_length l
  have q22 : ∀ (w : World) (a : Option Addr) (n c n' c' : Nat), (binOp .eql 39 (.slice a n c) (.slice none n' c')).run Try.prog w = .ok (.bool a.isNone) w := fun w a n c n' c' => Lib.run_eql_slice_nil w _ _ a n c n' c' Try.underlying39
  go_enter Try.func124, Try.ntmps124
  go_wp2_with (at_builtin; refine wpList_append_own _ rfl _ _ 39 rfl w.heap.size 3 i0 (.int .i64 0) 1 8 Try.underlying39 hi hz0 hz1 hz2 rfl (by decide) _ _ _ rfl h0 ⟨b, 0, none⟩ l.length c (ic l) rfl hl o1.news ic_one ?c3 ?c4 ?c5 ?_)
  case c3 => unfold maxLen; omega
  case c4 => omega
  case c5 => simp
  intro v1 w1 hown hg hiff
  have hb := L0.grown hg L0.size (by intro k hk; simp [Value.ownBlock] at hk; omega)
  try rw [Nat.zero_add, List.nil_append] at hown
  obtain ⟨a, q, rfl, -, h3 | ⟨d, rfl, h4, h5, h6⟩⟩ := IntIn.ofOwns hown
  · omega
  clear hiff hown hg h0
  go_wp2
  go_ret
  exact ⟨d, q, rfl, h4, h6, hb⟩

/-- A map of integers as a heap's list. -/
def lst (f : Int → Option Int) : List Int := (List.range 7).map fun (i : Nat) => (f (i : Int)).getD (-1)
theorem lst_len (f : Int → Option Int) : (lst f).length = 7 := by simp [lst]
theorem lst_at (f : Int → Option Int) {k : Nat} (hk : k < 7) : (lst f).getD k 0 = (f k).getD (-1) := by simp [lst, hk]

set_option maxHeartbeats 2000000 in
theorem list_any (b N : Nat) (f : Int → Option Int) (w : World) (hm : HM w b N f) :
    Calls Try.prog 125 #[.map (some b)] w fun e w' => e = .returned (.slice (some ⟨w.heap.size, 0, none⟩) 7 7) ∧ OwnI w' w.heap.size 7 (lst f) 7 ∧ Below w.heap.size w w' := by
  have hmk : ∀ w : World, (Instr.makeSlice 39 (.int .i64 7) (.int .i64 7)).run Try.prog w = .ok (.slice (some ⟨w.heap.size, 0, none⟩) 7 7) (w.alloc (.cells (irow 7) 3)) := fun w => run_make3 7 (by omega) w
  have hs := OwnI.start w 7 (lst f)
  have hbl : Below w.heap.size w (w.alloc (.cells (irow 7) 3)) := (Below.refl _ _).alloc (Nat.le_refl _) _
  have hbm := hm.lt
  go_enter Try.func125, Try.ntmps125
  go_wp2
  go_loopw [4, 8] (fun _ i wr => ∃ k : Nat, k ≤ 7 ∧ i = .int .i64 k ∧ OwnI wr w.heap.size 7 (lst f) k ∧ Below w.heap.size w wr) (fun _ i _ => 7 - (intOf i).toNat)
  case atStart => exact ⟨0, Nat.zero_le _, rfl, hs, hbl⟩
  case round =>
    clear hs hbl
    obtain ⟨k, hk, rfl, ho, hbw⟩ := hrel
    by_cases hlt : k < 7
    · have hm1 := hm.below hbw hbm
      have wk : (Lit.int .i64 (k : Int)).wf = true := WalkArith.wf_i64 (by omega)
      have hc := there_any b N f k wr wk hm1
      obtain ⟨v0, hv0⟩ := (ho.2.1 k hlt).1
      have hf0 := (ho.2.1 k hlt).2
      have hst := ho.step hlt
      rw [lst_at f hlt] at hst
      have hki : (k : Int) < 7 := by omega
      cases e : f k with
      | none =>
        rw [e] at hc hst
        have hb2 := hbw.setCell (p := ⟨w.heap.size, k, none⟩) (Nat.le_refl _) (.int .i64 (-1))
        clear ho hbw hm1
        go_wp2_with (go_at_call 104; refine hc.mono ?_; rintro e w1 ⟨rfl, rfl⟩)
        go_roundw
        case rel => exact ⟨k + 1, by omega, by go_num, hst, hb2⟩
        case measure => simp [intOf]; omega
      | some y =>
        rw [e] at hc hst
        have hb2 := hbw.setCell (p := ⟨w.heap.size, k, none⟩) (Nat.le_refl _) (.int .i64 y)
        obtain ⟨Dm, hown, hf⟩ := hm1
        have HF : Hid (∀ z, Dm.atKey (ik k) z = .lit (.int .i64 y)) := ((hf k).2 y e).2
        clear hf ho hbw
        go_wp2_with (first
          | (go_at_call 104; refine hc.mono ?_; rintro e w1 ⟨rfl, rfl⟩)
          | (at_lookup; refine wpList_lookup_own_int _ rfl _ _ 93 rfl 3 3 .i64 law3 Try.underlying93 Try.underlying3 (zero3 _) b N _ rfl hown _ _ rfl (keyOf_int_mk Try.underlying3 wk) ?_; intro cc hat hwc; rw [HF.out] at hat; obtain rfl := intv hat)
          | go_in)
        go_roundw
        case rel => exact ⟨k + 1, by omega, by go_num, hst, hb2⟩
        case measure => simp [intOf]; omega
    · obtain rfl : k = 7 := by omega
      go_wp2
      go_ret
      exact ⟨rfl, ho, hbw⟩

set_option maxHeartbeats 2000000 in
theorem withHeap_any (b0 b1 c0 c1 n1 bm N : Nat) (t : List Int) (f : Int → Option Int) (w : World) (n0 : t.length ≤ 1048576) (p0 : 0 < t.length) (o0 : OwnI w b0 t.length t t.length) (hm : HM w bm N f) :
    Calls Try.prog 107 #[.agg #[.slice (some ⟨b0, 0, none⟩) t.length c0, .slice (some ⟨b1, 0, none⟩) n1 c1], .map (some bm)] w fun e w' => ∃ d0 d1 q0,
      e = .returned (.agg #[.slice (some ⟨d0, 0, none⟩) t.length q0, .slice (some ⟨d1, 0, none⟩) 7 7]) ∧ w.heap.size ≤ d0 ∧ d0 < d1 ∧ OwnI w' d0 t.length t t.length ∧ OwnI w' d1 7 (lst f) 7 ∧ Below w.heap.size w w' := by
  have R0 := Box.new (w.alloc (.cells #[.slice (some ⟨b0, 0, none⟩) t.length c0, .slice (some ⟨b1, 0, none⟩) n1 c1] 44)) (.slice none 0 0) (.slice none 0 0) 44
  have L0 : Below w.heap.size w ((w.alloc (.cells #[.slice (some ⟨b0, 0, none⟩) t.length c0, .slice (some ⟨b1, 0, none⟩) n1 c1] 44)).alloc (.cells #[.slice none 0 0, .slice none 0 0] 44)) := ((Below.refl _ _).alloc (Nat.le_refl _) _).alloc (by simp) _
  rw [World.size_alloc] at R0
  go_enter Try.func107, Try.ntmps107
  go_wp2_with fail
  refine (clone_any _ _ _ _ n0 p0 (by exact o0.keep L0)).mono ?_
  rintro e w1 ⟨d0, q0, rfl, g0, h0, hb⟩
  have R1 := R0.keep hb; have L1 := L0.trans (hb.mono L0.size)
  have g1 : w.heap.size + 2 ≤ d0 := by simpa [Nat.add_assoc] using g0
  clear hb L0 R0 g0
  go_wp2_with fail
  refine (list_any _ _ _ _ (by exact hm.keep L1)).mono ?_
  rintro e w2 ⟨rfl, h1, hb⟩
  have R2 := R1.keep hb; have L2 := L1.trans (hb.mono L1.size)
  have h0l := h0.1
  replace h0 := h0.keep hb
  clear hb L1 R1
  generalize w1.heap.size = d1 at *
  have e0 := R2.c0; have e1 := R2.c1; have f0 := R2.f0; have f1 := R2.f1
  have R3 := (R2.set0 (.slice (some ⟨d0, 0, none⟩) t.length q0)).set1 (.slice (some ⟨d1, 0, none⟩) 7 7)
  have i0 := R3.c0; have i1 := R3.c1
  go_wp2
  refine bodyPost_ret (v := .agg #[.slice (some ⟨d0, 0, none⟩) t.length q0, .slice (some ⟨d1, 0, none⟩) 7 7]) ?_ rfl ⟨d0, d1, q0, rfl, by omega, by omega, ?_, ?_, ?_⟩
  · simp [results, Try.results107, go_sem, i0, i1]
  · exact (h0.other _ _ (by omega) _).other _ _ (by omega) _
  · exact (h1.other _ _ (by omega) _).other _ _ (by omega) _
  · exact Below.set (Below.set L2 _ _ (by omega) _) _ _ (by omega) _

end Go.Proofs.Ytokdhbegkbilbaa
