/-
  The contract of spec.Mentions.
-/
import Derived.Test.YtanihlecenmdcaaCMm
namespace Go.Proofs.Ytanihlecenmdcaa
open Go.RowKit Go.Maps

def mnP (l : List Cm) (x : Int) : Bool := decide (1 ≤ x ∧ x ≤ 5) && mnV l x.toNat
def mentionsV (l : List Cm) : List Int := if progV l = true then S.ascL (mnP l) 7 else []
theorem mentionsV_len (l : List Cm) : (mentionsV l).length ≤ 7 := by
  unfold mentionsV
  split
  · exact S.ascL_len _ _
  · simp
theorem mnP_nat (l : List Cm) {j : Nat} (h1 : 1 ≤ j) (h2 : j < 6) : mnP l (j : Int) = mnV l j := by
  unfold mnP
  rw [decide_eq_true (by omega)]
  simp
theorem mnP_in {l : List Cm} {x : Int} (hx : mnP l x = true) : 1 ≤ x ∧ x ≤ 5 := by
  unfold mnP at hx
  simp only [Bool.and_eq_true, decide_eq_true_eq] at hx
  exact hx.1
theorem nil_of {c : Cm} (h : invN c = 0) : asnB c.l0 c.l1 c.l2 c.l3 = true := by
  unfold invN at h
  have e0 := List.eq_nil_of_length_eq_zero (show c.l0.length = 0 by omega)
  have e1 := List.eq_nil_of_length_eq_zero (show c.l1.length = 0 by omega)
  have e2 := List.eq_nil_of_length_eq_zero (show c.l2.length = 0 by omega)
  have e3 := List.eq_nil_of_length_eq_zero (show c.l3.length = 0 by omega)
  rw [e0, e1, e2, e3]
  rfl
theorem fOk_mn {c : Cm} (h : fOk c = true) : (0 ≤ c.x ∧ c.x ≤ 5) ∧ (0 ≤ c.y ∧ c.y ≤ 5) ∧ asnB c.l0 c.l1 c.l2 c.l3 = true := by
  have hv : ∀ t, isVar t = true → 0 ≤ t ∧ t ≤ 5 := fun t ht => by simp only [isVar, decide_eq_true_eq] at ht; omega
  have hl : ∀ t, isVal t = true → 0 ≤ t ∧ t ≤ 5 := fun t ht => by simp only [isVal, decide_eq_true_eq] at ht; omega
  have hb : bareB c = true → asnB c.l0 c.l1 c.l2 c.l3 = true := fun g => by simp only [bareB, Bool.and_eq_true, decide_eq_true_eq] at g; exact nil_of g.2.1
  by_cases h0 : c.k = 0 ∨ c.k = 2
  · rw [fOk_set h0] at h; simp only [Bool.and_eq_true] at h; exact ⟨hv _ h.2.1, hl _ h.2.2, hb h.1⟩
  by_cases h1 : c.k = 1
  · rw [fOk_load h1] at h; simp only [Bool.and_eq_true] at h; exact ⟨hv _ h.2.1, hv _ h.2.2, hb h.1⟩
  by_cases h3 : c.k = 3 ∨ c.k = 4
  · rw [fOk_new h3] at h; simp only [Bool.and_eq_true, decide_eq_true_eq] at h; exact ⟨hv _ h.2.1, by omega, hb h.1⟩
  by_cases h5 : c.k = 5
  · rw [fOk_if h5] at h; simp only [Bool.and_eq_true, decide_eq_true_eq] at h; exact ⟨hl _ h.1, hl _ h.2.1, nil_of h.2.2⟩
  by_cases h6 : c.k = 6
  · rw [fOk_while h6] at h; simp only [Bool.and_eq_true, invB] at h; exact ⟨hl _ h.1, hl _ h.2.1, by have g := h.2.2.1.1; unfold plainV at g; simp only [Bool.and_eq_true] at g; exact g.1⟩
  · rw [fOk_no (by omega)] at h; cases h
theorem oks_mn : ∀ l : List Cm, ∀ d, oks d l = true → mnOk l := by
  refine Cm.ind fun l ih d h => ?_
  rw [oks_all, List.all_eq_true] at h
  intro c hc
  induction l with
  | nil => simp [flats_nil] at hc
  | cons e l ihl =>
    rw [flats_cons, List.mem_append, Cm.flat_eq] at hc
    have he := h e (List.mem_cons_self ..)
    rw [Cm.ok_eq] at he
    simp only [Bool.and_eq_true, okS] at he
    rcases hc with hc | hc
    · rcases List.mem_cons.1 hc with rfl | hc
      · exact fOk_mn he.2.1
      · rcases List.mem_append.1 hc with hc | hc
        · exact (ih e (List.mem_cons_self ..)).1 _ he.2.2.1.2 c hc
        · exact (ih e (List.mem_cons_self ..)).2 _ he.2.2.2.2 c hc
    · exact ihl (fun x hx => ih x (List.mem_cons_of_mem _ hx)) (fun x hx => h x (List.mem_cons_of_mem _ hx)) hc
theorem progV_mn {l : List Cm} (h : progV l = true) : mnOk l := by
  unfold progV okS at h
  simp only [Bool.and_eq_true] at h
  exact oks_mn l 0 h.1.2

set_option maxRecDepth 20000 in
set_option maxHeartbeats 2000000 in
theorem sMentions_any (l : List Cm) (w : World) (lo hi : Nat) (a : Option Addr) (cap : Nat) (hr : CRow w lo hi a l) (hh : hi ≤ w.heap.size) (hs : cnts l ≤ 1048576) :
    Calls Try.prog 72 #[.slice a l.length cap] w fun e w' => ∃ a' c', e = .returned (.slice a' (mentionsV l).length c') ∧ S.IntIn w' w.heap.size w'.heap.size a' (mentionsV l).length (mentionsV l) ∧ Below w.heap.size w w' := by
  have HV : Hid (mentionsV l = if progV l = true then S.ascL (mnP l) 7 else []) := rfl
  go_enter Try.func72, Try.ntmps72
  go_wp2_with fail
  refine (sProgOk_any l _ _ _ _ _ hr hh hs).mono ?_
  rintro e w1 ⟨rfl, L⟩
  cases hok : progV l
  · go_wp2
    go_ret
    have e0 : mentionsV l = [] := by rw [HV.out, hok]; rfl
    exact ⟨none, 0, by rw [e0]; rfl, by rw [e0]; exact ⟨rfl, .inl rfl⟩, L⟩
  have HV2 : Hid (mentionsV l = S.ascL (mnP l) 7) := by show mentionsV l = _; rw [HV.out, hok]; rfl
  have hch := progV_mn hok
  have HIN : Hid (∀ x : Int, mnP l x = true → 1 ≤ x ∧ x ≤ 5) := fun x hx => mnP_in hx
  clear HV hok
  have hmk := run_makeB w1
  have L1 : Below w1.heap.size w1 (w1.alloc (.cells #[.bool false, .bool false, .bool false, .bool false, .bool false, .bool false] 4)) := (Below.refl _ _).alloc (Nat.le_refl _) _
  have FZ := FRow.zero w1
  have rl := (hr.below L hh).below L1 (Nat.le_trans hh L.size)
  go_wp2_with fail
  refine (l6mentions_any l _ lo hi w1.heap.size 6 cap a _ rl (Nat.le_trans hh L.size) FZ hch hs).mono ?_
  rintro e w2 ⟨rfl, F2, ho⟩
  have B2 : Below w1.heap.size w1 w2 := L1.trans (ho.below (Nat.le_refl _) (by simp))
  have L2 := L.trans (B2.mono L.size)
  have HFL : Hid (∀ j, 1 ≤ j → j < 6 → w2.cell? ⟨w1.heap.size, j, none⟩ = some (.bool (mnP l (j : Int)))) := fun j h1 hj => by have := (F2.2 j hj).1; rw [mnP_nat l h1 hj]; simpa using this
  have hf0 := F2.1
  clear F2 ho L1 FZ rl hmk B2
  have H0 : Hid (mnP l 0 = false) := by
    show mnP l 0 = false
    cases e : mnP l 0
    · rfl
    · have := HIN.out 0 e; omega
  have H6 : Hid (S.ascL (mnP l) 7 = S.ascL (mnP l) 6) := by
    refine ascL_no ?_
    cases e : mnP l ((6 : Nat) : Int)
    · rfl
    · have := HIN.out _ e; omega
  have H1 : Hid (S.ascL (mnP l) 1 = []) := by
    show S.ascL (mnP l) (0 + 1) = []
    rw [ascL_no (k := 0) (by exact H0.out)]; rfl
  generalize mnP l = p at *
  obtain ⟨i0, hi0, hz0, hz1, hz2⟩ := S.Try.i3
  go_wp2
  go_loopw [3, 5] (fun v i wr => ∃ k : Nat, 1 ≤ k ∧ k ≤ 6 ∧ i = .int .i64 k ∧ wr.ownsRow w2.heap.size 3 1 v (S.ascL p k).length (S.ic (S.ascL p k)) ∧ Below w2.heap.size w2 wr) (fun _ i _ => 6 - (intOf i).toNat)
  case atStart => exact ⟨1, by omega, by omega, rfl, by rw [H1.out]; exact World.ownsRow_nil _ _ _ _, Below.refl _ _⟩
  case round =>
    obtain ⟨k, hk1, hk, rfl, hown, hbw⟩ := hrel
    by_cases hlt : k < 6
    · have hx := hbw.cell (p := ⟨w1.heap.size, k, none⟩) hf0
      rw [HFL.out k hk1 hlt] at hx
      have hkl : (k : Int) < 6 := by omega
      have hle := S.ascL_len p k
      cases hp : p (k : Int)
      · have HF : Hid (S.ascL p (k + 1) = S.ascL p k) := ascL_no hp
        rw [hp] at hx
        clear hp
        generalize S.ascL p k = ls at *
        go_wp2
        go_roundw
        case rel => exact ⟨k + 1, by omega, by omega, by go_num, by rw [HF.out]; exact hown, hbw⟩
        case measure => simp [intOf]; omega
      · have HF : Hid (S.ascL p (k + 1) = S.ascL p k ++ [(k : Int)]) := ascL_yes hp
        rw [hp] at hx
        clear hp
        generalize S.ascL p k = ls at *
        go_wp2_with (at_builtin; refine wpList_append_own _ rfl _ _ 26 rfl w2.heap.size 3 i0 (.int .i64 0) 1 8 Try.underlying26 hi0 hz0 hz1 hz2 rfl (by decide) _ _ _ rfl (hown.alloc _) ⟨wr.heap.size, 0, none⟩ 1 1 [.int .i64 k] rfl rfl ?c1 ?c2 ?c3 ?c4 ?c5 ?_)
        try case c1 =>
          intro j u hj
          match j, hj with
          | 0, hj => simp at hj; subst hj; simp [Addr.add]
        try case c2 => first | rfl | (intro u hu; simp at hu; subst hu; rfl)
        case c3 => unfold maxLen; omega
        case c4 => omega
        case c5 => have := hbw.size; simp; omega
        · intro v' w4 hown' hg hiff
          have hb2 := (hbw.alloc hbw.size _).grown hg (Nat.le_trans hbw.size (by simp)) (by intro q hq; exact (hown.lt q hq).1)
          clear hiff hg hown hbw
          go_wp2
          first
            | (go_roundw
               case rel => exact ⟨k + 1, by omega, by omega, by go_num, by rw [HF.out]; simpa [S.ic] using hown', hb2⟩
               case measure => simp [intOf]; omega)
            | ((repeat apply Exists.intro); exact ⟨⟨k + 1, by omega, by omega, by go_num, by rw [HF.out]; simpa [S.ic] using hown', hb2⟩, rfl⟩)
    · obtain rfl : k = 6 := by omega
      go_wp2
      obtain ⟨a', c', rfl, hin⟩ := S.IntIn.ofOwns hown
      go_ret
      have e0 : mentionsV l = S.ascL p 6 := by rw [HV2.out, H6.out]
      exact ⟨a', c', by rw [e0]; rfl, by rw [e0]; exact hin.mono L2.size (Nat.le_refl _), L2.trans (hbw.mono L2.size)⟩

end Go.Proofs.Ytanihlecenmdcaa
