/-
  The contracts of spec.Loose and impl.Loose.
-/
import Derived.Test.YtagcbnngacealaaDo
namespace Go.Proofs.Ytagcbnngacealaa
open Go.RowKit Go.Maps

def looP (t hv : List Int) (x : Int) : Bool := decide (1 ≤ x ∧ x ≤ 6) && (!(hp hv 7 x).isSome && decide (x ∈ t))
def looO (t hv : List Int) : List Int := if sOk t hv = true then ascL (looP t hv) 7 else []
theorem looO_len (t hv : List Int) : (looO t hv).length ≤ 7 := by
  unfold looO
  split
  · exact ascL_len _ _
  · simp
theorem looP_in {t hv : List Int} (x : Int) (h : looP t hv x = true) : 0 ≤ x ∧ x ≤ 6 := by
  unfold looP at h
  simp only [Bool.and_eq_true, decide_eq_true_eq] at h
  omega
theorem mem_getD {l : List Int} {x : Int} (h : x ∈ l) : ∃ i, i < l.length ∧ l.getD i 0 = x := by
  obtain ⟨i, hi, rfl⟩ := List.getElem_of_mem h
  exact ⟨i, hi, by simp [hi]⟩
theorem getD_mem {l : List Int} {i : Nat} (h : i < l.length) : l.getD i 0 ∈ l := by
  simp [h]

set_option maxRecDepth 100000 in
set_option maxHeartbeats 1000000 in
theorem sLoose_any (b0 b1 c0 c1 : Nat) (t hv : List Int) (w : World) (n0 : t.length ≤ 1048576) (n1 : hv.length ≤ 1048576) (o0 : OwnI w b0 t.length t t.length) (o1 : OwnI w b1 hv.length hv hv.length) :
    Calls Try.prog 56 #[.agg #[.slice (some ⟨b0, 0, none⟩) t.length c0, .slice (some ⟨b1, 0, none⟩) hv.length c1]] w fun e w' => ∃ a c, e = .returned (.slice a (looO t hv).length c) ∧ IntIn w' w.heap.size w'.heap.size a (looO t hv).length (looO t hv) ∧ Below w.heap.size w w' := by
  have B0 := Box.new w (.slice (some ⟨b0, 0, none⟩) t.length c0) (.slice (some ⟨b1, 0, none⟩) hv.length c1) 44
  have L0 : Below w.heap.size w (w.alloc (.cells #[.slice (some ⟨b0, 0, none⟩) t.length c0, .slice (some ⟨b1, 0, none⟩) hv.length c1] 44)) := (Below.refl _ _).alloc (Nat.le_refl _) _
  have hc := sStateOk_any b0 b1 c0 c1 t hv _ n0 n1 (by exact o0.alloc (.cells #[.slice (some ⟨b0, 0, none⟩) t.length c0, .slice (some ⟨b1, 0, none⟩) hv.length c1] 44)) (by exact o1.alloc _)
  replace o0 := o0.alloc (.cells #[.slice (some ⟨b0, 0, none⟩) t.length c0, .slice (some ⟨b1, 0, none⟩) hv.length c1] 44)
  replace o1 := o1.alloc (.cells #[.slice (some ⟨b0, 0, none⟩) t.length c0, .slice (some ⟨b1, 0, none⟩) hv.length c1] 44)
  go_enter Try.func56, Try.ntmps56
  go_wp2_with fail
  refine hc.mono ?_
  rintro e w1 ⟨rfl, hb⟩
  have B1 := B0.keep hb; have L1 := L0.trans (hb.mono L0.size)
  replace o0 := o0.keep hb
  replace o1 := o1.keep hb
  clear hc hb B0 L0
  have z0 := B1.c0; have z1 := B1.c1
  cases hs : sOk t hv
  · have HN : Hid (looO t hv = []) := if_neg (by rw [hs]; simp)
    go_wp2
    go_ret
    rw [HN.out]
    exact ⟨none, 0, rfl, ⟨rfl, .inl rfl⟩, L1⟩
  · obtain ⟨⟨e16, et0, -⟩, e7, eh0, hr⟩ := sOk_true hs
    have HR : Hid (∀ i, i < 7 → -1 ≤ hv.getD i 0 ∧ hv.getD i 0 ≤ 6) := hr
    have E7 : Hid (hv.length = 7) := e7
    have E16 : Hid (t.length = 16) := e16
    have ET0 : Hid (t.getD 0 0 = 0) := et0
    have HN : Hid (looO t hv = ascL (looP t hv) 7) := if_pos hs
    clear hr e7 hs e16 et0 eh0
    obtain ⟨i0, hi, hz0, hz1, hz2⟩ := Try.i3
    have b1l := o1.1
    have b0l := o0.1
    have ab := B1.lt
    clear z0 z1
    go_wp2
    go_loopw [3, 4, 5] (fun v i _ wr => ∃ k : Nat, 1 ≤ k ∧ k ≤ 7 ∧ i = .int .i64 k ∧ wr.ownsRow w1.heap.size 3 1 v (ascL (looP t hv) k).length (ic (ascL (looP t hv) k)) ∧ Below w1.heap.size w1 wr) (fun _ i _ _ => 7 - (intOf i).toNat)
    case atStart => exact ⟨1, by omega, by omega, rfl, by rw [show ascL (looP t hv) 1 = [] from rfl]; exact World.ownsRow_nil _ _ _ _, Below.refl _ _⟩
    case round =>
      obtain ⟨k, hk1, hk, rfl, hown, hbw⟩ := hrel
      by_cases hlt : k < 7
      · obtain ⟨sa, sc, rfl, -⟩ := IntIn.ofOwns hown
        have hk6 : (k : Int) ≤ 6 := by omega
        have hx := (o1.below hbw b1l).2.2 k (by have := E7.out; omega)
        have ot := o0.below hbw b0l
        have B2 := B1.below hbw ab
        have zz0 := B2.c0; have zz1 := B2.c1
        have hy := HR.out k hlt
        have HK : Hid ((hp hv 7 k).isSome = decide (hv.getD k 0 ≠ -1)) := domP_nat hlt
        have hle := ascL_len (looP t hv) k
        have hkl : (k : Int) < (hv.length : Int) := by have := E7.out; omega
        obtain ⟨u, eu⟩ : ∃ u, Hid (hv.getD k 0 = u) := ⟨_, rfl⟩
        rw [eu.out] at hx hy HK
        have HP : Hid (looP t hv k = (!decide (u ≠ -1) && decide ((k : Int) ∈ t))) := by
          show looP t hv k = _
          unfold looP
          rw [HK.out, decide_eq_true (by omega : 1 ≤ (k : Int) ∧ (k : Int) ≤ 6)]
          rfl
        go_wp2
        go_loop [3, 5] (fun v i => ∃ j : Nat, v = .slice sa (ascL (looP t hv) k).length sc ∧ 1 ≤ j ∧ j ≤ 16 ∧ i = .int .i64 j ∧ Hid (∀ q, q < j → t.getD q 0 ≠ (k : Int))) (fun _ i => 16 - (intOf i).toNat)
        case atStart => exact ⟨1, rfl, by omega, by omega, rfl, fun q hq => by
          obtain rfl : q = 0 := by omega
          rw [ET0.out]; omega⟩
        case round =>
          obtain ⟨j, rfl, hj1, hj, rfl, hall⟩ := hrel
          by_cases hjl : j < 16
          · have hji : (j : Int) < (t.length : Int) := by have := E16.out; omega
            by_cases c : u < 0
            · have hty := ot.2.2 j (by have := E16.out; omega)
              obtain ⟨y, ey⟩ : ∃ y, Hid (t.getD j 0 = y) := ⟨_, rfl⟩
              rw [ey.out] at hty
              by_cases cy : y = (k : Int)
              · have HF : Hid (ascL (looP t hv) (k + 1) = ascL (looP t hv) k ++ [(k : Int)]) := ascL_yes (by
                  rw [HP.out, decide_eq_true (show (k : Int) ∈ t from by rw [← cy, ← ey.out]; exact getD_mem (by have := E16.out; omega))]
                  simp; omega)
                generalize ascL (looP t hv) k = ls at *
                subst cy
                go_wp2_with (at_builtin; refine wpList_append_own _ rfl _ _ 39 rfl w1.heap.size 3 i0 (.int .i64 0) 1 8 Try.underlying39 hi hz0 hz1 hz2 rfl (by decide) _ _ _ rfl (hown.alloc _) ⟨wr.heap.size, 0, none⟩ 1 1 [.int .i64 k] rfl rfl ?c1 ?c2 ?c3 ?c4 ?c5 ?_)
                try case c1 =>
                  intro j u hj
                  match j, hj with
                  | 0, hj => simp at hj; subst hj; simp [Addr.add]
                try case c2 => first | rfl | (intro u hu; simp at hu; subst hu; rfl)
                case c3 => unfold maxLen; omega
                case c4 => omega
                case c5 => have := hbw.size; simp; omega
                · intro v' w4 hown' hg hiff
                  have hb2 := (hbw.alloc hbw.size _).grown hg (Nat.le_trans hbw.size (by simp)) (by intro q hq; exact (hown.lt q hq).1)
                  clear hiff hg hown hbw
                  go_wp2
                  first
                    | (go_roundw
                       case rel => exact ⟨k + 1, by omega, by omega, by go_num, by rw [HF.out]; simpa [ic] using hown', hb2⟩
                       case measure => simp [intOf]; omega)
                    | ((repeat apply Exists.intro); exact ⟨⟨k + 1, by omega, by omega, by go_num, by rw [HF.out]; simpa [ic] using hown', hb2⟩, rfl⟩)
              · go_wp2
                go_round
                case rel => exact ⟨j + 1, rfl, by omega, by omega, by go_num, fun q hq => by
                  by_cases e : q = j
                  · subst e; rw [ey.out]; exact cy
                  · exact hall.out q (by omega)⟩
                case measure => simp [intOf]; omega
            · have HF : Hid (ascL (looP t hv) (k + 1) = ascL (looP t hv) k) := ascL_no (by rw [HP.out]; simp; omega)
              go_wp2
              go_roundw
              case rel => exact ⟨k + 1, by omega, by omega, by go_num, by rw [HF.out]; exact hown, hbw⟩
              case measure => simp [intOf]; omega
          · obtain rfl : j = 16 := by omega
            have hji : ¬ ((16 : Int) < (t.length : Int)) := by have := E16.out; omega
            have HF : Hid (ascL (looP t hv) (k + 1) = ascL (looP t hv) k) := ascL_no (by
              rw [HP.out, decide_eq_false (show (k : Int) ∉ t from fun hm => by
                obtain ⟨i, hi, e⟩ := mem_getD hm
                exact hall.out i (by have := E16.out; omega) e)]
              simp)
            go_wp2
            go_roundw
            case rel => exact ⟨k + 1, by omega, by omega, by go_num, by rw [HF.out]; exact hown, hbw⟩
            case measure => simp [intOf]; omega
      · obtain rfl : k = 7 := by omega
        obtain ⟨a, c, rfl, hin⟩ := IntIn.ofOwns hown
        have L2 := L1.trans (hbw.mono L1.size)
        go_wp2
        go_ret
        rw [HN.out]
        first
          | exact ⟨a, c, rfl, hin.mono L1.size (Nat.le_refl _), L2⟩
          | exact ⟨a, ⟨c, rfl⟩, hin.mono L1.size (Nat.le_refl _), L2⟩

set_option maxRecDepth 100000 in
set_option maxHeartbeats 1000000 in
theorem iLoose_any (b0 b1 c0 c1 : Nat) (t hv : List Int) (w : World) (n0 : t.length ≤ 1048576) (n1 : hv.length ≤ 1048576) (o0 : OwnI w b0 t.length t t.length) (o1 : OwnI w b1 hv.length hv hv.length) :
    Calls Try.prog 57 #[.agg #[.slice (some ⟨b0, 0, none⟩) t.length c0, .slice (some ⟨b1, 0, none⟩) hv.length c1]] w fun e w' => ∃ a c, e = .returned (.slice a (looO t hv).length c) ∧ IntIn w' w.heap.size w'.heap.size a (looO t hv).length (looO t hv) ∧ Below w.heap.size w w' := by
  have hmm := @run_makeMap Try.prog
  have B0 := Box.new w (.slice (some ⟨b0, 0, none⟩) t.length c0) (.slice (some ⟨b1, 0, none⟩) hv.length c1) 44
  have L0 : Below w.heap.size w (w.alloc (.cells #[.slice (some ⟨b0, 0, none⟩) t.length c0, .slice (some ⟨b1, 0, none⟩) hv.length c1] 44)) := (Below.refl _ _).alloc (Nat.le_refl _) _
  have hc := iStateOk_any b0 b1 c0 c1 t hv _ n0 n1 (by exact o0.alloc (.cells #[.slice (some ⟨b0, 0, none⟩) t.length c0, .slice (some ⟨b1, 0, none⟩) hv.length c1] 44)) (by exact o1.alloc _)
  replace o0 := o0.alloc (.cells #[.slice (some ⟨b0, 0, none⟩) t.length c0, .slice (some ⟨b1, 0, none⟩) hv.length c1] 44)
  replace o1 := o1.alloc (.cells #[.slice (some ⟨b0, 0, none⟩) t.length c0, .slice (some ⟨b1, 0, none⟩) hv.length c1] 44)
  go_enter Try.func57, Try.ntmps57
  go_wp2_with fail
  refine hc.mono ?_
  rintro e w1 ⟨rfl, hb⟩
  have B1 := B0.keep hb; have L1 := L0.trans (hb.mono L0.size)
  replace o0 := o0.keep hb
  replace o1 := o1.keep hb
  clear hc hb B0 L0
  have z0 := B1.c0; have z1 := B1.c1
  cases hs : sOk t hv
  · have HN : Hid (looO t hv = []) := if_neg (by rw [hs]; simp)
    go_wp2
    go_ret
    rw [HN.out]
    exact ⟨none, 0, rfl, ⟨rfl, .inl rfl⟩, L1⟩
  · have E7 : Hid (hv.length = 7) := (sOk_true hs).2.1
    have E16 : Hid (t.length = 16) := (sOk_true hs).1.1
    have HTR : Hid (∀ i, i < 16 → 0 ≤ t.getD i 0 ∧ t.getD i 0 ≤ 6) := (sOk_true hs).1.2.2
    have HN : Hid (looO t hv = ascL (looP t hv) 7) := if_pos hs
    have h2 := heapOf_any b1 c1 hv w1 n1 (sOk_heap hs) (by exact o1)
    have HT : Hid (∀ k, k < t.length → t.take (k + 1) = t.take k ++ [t.getD k 0]) := fun k hk => take_snoc hk
    have HA : Hid (t.take t.length = t) := List.take_length
    clear hs
    go_wp2_with fail
    refine h2.mono ?_
    rintro e w2 ⟨rfl, hm, hb⟩
    have L2 := L1.trans (hb.mono L1.size)
    have B2 := B1.keep hb
    replace o0 := o0.keep hb
    rw [E7.out] at hm
    clear h2 hb B1 z0 z1 L1 o1
    generalize w1.heap.size = bm at *
    have s2 := HS.made w2
    have hm2 := hm.alloc (.map #[] 0)
    have o2 := o0.alloc (.map #[] 0)
    have al : Below w2.heap.size w2 (w2.alloc (.map #[] 0)) := (Below.refl _ _).alloc (Nat.le_refl _) _
    have z0 := (B2.keep al).c0; have z1 := (B2.keep al).c1
    have hbm := hm.lt
    have b0l := o0.1
    go_wp2
    clear z0 z1
    go_loopw [6, 17] (fun _ i wr => ∃ k : Nat, k ≤ t.length ∧ i = .int .i64 k ∧ HS wr w2.heap.size k (looP (t.take k) hv) ∧ Below w2.heap.size w2 wr) (fun _ i _ => t.length - (intOf i).toNat)
    case atStart => exact ⟨0, by omega, rfl, by
      have e : looP (t.take 0) hv = fun _ => false := by funext q; simp [looP]
      rw [e]; exact s2, al⟩
    case round =>
      clear s2 hm2 o2 al
      obtain ⟨k, hk, rfl, hset, hbw⟩ := hrel
      by_cases hlt : k < t.length
      · have hx := (o0.below hbw b0l).2.2 k hlt
        have hr := HTR.out k (by have := E16.out; omega)
        have hmw := hm.below hbw hbm
        have hki : (k : Int) < (t.length : Int) := by omega
        obtain ⟨x, ex⟩ : ∃ x, Hid (t.getD k 0 = x) := ⟨_, rfl⟩
        rw [ex.out] at hx hr
        have HE : Hid (t.take (k + 1) = t.take k ++ [x]) := by have := HT.out k hlt; rw [ex.out] at this; exact this
        have wx : (Lit.int .i64 x).wf = true := WalkArith.wf_i64 (by omega)
        have ca := addrOk_any x wr
        have ct := there_any bm 7 _ x wr wx hmw
        have cA := add_any w2.heap.size k _ x wr wx (by have := E16.out; omega) hset
        have hset1 := hset.mono (Nat.le_succ k)
        have same : (¬ (1 ≤ x ∧ x ≤ 6) ∨ (hp hv 7 x).isSome = true) → looP (t.take (k + 1)) hv = looP (t.take k) hv := fun h => by
          funext q
          unfold looP
          rw [HE.out]
          by_cases e : q = x
          · subst e
            rcases h with h | h
            · rw [decide_eq_false h]; rfl
            · rw [h]; simp
          · simp [e]
        have HSAME : Hid ((¬ (1 ≤ x ∧ x ≤ 6) ∨ (hp hv 7 x).isSome = true) → looP (t.take (k + 1)) hv = looP (t.take k) hv) := same
        clear same
        by_cases q1 : 1 ≤ x ∧ x ≤ 6
        · rw [decide_eq_true q1] at ca
          cases q2 : (hp hv 7 x).isSome
          · rw [q2] at ct
            have HADD : Hid ((fun z => looP (t.take k) hv z || decide (z = x)) = looP (t.take (k + 1)) hv) := by
              show _ = looP (t.take (k + 1)) hv
              funext q
              unfold looP
              rw [HE.out]
              by_cases e : q = x
              · subst e; rw [decide_eq_true q1, q2]; simp
              · simp [e]
            rw [HADD.out] at cA
            clear q1
            go_wp2_with fail
            refine ca.mono ?_
            rintro e wr ⟨rfl, rfl⟩
            go_wp2_with fail
            refine ct.mono ?_
            rintro e wr ⟨rfl, rfl⟩
            go_wp2_with fail
            refine cA.mono ?_
            rintro e w5 ⟨rfl, hs5, ho⟩
            have hb5 := hbw.trans (ho.below (Nat.le_refl _) hbw.size)
            clear ca ct cA hset hset1 hbw ho hx hmw
            go_wp2
            go_roundw
            case rel => exact ⟨k + 1, by omega, by go_num, hs5, hb5⟩
            case measure => simp [intOf]; omega
          · rw [q2] at ct
            have E : looP (t.take (k + 1)) hv = looP (t.take k) hv := HSAME.out (.inr q2)
            rw [← E] at hset1
            clear E q1
            go_wp2_with fail
            refine ca.mono ?_
            rintro e wr ⟨rfl, rfl⟩
            go_wp2_with fail
            refine ct.mono ?_
            rintro e wr ⟨rfl, rfl⟩
            go_wp2
            go_roundw
            case rel => exact ⟨k + 1, by omega, by go_num, hset1, hbw⟩
            case measure => simp [intOf]; omega
        · rw [decide_eq_false q1] at ca
          have E : looP (t.take (k + 1)) hv = looP (t.take k) hv := HSAME.out (.inl q1)
          rw [← E] at hset1
          clear E
          go_wp2_with fail
          refine ca.mono ?_
          rintro e wr ⟨rfl, rfl⟩
          go_wp2
          go_roundw
          case rel => exact ⟨k + 1, by omega, by go_num, hset1, hbw⟩
          case measure => simp [intOf]; omega
      · obtain rfl : k = t.length := by omega
        rw [HA.out] at hset
        have L3 := L2.trans (hbw.mono L2.size)
        have hc := asc_any w2.heap.size t.length (looP t hv) wr (by omega) looP_in hset
        go_wp2_with fail
        refine hc.mono ?_
        rintro e w4 ⟨a, c, rfl, hin, hb⟩
        have L4 := L3.trans (hb.mono L3.size)
        replace hin := hin.mono L3.size (Nat.le_refl _)
        clear hb L3 hc
        go_wp2
        go_ret
        rw [HN.out]
        first
          | exact ⟨a, c, rfl, hin, L4⟩
          | exact ⟨a, ⟨c, rfl⟩, hin, L4⟩

end Go.Proofs.Ytagcbnngacealaa
